import PyProof.Rows.All
import Wide.All
import OpenK.AllK
import Wide.FinOn
import PyProof.EqAt
import PyProof.EqKinds
import PyProof.TupleCall
import HandS.ForMost
import HandS.ForExc
import HandS.ExcOwn
import HandS.IsInst
import KE.KDictKeyed
import KE.KDictCopyH
import KE.DataEq
import HandS.Deep
import HandS.TupAny
import HandS.More
import HandS.Flow
import HandS.Zip
import KE.DataCmp
import KE.DataFind
import KE.DataMinMax
import KE.SortData
import HandS.TupMul
import HandS.Style
import KE.KStateDown
import HandS.Head2
import HandS.Dict
import PyProof.DictDisplay
import HandS.HeadHook3
import HandS.HeadWalk
import KE.GoesEnum
import KE.SortKeyHeap
import HandS.SortKw
import HandS.Keys
import KE.KDictList
import HandS.Star
import KE.KDictPairs
import KE.KDictZip
import KE.GoesMore
import KE.GoesZip
import HandS.Small
import HandS.CallLocal
import KE.KDictSum
import HandS.Text
import HandS.TupSets
import HandS.SetBool
import HandS.Lambda
import HandS.EndTab
import HandS.ExcIs
import PySem.Challenge.RW_queryheld_k08_whole_profiles
set_option Elab.async false
set_option linter.all false
set_option maxRecDepth 100000
set_option maxHeartbeats 4000000
namespace DL
open PySem PySem.Spec PyProof.Rows L2
abbrev D := PyData
def SqLM (K : PySem.W.Frag) (M : Addr → Prop) (H : Hp) (a : Addr) (xs : List V) : Prop :=
  (Rd H a (.lst xs) ∧ ¬ M a) ∨
    ∃ (o : Obj) (its : Array Value) (n : Nat), K.lookup a = some o ∧ o.cls = .type "list" ∧ o.dict = none ∧ o.data = .seq its n ∧ its.size ≤ sizeLine ∧ Vals xs its.toList
theorem SqLM.sq {K : PySem.W.Frag} {M : Addr → Prop} {H : Hp} {a : Addr} {xs : List V} (h : SqLM K M H a xs) : SqL K H a xs := by
  rcases h with ⟨h, _⟩ | h
  · exact .inl h
  · exact .inr h
def lfV : Leaf → V
  | .none => .non
  | .num i => .int i
  | .text x => .str x
def lfD : Leaf → D
  | .none => .none
  | .num i => .int i
  | .text x => .str x
/-- no text: the hash is the program's alone -/
def lfN : Leaf → Bool
  | .text _ => false
  | _ => true
def lfH : Leaf → Int
  | .none => reduceHash 0xFCA86420
  | .num i => hashInt i
  | .text _ => 0
def lfsH (ks : List Leaf) : Int := reduceHash (Builtin.Tuple.tupleHashOf (ks.map lfH))
abbrev Rk := List Leaf × Addr × Int
def RkV (p : Rk) (q : List Leaf × Addr × Value) : Prop := p.1 = q.1 ∧ p.2.1 = q.2.1 ∧ RelV (.int p.2.2) q.2.2
def dctO (a : Addr) (ps : List Rk) : HO := .ext fun h => (a == sysModules) = false ∧ ps.length ≤ sizeLine ∧ ∃ xs : List (List Leaf × Addr × Value), Paired RkV ps xs ∧
  ∃ o es ep, h.get? a = some o ∧ o.ExactDict ∧ o.data = .dict es ep ∧ es.toList = xs.map fun x => ⟨lfsH x.1, .ref x.2.1, x.2.2⟩
/-- a dict with text keys, its values data -/
def tkV : List Str → List V → List (Key × V)
  | k :: ks, v :: vs => (.inr k, v) :: tkV ks vs
  | _, _ => []
def skD (p : Str × D) : D × D := (.str p.1, p.2)
def rkD (p : Rk) : D × D := (.tuple (p.1.map lfD), .int p.2.2)
mutual
inductive Da (K : PySem.W.Frag) (M : Addr → Prop) (H : Hp) : V → D → Prop
  | non : Da K M H .non .none
  | bl (b : Bool) : Da K M H (.bl b) (.bool b)
  | int (i : Int) : Da K M H (.int i) (.int i)
  | str (x : Str) : Da K M H (.str x) (.str x)
  | lst {a : Addr} {xs : List V} {ds : List D} : H a = some (.lst xs) → ¬ M a → DaL K M H xs ds → Da K M H (.ref a) (.list ds)
  | tup {a : Addr} {xs : List V} {ds : List D} : SqT K H a xs → DaL K M H xs ds → Da K M H (.ref a) (.tuple ds)
  | dct {a : Addr} {ps : List Rk} : H a = some (dctO a ps) → (∀ p ∈ ps, SqT K H p.2.1 (p.1.map lfV) ∧ p.1.all lfN = true) → (ps.map (·.1)).Nodup → Da K M H (.ref a) (.dict (ps.map rkD))
  | txd {a : Addr} {kvs : List (Str × D)} {xs : List V} : H a = some (.dK (tkV (kvs.map (·.1)) xs)) → ¬ M a → (kvs ≠ [] ∧ (kvs.map (·.1)).Nodup) → DaL K M H xs (kvs.map (·.2)) → Da K M H (.ref a) (.dict (kvs.map skD))
  | fzt {a : Addr} {o : Obj} {xs : List V} {ds : List D} : H a = some (.frz o (.tup xs)) → o.dict = none → DaL K M H xs ds → Da K M H (.ref a) (.dict [(.tuple ds, .none)])
inductive DaL (K : PySem.W.Frag) (M : Addr → Prop) (H : Hp) : List V → List D → Prop
  | nil : DaL K M H [] []
  | cons {v : V} {vs : List V} {d : D} {ds : List D} : Da K M H v d → DaL K M H vs ds → DaL K M H (v :: vs) (d :: ds)
end
/-- M holds lists and dicts with text keys alone -/
def mutO : HO → Prop
  | .lst _ => True
  | .dK _ => True
  | _ => False
def Ml (M : Addr → Prop) (H : Hp) : Prop := ∀ b, M b → ∃ o, H b = some o ∧ mutO o
/-- all that was tracked, but M, is as it was -/
def Kp (M : Addr → Prop) (H H' : Hp) : Prop := ∀ b o, ¬ M b → H b = some o → H' b = some o
theorem Kp.refl {M : Addr → Prop} (H : Hp) : Kp M H H := fun _ _ _ h => h
theorem Kp.trans {M : Addr → Prop} {H H1 H2 : Hp} (a : Kp M H H1) (b : Kp M H1 H2) : Kp M H H2 := fun c o n h => b c o n (a c o n h)
theorem Kp.of_same {M : Addr → Prop} {H H' : Hp} (a : Same H H') : Kp M H H' := fun c o _ h => a c o h
theorem Kp.mono {M M' : Addr → Prop} {H H' : Hp} (a : Kp M H H') (h : ∀ b, M b → M' b) : Kp M' H H' := fun c o n q => a c o (fun z => n (h c z)) q
section
variable {K : PySem.W.Frag} {M M' : Addr → Prop} {H H' : Hp}
theorem frz_kp {a : Addr} {o : Obj} {xs : List V} (h : H a = some (.frz o (.tup xs))) (ml : Ml M H) (k : Kp M H H') : H' a = some (.frz o (.tup xs)) := k _ _ (fun m => by
  obtain ⟨ys, e, q⟩ := ml _ m
  rw [h] at e; cases e; exact q) h
theorem sqt_kp {a : Addr} {xs : List V} (h : SqT K H a xs) (ml : Ml M H) (k : Kp M H H') : SqT K H' a xs := by
  rcases h with (h | ⟨o, h⟩) | h
  · refine .inl (.inl (k _ _ (fun m => ?_) h))
    obtain ⟨ys, e, q⟩ := ml _ m
    rw [h] at e; cases e; exact q
  · refine .inl (.inr ⟨o, k _ _ (fun m => ?_) h⟩)
    obtain ⟨ys, e, q⟩ := ml _ m
    rw [h] at e; cases e; exact q
  · exact .inr h
theorem sqt_same {a : Addr} {xs : List V} (s : Same H H') (h : SqT K H a xs) : SqT K H' a xs := by
  rcases h with (h | ⟨o, h⟩) | h
  · exact .inl (.inl (s _ _ h))
  · exact .inl (.inr ⟨o, s _ _ h⟩)
  · exact .inr h
theorem sqlm_kp {a : Addr} {xs : List V} (h : SqLM K M H a xs) (k : Kp M H H') : SqLM K M H' a xs := by
  rcases h with ⟨h | ⟨o, h⟩, n⟩ | h
  · exact .inl ⟨.inl (k _ _ n h), n⟩
  · exact .inl ⟨.inr ⟨o, k _ _ n h⟩, n⟩
  · exact .inr h
theorem sqlm_sub {a : Addr} {xs : List V} (h : SqLM K M H a xs) (s : ∀ b, M' b → M b) : SqLM K M' H a xs := by
  rcases h with ⟨h, n⟩ | h
  · exact .inl ⟨h, fun z => n (s _ z)⟩
  · exact .inr h
theorem dct_kp (ml : Ml M H) (k : Kp M H H') {a : Addr} {ps : List Rk} (h : H a = some (dctO a ps)) : H' a = some (dctO a ps) :=
  k _ _ (fun m => by obtain ⟨xs, e, q⟩ := ml _ m; rw [h] at e; cases e; exact q) h
mutual
theorem Da.kp (ml : Ml M H) (k : Kp M H H') : ∀ {v : V} {d : D}, Da K M H v d → Da K M H' v d
  | _, _, .non => .non
  | _, _, .bl b => .bl b
  | _, _, .int i => .int i
  | _, _, .str x => .str x
  | _, _, .lst h n t => .lst (k _ _ n h) n (DaL.kp ml k t)
  | _, _, .tup h t => .tup (sqt_kp h ml k) (DaL.kp ml k t)
  | _, _, .dct h t n => .dct (dct_kp ml k h) (fun p z => ⟨sqt_kp (t p z).1 ml k, (t p z).2⟩) n
  | _, _, .txd h n l t => .txd (k _ _ n h) n l (DaL.kp ml k t)
  | _, _, .fzt h n t => .fzt (frz_kp h ml k) n (DaL.kp ml k t)
theorem DaL.kp (ml : Ml M H) (k : Kp M H H') : ∀ {vs : List V} {ds : List D}, DaL K M H vs ds → DaL K M H' vs ds
  | _, _, .nil => .nil
  | _, _, .cons h t => .cons (Da.kp ml k h) (DaL.kp ml k t)
end
mutual
theorem Da.sub (s : ∀ b, M' b → M b) : ∀ {v : V} {d : D}, Da K M H v d → Da K M' H v d
  | _, _, .non => .non
  | _, _, .bl b => .bl b
  | _, _, .int i => .int i
  | _, _, .str x => .str x
  | _, _, .lst h n t => .lst h (fun z => n (s _ z)) (DaL.sub s t)
  | _, _, .tup h t => .tup h (DaL.sub s t)
  | _, _, .dct h t n => .dct h t n
  | _, _, .txd h n l t => .txd h (fun z => n (s _ z)) l (DaL.sub s t)
  | _, _, .fzt h n t => .fzt h n (DaL.sub s t)
theorem DaL.sub (s : ∀ b, M' b → M b) : ∀ {vs : List V} {ds : List D}, DaL K M H vs ds → DaL K M' H vs ds
  | _, _, .nil => .nil
  | _, _, .cons h t => .cons (Da.sub s h) (DaL.sub s t)
end
mutual
theorem Da.same (s : Same H H') : ∀ {v : V} {d : D}, Da K M H v d → Da K M H' v d
  | _, _, .non => .non
  | _, _, .bl b => .bl b
  | _, _, .int i => .int i
  | _, _, .str x => .str x
  | _, _, .lst h n t => .lst (s _ _ h) n (DaL.same s t)
  | _, _, .tup h t => .tup (sqt_same s h) (DaL.same s t)
  | _, _, .dct h t n => .dct (s _ _ h) (fun p z => ⟨sqt_same s (t p z).1, (t p z).2⟩) n
  | _, _, .txd h n l t => .txd (s _ _ h) n l (DaL.same s t)
  | _, _, .fzt h n t => .fzt (s _ _ h) n (DaL.same s t)
theorem DaL.same (s : Same H H') : ∀ {vs : List V} {ds : List D}, DaL K M H vs ds → DaL K M H' vs ds
  | _, _, .nil => .nil
  | _, _, .cons h t => .cons (Da.same s h) (DaL.same s t)
end
/-- no list within -/
def noL : D → Bool
  | .none => true
  | .bool _ => true
  | .int _ => true
  | .str _ => true
  | .list _ => false
  | .tuple ds => noLs ds
  | .dict _ => false
where noLs : List D → Bool
  | [] => true
  | d :: ds => noL d && noLs ds
mutual
theorem Da.any : ∀ {v : V} {d : D}, noL d = true → Da K M H v d → Da K M' H v d
  | _, _, _, .non => .non
  | _, _, _, .bl b => .bl b
  | _, _, _, .int i => .int i
  | _, _, _, .str x => .str x
  | _, _, n, .lst h _ t => by simp [noL] at n
  | _, _, n, .tup h t => .tup h (DaL.any (by simpa [noL] using n) t)
  | _, _, n, .dct _ _ _ => by simp [noL] at n
  | _, _, n, .txd _ _ _ _ => by simp [noL] at n
  | _, _, n, .fzt _ _ _ => by simp [noL] at n
theorem DaL.any : ∀ {vs : List V} {ds : List D}, noL.noLs ds = true → DaL K M H vs ds → DaL K M' H vs ds
  | _, _, _, .nil => .nil
  | _, _, n, .cons h t => by
    simp only [noL.noLs, Bool.and_eq_true] at n
    exact .cons (Da.any n.1 h) (DaL.any n.2 t)
end
mutual
theorem Da.dp : ∀ {v : V} {d : D}, Da K M H v d → d.plain = true → Dp K H v d
  | _, _, .non, _ => .non
  | _, _, .bl b, _ => .bl b
  | _, _, .int i, _ => .int i
  | _, _, .str x, _ => .str x
  | _, _, .lst h _ t, p => .lst (.of h) (DaL.dp t p)
  | _, _, .tup h t, p => .tup h (DaL.dp t p)
  | _, _, .fzt _ _ _, p => absurd p Bool.false_ne_true
theorem DaL.dp : ∀ {vs : List V} {ds : List D}, DaL K M H vs ds → PyData.plainAll ds = true → DpAll K H vs ds
  | _, _, .nil, _ => .nil
  | _, _, .cons h t, p => .cons (Da.dp h (Bool.and_eq_true_iff.mp p).1) (DaL.dp t (Bool.and_eq_true_iff.mp p).2)
end
theorem DaL.length : ∀ {vs : List V} {ds : List D}, DaL K M H vs ds → vs.length = ds.length
  | _, _, .nil => rfl
  | _, _, .cons _ t => congrArg (· + 1) (DaL.length t)
theorem DaL.get : ∀ {vs : List V} {ds : List D} {i : Nat} {d : D}, DaL K M H vs ds → ds[i]? = some d → ∃ v, vs[i]? = some v ∧ Da K M H v d
  | _, _, _, _, .nil, e => by simp at e
  | _, _, 0, _, .cons h _, e => by simp at e; subst e; exact ⟨_, rfl, h⟩
  | _, _, i + 1, d, .cons _ t, e => by
    obtain ⟨v, h1, h2⟩ := DaL.get (i := i) (d := d) t (by simpa using e)
    exact ⟨v, by simpa using h1, h2⟩
theorem DaL.append : ∀ {vs ws : List V} {ds es : List D}, DaL K M H vs ds → DaL K M H ws es → DaL K M H (vs ++ ws) (ds ++ es)
  | _, _, _, _, .nil, q => q
  | _, _, _, _, .cons h t, q => .cons h (DaL.append t q)
theorem DaL.dropLast : ∀ {vs : List V} {ds : List D}, DaL K M H vs ds → DaL K M H vs.dropLast ds.dropLast
  | _, _, .nil => .nil
  | _, _, .cons h .nil => .nil
  | _, _, .cons h (.cons h2 t) => .cons h (DaL.dropLast (.cons h2 t))
theorem DaL.take : ∀ {vs : List V} {ds : List D} (n : Nat), DaL K M H vs ds → DaL K M H (vs.take n) (ds.take n)
  | _, _, 0, _ => by simp; exact .nil
  | _, _, _ + 1, .nil => .nil
  | _, _, n + 1, .cons h t => .cons h (DaL.take n t)
theorem DaL.drop : ∀ {vs : List V} {ds : List D} (n : Nat), DaL K M H vs ds → DaL K M H (vs.drop n) (ds.drop n)
  | _, _, 0, t => t
  | _, _, _ + 1, .nil => .nil
  | _, _, n + 1, .cons h t => DaL.drop n t
/-- a new object leaves M and what is tracked -/
theorem Ml.upd {p : Addr} {o : HO} (ml : Ml M H) (hp : H p = none) : Ml M (upd H p o) := fun b m => by
  obtain ⟨xs, e, q⟩ := ml b m
  exact ⟨xs, by rw [upd_ne (ne_of_none e hp)]; exact e, q⟩
theorem same_upd {p : Addr} {o : HO} (hp : H p = none) : Same H (upd H p o) := fun b u q => by rw [upd_ne (ne_of_none q hp)]; exact q
theorem Ml.fresh {p : Addr} (ml : Ml M H) (hp : H p = none) : ¬ M p := fun m => by
  obtain ⟨xs, e, _⟩ := ml p m
  rw [hp] at e; cases e
/-- a fresh tuple, a fresh list -/
theorem Da.newT {p : Addr} {vs : List V} {ds : List D} (ml : Ml M H) (hp : H p = none) (h : DaL K M H vs ds) : Da K M (upd H p (.tup vs)) (.ref p) (.tuple ds) :=
  .tup (.inl (.inl upd_same)) (h.kp ml (.of_same (same_upd hp)))
theorem Da.newL {p : Addr} {vs : List V} {ds : List D} (ml : Ml M H) (hp : H p = none) (h : DaL K M H vs ds) : Da K M (upd H p (.lst vs)) (.ref p) (.list ds) :=
  .lst upd_same (ml.fresh hp) (h.kp ml (.of_same (same_upd hp)))
end
structure RS where
  ns : List Int
  a : Nat
  b : Int
  c : Int
inductive Out (α : Type) where
  | val (a : α)
  | exc (cls : Str) (idx : Option Int)
abbrev Mn (α : Type) := RS → Option (Out α × RS)
/-- what a frame owns: a list, a dict with text keys -/
inductive Ow where
  | l (ds : List D)
  | d (kvs : List (Str × D))
instance : Coe (List D) Ow := ⟨Ow.l⟩
def Ow.ds : Ow → List D
  | .l ds => ds
  | .d kvs => kvs.map (·.2)
def Ow.ho : Ow → List V → HO
  | .l _, xs => .lst xs
  | .d kvs, xs => .dK (tkV (kvs.map (·.1)) xs)
theorem Ow.mut (o : Ow) (xs : List V) : mutO (o.ho xs) := by cases o <;> trivial
inductive Slot where
  | hid
  | dat (d : D)
  | row
  | own (o : Ow)
abbrev Ev := List Slot
/-- where the row stands, and its script -/
structure Rw where
  a : Addr
  sc : Addr
  ns : List Int
def RowAt (K : PySem.W.Frag) (M : Addr → Prop) (H : Hp) (r : Rw) (rs : RS) : Prop :=
  (H r.a = some (.lst [.ref r.sc, .int (rs.a : Int), .int rs.b, .int rs.c]) ∧ rs.ns = r.ns) ∧ SqLM K M H r.sc (r.ns.map V.int)
/-- all that was tracked but the row -/
def Stp (r : Rw) (H H' : Hp) : Prop := ∀ b o, b ≠ r.a → H b = some o → H' b = some o
theorem Stp.refl {r : Rw} (H : Hp) : Stp r H H := fun _ _ _ h => h
theorem Stp.trans {r : Rw} {H H1 H2 : Hp} (a : Stp r H H1) (b : Stp r H1 H2) : Stp r H H2 := fun c o n h => b c o n (a c o n h)
theorem Stp.of_same {r : Rw} {H H' : Hp} (a : Same H H') : Stp r H H' := fun c o _ h => a c o h
theorem Stp.kp {M : Addr → Prop} {r : Rw} {H H' : Hp} (mr : M r.a) (a : Stp r H H') : Kp M H H' := fun b o n h => a b o (fun z => n (z ▸ mr)) h
def SlotAt (K : PySem.W.Frag) (M : Addr → Prop) (r : Rw) (σ : L2.St) (H : Hp) (i : Nat) : Slot → Prop
  | .hid => True
  | .own _ => True
  | .dat d => ∃ v, σ[i]? = some (some v) ∧ Da K M H v d
  | .row => σ[i]? = some (some (.ref r.a))
structure RelE (K : PySem.W.Frag) (M : Addr → Prop) (r : Rw) (σ : L2.St) (H : Hp) (ev : Ev) (rs : RS) : Prop where
  mr : M r.a
  ml : Ml M H
  row : RowAt K M H r rs
  slots : ∀ i s, ev[i]? = some s → SlotAt K M r σ H i s
  len : ev.length ≤ σ.length
section
variable {K : PySem.W.Frag} {M : Addr → Prop} {r : Rw} {σ : L2.St} {H H' H1 : Hp} {ev : Ev} {rs rs' : RS}
theorem Ml.stp (mr : M r.a) (ml : Ml M H) (s : Stp r H H') (rw' : RowAt K M H' r rs') : Ml M H' := fun b m => by
  by_cases e : b = r.a
  · obtain ⟨⟨q, _⟩, _⟩ := rw'
    exact ⟨.lst _, by rw [e]; exact q, trivial⟩
  · obtain ⟨xs, q, mu⟩ := ml b m
    exact ⟨xs, s _ _ e q, mu⟩
theorem SlotAt.kp {i : Nat} (ml : Ml M H) (k : Kp M H H') : ∀ {s : Slot}, SlotAt K M r σ H i s → SlotAt K M r σ H' i s
  | .hid, _ => trivial
  | .own _, _ => trivial
  | .dat d, ⟨v, e, h⟩ => ⟨v, e, h.kp ml k⟩
  | .row, h => h
theorem RelE.stp (R : RelE K M r σ H ev rs) (s : Stp r H H') (rw' : RowAt K M H' r rs') : RelE K M r σ H' ev rs' :=
  ⟨R.mr, R.ml.stp R.mr s rw', rw', fun i t e => (R.slots i t e).kp R.ml (s.kp R.mr), R.len⟩
theorem RowAt.new {p : Addr} {o : HO} (ml : Ml M H) (mr : M r.a) (h : RowAt K M H r rs) (hp : H p = none) : RowAt K M (upd H p o) r rs := by
  obtain ⟨⟨e, e'⟩, q⟩ := h
  exact ⟨⟨by rw [upd_ne (ne_of_none e hp)]; exact e, e'⟩, sqlm_kp q (.of_same (same_upd hp))⟩
theorem RelE.new {p : Addr} {o : HO} (R : RelE K M r σ H ev rs) (hp : H p = none) : RelE K M r σ (upd H p o) ev rs :=
  R.stp (.of_same (same_upd hp)) (R.row.new R.ml R.mr hp)
end
def ExA (mg : Str → Option Value) (x : Str) (i : Option Int) (cls : Value) (dd : Option Addr) (H : Hp) : Prop :=
  (∃ C, mg x = some (.ref C) ∧ cls = .ref C) ∧ (match i with
    | none => dd = none
    | some n => ∃ d, dd = some d ∧ H d = some (.xd [(("index" : Str), V.int n)]))
/-- what is wanted of an outcome -/
def Wan {α : Type} (K : PySem.W.Frag) (mg : Str → Option Value) (M : Addr → Prop) (r : Rw) (H : Hp) (rs' : RS) (E : XK) (V : α → Hp → Prop) : Out α → Prop
  | .val d => ∀ H', Stp r H H' → RowAt K M H' r rs' → V d H'
  | .exc x i => ∀ cls dd H', Stp r H H' → RowAt K M H' r rs' → ExA mg x i cls dd H' → E cls dd H'
def tE (K : PySem.W.Frag) (mg : Str → Option Value) (W : WX) (f : Ev → Mn D) : TE := fun σ H Q =>
  ∃ M r ev rs, RelE K M r σ H ev rs ∧ ∃ o rs', f ev rs = some (o, rs') ∧ Wan K mg M r H rs' (fun cls dd H' => W cls dd σ H') (fun d H' => ∀ v, Da K M H' v d → Q v H') o
def tT (K : PySem.W.Frag) (mg : Str → Option Value) (W : WX) (f : Ev → Mn Bool) : TT := fun σ H Q =>
  ∃ M r ev rs, RelE K M r σ H ev rs ∧ ∃ o rs', f ev rs = some (o, rs') ∧ Wan K mg M r H rs' (fun cls dd H' => W cls dd σ H') (fun b H' => Q b H') o
/-- arguments: data, or the row -/
inductive ArgL (K : PySem.W.Frag) (M : Addr → Prop) (r : Rw) (H : Hp) : List V → List Slot → Prop
  | nil : ArgL K M r H [] []
  | dat {v : V} {d : D} {vs : List V} {ss : List Slot} : Da K M H v d → ArgL K M r H vs ss → ArgL K M r H (v :: vs) (.dat d :: ss)
  | row {vs : List V} {ss : List Slot} : ArgL K M r H vs ss → ArgL K M r H (.ref r.a :: vs) (.row :: ss)
theorem ArgL.kp {K : PySem.W.Frag} {M : Addr → Prop} {r : Rw} {H H' : Hp} (ml : Ml M H) (k : Kp M H H') : ∀ {vs : List V} {ss : List Slot}, ArgL K M r H vs ss → ArgL K M r H' vs ss
  | _, _, .nil => .nil
  | _, _, .dat h t => .dat (h.kp ml k) (ArgL.kp ml k t)
  | _, _, .row t => .row (ArgL.kp ml k t)
theorem ArgL.length {K : PySem.W.Frag} {M : Addr → Prop} {r : Rw} {H : Hp} : ∀ {vs : List V} {ss : List Slot}, ArgL K M r H vs ss → vs.length = ss.length
  | _, _, .nil => rfl
  | _, _, .dat _ t => congrArg (· + 1) (ArgL.length t)
  | _, _, .row t => congrArg (· + 1) (ArgL.length t)
def tAr (K : PySem.W.Frag) (mg : Str → Option Value) (W : WX) (f : Ev → Mn (List Slot)) : TA := fun σ H Q =>
  ∃ M r ev rs, RelE K M r σ H ev rs ∧ ∃ o rs', f ev rs = some (o, rs') ∧ Wan K mg M r H rs' (fun cls dd H' => W cls dd σ H') (fun ss H' => ∀ vs, ArgL K M r H' vs ss → Q vs H') o
structure Gm where
  P : Program
  w : World
  K : PySem.W.Frag
  mg : Str → Option Value
  base : Heap
/-- a scope; which of its cells are stored here -/
structure Sx where
  sc : Scope
  fc : Str → Bool
structure Gd (G : Gm) (k : Nat) (sc : Sx) (N : List Str) (X : Cx) : Prop where
  hN : X.N = N
  nd : N.Nodup
  hsc : X.env.scope = sc.sc
  hfc : ∀ x, sc.fc x = true → X.fn x = true
  calm : X.calm = true
  room : Room k X.A
  hP : X.prog = G.P
  hw : X.w = G.w
  hK : X.K = G.K
  hmg : X.mg = G.mg
  hb : X.base = G.base
def SE (G : Gm) (k : Nat) (sc : Sx) (N : List Str) (e : Expr) (f : Ev → Mn D) : Prop := ∀ (X : Cx) (W : WX), Gd G k sc N X → Takes X W → PE X e (tE G.K G.mg W f)
def ST (G : Gm) (k : Nat) (sc : Sx) (N : List Str) (e : Expr) (f : Ev → Mn Bool) : Prop := ∀ (X : Cx) (W : WX), Gd G k sc N X → Takes X W → PT X e (tT G.K G.mg W f)
def SA (G : Gm) (k : Nat) (sc : Sx) (N : List Str) (es : List Expr) (f : Ev → Mn (List Slot)) : Prop := ∀ (X : Cx) (W : WX), Gd G k sc N X → Takes X W → PA X es (tAr G.K G.mg W f)
theorem pe_imp {X : Cx} {e : Expr} {t t' : TE} (h : PE X e t) (i : ∀ σ H Q, t' σ H Q → t σ H Q) : PE X e t' := ⟨fun pins s σ H Q I q => h.run pins s σ H Q I (i σ H Q q)⟩
theorem pt_imp {X : Cx} {e : Expr} {t t' : TT} (h : PT X e t) (i : ∀ σ H Q, t' σ H Q → t σ H Q) : PT X e t' := ⟨fun pins s σ H Q I q => h.run pins s σ H Q I (i σ H Q q)⟩
theorem pa_imp {X : Cx} {e : List Expr} {t t' : TA} (h : PA X e t) (i : ∀ σ H Q, t' σ H Q → t σ H Q) : PA X e t' := ⟨fun pos pins s σ H Q I q => h.run pos pins s σ H Q I (i σ H Q q)⟩
theorem pss_imp {X : Cx} {e : List Stmt} {t t' : TS} (h : PSs X e t) (i : ∀ D σ H, t' D σ H → t D σ H) : PSs X e t' := ⟨fun pins s σ H D I q => h.run pins s σ H D I (i D σ H q)⟩
theorem ps_imp {X : Cx} {e : Stmt} {t t' : TS} (h : PS X e t) (i : ∀ D σ H, t' D σ H → t D σ H) : PS X e t' := ⟨fun pins s σ H D I q => h.run pins s σ H D I (i D σ H q)⟩
def pur {α : Type} (a : α) : Mn α := fun rs => some (.val a, rs)
def bnd {α β : Type} (m : Mn α) (f : α → Mn β) : Mn β := fun rs => match m rs with
  | none => none
  | some (.val a, rs') => f a rs'
  | some (.exc x i, rs') => some (.exc x i, rs')
def lft {α : Type} (o : Option α) : Mn α := fun rs => match o with
  | none => none
  | some a => some (.val a, rs)
theorem bnd_some {α β : Type} {m : Mn α} {f : α → Mn β} {rs : RS} {o : Out β} {rs' : RS} (h : bnd m f rs = some (o, rs')) :
    (∃ a rs1, m rs = some (.val a, rs1) ∧ f a rs1 = some (o, rs')) ∨ ∃ x i, m rs = some (.exc x i, rs') ∧ o = .exc x i := by
  unfold bnd at h
  split at h
  · cases h
  · rename_i a rs1 e; exact .inl ⟨a, rs1, e, h⟩
  · rename_i x i rs1 e; cases h; exact .inr ⟨x, i, e, rfl⟩
theorem lft_some {α : Type} {v : Option α} {rs rs' : RS} {o : Out α} (h : lft v rs = some (o, rs')) : ∃ a, v = some a ∧ o = .val a ∧ rs' = rs := by
  unfold lft at h
  split at h
  · cases h
  · rename_i a; cases h; exact ⟨a, rfl, rfl, rfl⟩
end DL
namespace DL
open PySem PySem.Spec PyProof.Rows L2
section
variable {K : PySem.W.Frag} {mg : Str → Option Value} {M : Addr → Prop} {r : Rw} {σ : L2.St} {H H' H1 : Hp} {ev : Ev} {rs rs' : RS} {W : WX}
theorem Wan.stp {α : Type} {E : XK} {V : α → Hp → Prop} {o : Out α} (w : Wan K mg M r H rs' E V o) (s : Stp r H H1) : Wan K mg M r H1 rs' E V o := by
  cases o with
  | val a => exact fun H' s' rw' => w H' (s.trans s') rw'
  | exc x i => exact fun cls dd H' s' rw' e => w cls dd H' (s.trans s') rw' e
theorem Wan.exc {α β : Type} {E : XK} {V : α → Hp → Prop} {V' : β → Hp → Prop} {x : Str} {i : Option Int} (w : Wan K mg M r H rs' E V (.exc x i)) : Wan K mg M r H rs' E V' (.exc x i) := w
theorem tE_bnd {β : Type} {fa : Ev → Mn D} {kk : D → Mn β} {o : Out β} {Vb : β → Hp → Prop} {Q1 : VK} (R : RelE K M r σ H ev rs) (h : bnd (fa ev) kk rs = some (o, rs')) (w : Wan K mg M r H rs' (fun cls dd H' => W cls dd σ H') Vb o)
    (c : ∀ x rs1 H1 v, RelE K M r σ H1 ev rs1 → Stp r H H1 → Da K M H1 v x → kk x rs1 = some (o, rs') → Wan K mg M r H1 rs' (fun cls dd H' => W cls dd σ H') Vb o → Q1 v H1) : tE K mg W fa σ H Q1 := by
  rcases bnd_some h with ⟨x, rs1, e1, e2⟩ | ⟨x, i, e1, rfl⟩
  · refine ⟨M, r, ev, rs, R, .val x, rs1, e1, fun H1 s1 w1 v d1 => ?_⟩
    exact c x rs1 H1 v (R.stp s1 w1) s1 d1 e2 (w.stp s1)
  · exact ⟨M, r, ev, rs, R, .exc x i, rs', e1, w.exc⟩
theorem tT_bnd {β : Type} {fa : Ev → Mn Bool} {kk : Bool → Mn β} {o : Out β} {Vb : β → Hp → Prop} {Q1 : Bool → Hp → Prop} (R : RelE K M r σ H ev rs) (h : bnd (fa ev) kk rs = some (o, rs')) (w : Wan K mg M r H rs' (fun cls dd H' => W cls dd σ H') Vb o)
    (c : ∀ x rs1 H1, RelE K M r σ H1 ev rs1 → Stp r H H1 → kk x rs1 = some (o, rs') → Wan K mg M r H1 rs' (fun cls dd H' => W cls dd σ H') Vb o → Q1 x H1) : tT K mg W fa σ H Q1 := by
  rcases bnd_some h with ⟨x, rs1, e1, e2⟩ | ⟨x, i, e1, rfl⟩
  · refine ⟨M, r, ev, rs, R, .val x, rs1, e1, fun H1 s1 w1 => ?_⟩
    exact c x rs1 H1 (R.stp s1 w1) s1 e2 (w.stp s1)
  · exact ⟨M, r, ev, rs, R, .exc x i, rs', e1, w.exc⟩
theorem tAr_bnd {β : Type} {fa : Ev → Mn (List Slot)} {kk : List Slot → Mn β} {o : Out β} {Vb : β → Hp → Prop} {Q1 : List V → Hp → Prop} (R : RelE K M r σ H ev rs) (h : bnd (fa ev) kk rs = some (o, rs')) (w : Wan K mg M r H rs' (fun cls dd H' => W cls dd σ H') Vb o)
    (c : ∀ x rs1 H1 vs, RelE K M r σ H1 ev rs1 → Stp r H H1 → ArgL K M r H1 vs x → kk x rs1 = some (o, rs') → Wan K mg M r H1 rs' (fun cls dd H' => W cls dd σ H') Vb o → Q1 vs H1) : tAr K mg W fa σ H Q1 := by
  rcases bnd_some h with ⟨x, rs1, e1, e2⟩ | ⟨x, i, e1, rfl⟩
  · refine ⟨M, r, ev, rs, R, .val x, rs1, e1, fun H1 s1 w1 v d1 => ?_⟩
    exact c x rs1 H1 v (R.stp s1 w1) s1 d1 e2 (w.stp s1)
  · exact ⟨M, r, ev, rs, R, .exc x i, rs', e1, w.exc⟩
end
section
variable {G : Gm} {k : Nat} {sc : Sx} {N : List Str}
def visB (sc : Sx) (x : Str) : Bool := match sc.sc.names.lookup x with
  | some .local => true
  | some .cell => true
  | some .free => true
  | _ => false
theorem vis_of {sc : Sx} {x : Str} (h : visB sc x = true) : Vis sc.sc x := by
  unfold visB at h
  split at h <;> first | exact .inl (by assumption) | exact .inr (.inl (by assumption)) | exact .inr (.inr (by assumption)) | cases h
def glB (sc : Sx) (x : Str) : Bool := match sc.sc.names.lookup x with
  | some .globalImplicit => true
  | _ => false
theorem gl_of {X : Cx} {x : Str} (g : Gd G k sc N X) (h : glB sc x = true) : Gl X x := by
  unfold glB at h
  split at h
  · rename_i e
    show X.env.scope.names.lookup x = _
    rw [g.hsc]; exact e
  · cases h
def getE (ev : Ev) (i : Nat) : Option D := match ev[i]? with
  | some (.dat d) => some d
  | _ => none
theorem getE_some {ev : Ev} {i : Nat} {d : D} (h : getE ev i = some d) : ev[i]? = some (.dat d) := by
  unfold getE at h
  split at h
  · rename_i e; cases h; exact e
  · cases h
def dVar (i : Nat) (ev : Ev) : Mn D := lft (getE ev i)
theorem e_var (i : Nat) {x : Str} {p : Pos} (hi : N[i]? = some x := by rfl) (hv : visB sc x = true := by rfl) (hd : (x == ("__debug__" : Str)) = false := by decide) (hcd : (x == ("__classdict__" : Str)) = false := by decide) : SE G k sc N (.Name x p) (dVar i) := by
  intro X W g tk
  refine pe_imp (pe_var (i := i) (by rw [g.hN]; exact hi) (by rw [g.hsc]; exact vis_of hv) hd hcd) fun σ H Q h => ?_
  obtain ⟨M, r, ev, rs, R, o, rs', e, w⟩ := h
  obtain ⟨d, e1, rfl, rfl⟩ := lft_some e
  obtain ⟨v, e2, hd⟩ := R.slots i _ (getE_some e1)
  exact ⟨v, e2, w H (.refl H) R.row v hd⟩
def dLit (d : D) (_ : Ev) : Mn D := pur d
theorem e_int {i : Int} {j : Nat} {p : Pos} : SE G k sc N (.Constant (.int i) j p) (dLit (.int i)) := fun X W g tk => pe_imp pe_int fun σ H Q h => by
  obtain ⟨M, r, ev, rs, R, o, rs', e, w⟩ := h
  cases e
  exact w H (.refl H) R.row _ (.int i)
theorem e_bl {b : Bool} {j : Nat} {p : Pos} : SE G k sc N (.Constant (.bool b) j p) (dLit (.bool b)) := fun X W g tk => pe_imp pe_bl fun σ H Q h => by
  obtain ⟨M, r, ev, rs, R, o, rs', e, w⟩ := h
  cases e
  exact w H (.refl H) R.row _ (.bl b)
theorem e_non {j : Nat} {p : Pos} : SE G k sc N (.Constant .none j p) (dLit .none) := fun X W g tk => pe_imp pe_non fun σ H Q h => by
  obtain ⟨M, r, ev, rs, R, o, rs', e, w⟩ := h
  cases e
  exact w H (.refl H) R.row _ .non
theorem e_str {x : Str} {j : Nat} {p : Pos} : SE G k sc N (.Constant (.str x) j p) (dLit (.str x)) := fun X W g tk => pe_imp pe_str fun σ H Q h => by
  obtain ⟨M, r, ev, rs, R, o, rs', e, w⟩ := h
  cases e
  exact w H (.refl H) R.row _ (.str x)
/-- a module's constant that is data -/
def GlD (G : Gm) (x : Str) (d : D) : Prop := ∃ u v, G.mg x = some u ∧ RelV v u ∧ ∀ M H, Da G.K M H v d
theorem e_glob {x : Str} {d : D} {p : Pos} (h : GlD G x d) (hg : glB sc x = true := by rfl) (hdb : (x == ("__debug__" : Str)) = false := by decide) : SE G k sc N (.Name x p) (dLit d) := fun X W g tk => by
  obtain ⟨u, v, h1, h2, h3⟩ := h
  refine pe_imp (pe_glob (gl_of g hg) (by rw [g.hmg]; exact h1) h2 hdb) fun σ H Q h => ?_
  obtain ⟨M, r, ev, rs, R, o, rs', e, w⟩ := h
  cases e
  exact w H (.refl H) R.row _ (h3 M H)
theorem e_bin {e a b : Expr} {fa fb : Ev → Mn D} {op : D → D → Option D} {rl : Cx → R2} (ha : SE G k sc N a fa) (hb : SE G k sc N b fb) (mk : ∀ X ta tb, Gd G k sc N X → PE X a ta → PE X b tb → PE X e (tOp (rl X) ta tb))
    (hr : ∀ X M H x y dx dy d Q, Gd G k sc N X → Ml M H → Da G.K M H x dx → Da G.K M H y dy → op dx dy = some d → (∀ v H', Same H H' → Da G.K M H' v d → Q v H') → rl X x y H Q) :
    SE G k sc N e (fun ev => bnd (fa ev) fun x => bnd (fb ev) fun y => lft (op x y)) := fun X W g tk => by
  refine pe_imp (mk X _ _ g (ha X W g tk) (hb X W g tk)) fun σ H Q h => ?_
  obtain ⟨M, r, ev, rs, R, o, rs', e, w⟩ := h
  refine tE_bnd R e w fun x rs1 H1 v R1 s1 d1 e1 w1 => tE_bnd R1 e1 w1 fun y rs2 H2 u R2 s2 d2 e2 w2 => ?_
  obtain ⟨d, e3, rfl, rfl⟩ := lft_some e2
  refine hr X M H2 v u x y d Q g R2.ml (d1.kp R1.ml (s2.kp R.mr)) d2 e3 fun z H3 s3 d3 => ?_
  exact w2 H3 (.of_same s3) (by
    obtain ⟨⟨q1, q1'⟩, q2⟩ := R2.row
    exact ⟨⟨s3 _ _ q1, q1'⟩, sqlm_kp q2 (.of_same s3)⟩) z d3
theorem row_same {K : PySem.W.Frag} {M : Addr → Prop} {r : Rw} {rs : RS} {H H' : Hp} (h : RowAt K M H r rs) (s : Same H H') : RowAt K M H' r rs := by
  obtain ⟨⟨q1, q1'⟩, q2⟩ := h
  exact ⟨⟨s _ _ q1, q1'⟩, sqlm_kp q2 (.of_same s)⟩
theorem e_one {e a : Expr} {fa : Ev → Mn D} {op : D → Option D} {rl : Cx → V → Hp → VK → Prop} (ha : SE G k sc N a fa) (mk : ∀ X ta, Gd G k sc N X → PE X a ta → PE X e (fun σ H Q => ta σ H fun x H1 => rl X x H1 Q))
    (hr : ∀ X M H x dx d Q, Gd G k sc N X → Ml M H → Da G.K M H x dx → op dx = some d → (∀ v H', Same H H' → Da G.K M H' v d → Q v H') → rl X x H Q) :
    SE G k sc N e (fun ev => bnd (fa ev) fun x => lft (op x)) := fun X W g tk => by
  refine pe_imp (mk X _ g (ha X W g tk)) fun σ H Q h => ?_
  obtain ⟨M, r, ev, rs, R, o, rs', e, w⟩ := h
  refine tE_bnd R e w fun x rs1 H1 v R1 s1 d1 e1 w1 => ?_
  obtain ⟨d, e3, rfl, rfl⟩ := lft_some e1
  exact hr X M H1 v x d Q g R1.ml d1 e3 fun z H3 s3 d3 => w1 H3 (.of_same s3) (row_same R1.row s3) z d3
def dNil (_ : Ev) : Mn (List Slot) := pur []
def dCons (f : Ev → Mn D) (g : Ev → Mn (List Slot)) (ev : Ev) : Mn (List Slot) := bnd (f ev) fun d => bnd (g ev) fun ss => pur (.dat d :: ss)
def isRow : Option Slot → Bool
  | some .row => true
  | _ => false
theorem isRow_some {o : Option Slot} (h : isRow o = true) : o = some .row := by
  unfold isRow at h
  split at h
  · rfl
  · cases h
def dRow (i : Nat) (g : Ev → Mn (List Slot)) (ev : Ev) : Mn (List Slot) := if isRow ev[i]? = true then bnd (g ev) fun ss => pur (.row :: ss) else fun _ => none
theorem a_nil : SA G k sc N [] dNil := fun X W g tk => pa_imp pa_nil fun σ H Q h => by
  obtain ⟨M, r, ev, rs, R, o, rs', e, w⟩ := h
  cases e
  exact w H (.refl H) R.row [] .nil
theorem a_cons {e : Expr} {es : List Expr} {f : Ev → Mn D} {ff : Ev → Mn (List Slot)} (h1 : SE G k sc N e f) (h2 : SA G k sc N es ff) (hs : ∀ env, starEach (e :: es) env = (false, eval e env) :: starEach es env := by intro _; rfl) : SA G k sc N (e :: es) (dCons f ff) := fun X W g tk => by
  refine pa_imp (pa_cons (h1 X W g tk) (h2 X W g tk) (hs _)) fun σ H Q h => ?_
  obtain ⟨M, r, ev, rs, R, o, rs', e, w⟩ := h
  refine tE_bnd R e w fun x rs1 H1 v R1 s1 d1 e1 w1 => tAr_bnd R1 e1 w1 fun ss rs2 H2 vs R2 s2 d2 e2 w2 => ?_
  cases e2
  exact w2 H2 (.refl _) R2.row _ (.dat (d1.kp R1.ml (s2.kp R.mr)) d2)
theorem a_row (i : Nat) {x : Str} {p : Pos} {es : List Expr} {ff : Ev → Mn (List Slot)} (h2 : SA G k sc N es ff) (hi : N[i]? = some x := by rfl) (hv : visB sc x = true := by rfl) (hd : (x == ("__debug__" : Str)) = false := by decide) (hcd : (x == ("__classdict__" : Str)) = false := by decide) :
    SA G k sc N (.Name x p :: es) (dRow i ff) := fun X W g tk => by
  refine pa_imp (pa_cons (pe_var (i := i) (by rw [g.hN]; exact hi) (by rw [g.hsc]; exact vis_of hv) hd hcd) (h2 X W g tk) rfl) fun σ H Q h => ?_
  obtain ⟨M, r, ev, rs, R, o, rs', e, w⟩ := h
  unfold dRow at e
  split at e
  · rename_i er
    refine ⟨.ref r.a, R.slots i _ (isRow_some er), ?_⟩
    refine tAr_bnd R e w fun ss rs2 H2 vs R2 s2 d2 e2 w2 => ?_
    cases e2
    exact w2 H2 (.refl _) R2.row _ (.row d2)
  · cases e
/-- all data -/
def dats : List Slot → Option (List D)
  | [] => some []
  | .dat d :: ss => (dats ss).map (d :: ·)
  | _ :: _ => none
theorem ArgL.dats {K : PySem.W.Frag} {M : Addr → Prop} {r : Rw} {H : Hp} : ∀ {vs : List V} {ss : List Slot} {ds : List D}, ArgL K M r H vs ss → DL.dats ss = some ds → DaL K M H vs ds
  | _, _, _, .nil, e => by cases e; exact .nil
  | _, _, _, .dat h t, e => by
    unfold DL.dats at e
    cases q : DL.dats _ with
    | none => rw [q] at e; cases e
    | some es => rw [q] at e; cases e; exact .cons h (ArgL.dats t q)
  | _, _, _, .row t, e => by simp [DL.dats] at e
def dTup (f : Ev → Mn (List Slot)) (ev : Ev) : Mn D := bnd (f ev) fun ss => lft (if ss.length ≤ sizeLine then (dats ss).map .tuple else none)
def dLst (f : Ev → Mn (List Slot)) (ev : Ev) : Mn D := bnd (f ev) fun ss => lft (if ss.length ≤ sizeLine then (dats ss).map .list else none)
theorem e_tup {es : List Expr} {x1 : Nat} {p : Pos} {f : Ev → Mn (List Slot)} (h : SA G k sc N es f) : SE G k sc N (.Tuple es x1 p) (dTup f) := fun X W g tk => by
  refine pe_imp (pe_tup (h X W g tk)) fun σ H Q h => ?_
  obtain ⟨M, r, ev, rs, R, o, rs', e, w⟩ := h
  refine tAr_bnd R e w fun ss rs2 H2 vs R2 s2 d2 e2 w2 => ?_
  obtain ⟨d, e3, rfl, rfl⟩ := lft_some e2
  split at e3
  · rename_i hl
    cases q : dats ss with
    | none => rw [q] at e3; cases e3
    | some ds =>
      rw [q] at e3; cases e3
      refine ⟨by rw [d2.length]; exact hl, fun p hp => ?_⟩
      exact w2 _ (.of_same (same_upd hp)) (row_same R2.row (same_upd hp)) _ (Da.newT R2.ml hp (d2.dats q))
  · cases e3
theorem e_lst {es : List Expr} {p : Pos} {f : Ev → Mn (List Slot)} (h : SA G k sc N es f) : SE G k sc N (.List es p) (dLst f) := fun X W g tk => by
  refine pe_imp (pe_lst (h X W g tk)) fun σ H Q h => ?_
  obtain ⟨M, r, ev, rs, R, o, rs', e, w⟩ := h
  refine tAr_bnd R e w fun ss rs2 H2 vs R2 s2 d2 e2 w2 => ?_
  obtain ⟨d, e3, rfl, rfl⟩ := lft_some e2
  split at e3
  · rename_i hl
    cases q : dats ss with
    | none => rw [q] at e3; cases e3
    | some ds =>
      rw [q] at e3; cases e3
      refine ⟨by rw [d2.length]; exact hl, fun p hp => ?_⟩
      exact w2 _ (.of_same (same_upd hp)) (row_same R2.row (same_upd hp)) _ (Da.newL R2.ml hp (d2.dats q))
  · cases e3
def spF (G : Gm) (n : Nat) (φ : List Slot → Mn D) : Sp := fun vs H Q E => vs.length = n ∧
  ∃ M r ss rs, M (Rw.a r) ∧ Ml M H ∧ RowAt G.K M H r rs ∧ ArgL G.K M r H vs ss ∧ ∃ o rs', φ ss rs = some (o, rs') ∧ Wan G.K G.mg M r H rs' E (fun d H' => ∀ v, Da G.K M H' v d → Q v H') o
def FO (G : Gm) (k : Nat) (x : Str) (n : Nat) (φ : List Slot → Mn D) : Prop :=
  ∃ (f : Addr) (fd : FuncData) (ps : List Str), G.mg x = some (.ref f) ∧ PySem.W.keepIn G.K (.ref f) = true ∧ Binds G.K fd ps [] ∧ ps.length = n ∧ FnOk G.P G.w G.K G.mg G.base (L2.CX G.P G.w) k f fd ps (spF G n φ)
/-- less is said -/
theorem FO.less {j : Nat} {x : Str} {n : Nat} {φ φ' : List Slot → Mn D} (h : FO G j x n φ) (l : ∀ ss rs o, φ' ss rs = some o → ss.length = n → φ ss rs = some o) : FO G j x n φ' := by
  obtain ⟨f, fd, ps, h1, h2, h3, h4, h5⟩ := h
  refine ⟨f, fd, ps, h1, h2, h3, h4, h5.imp fun vs H Q E q => ?_⟩
  obtain ⟨hn, M, r, ss, rs, m, ml, ro, ar, o, rs', e, w⟩ := q
  exact ⟨hn, M, r, ss, rs, m, ml, ro, ar, o, rs', l _ _ _ e (by rw [← ar.length]; exact hn), w⟩
def dCl (n : Nat) (φ : List Slot → Mn D) (f : Ev → Mn (List Slot)) (ev : Ev) : Mn D := bnd (f ev) fun ss => if ss.length = n then φ ss else fun _ => none
theorem e_call {x : Str} {n j : Nat} {φ : List Slot → Mn D} {p pos : Pos} {e : Expr} {es : List Expr} {f : Ev → Mn (List Slot)} (F : FO G j x n φ) (ha : SA G k sc N (e :: es) f) (hj : j ≤ k := by decide) (hg : glB sc x = true := by rfl) (hdb : (x == ("__debug__" : Str)) = false := by decide)
    (he : ∀ env, starEach (e :: es) env = (false, eval e env) :: starEach es env := by intro _; rfl) (hpl : ∀ env, (backTo pos (starEach es env)).any (·.1) = false := by intro _; rfl) : SE G k sc N (.Call (.Name x p) (e :: es) [] pos) (dCl n φ f) := fun X W g tk => by
  obtain ⟨fa, fd, ps, h1, h2, h3, h4, h5⟩ := F
  have F' : FnOk X.prog X.w X.K X.mg X.base (L2.CX X.prog X.w) j fa fd ps (spF G n φ) := by rw [g.hP, g.hw, g.hK, g.hmg, g.hb]; exact h5
  refine pe_imp (pe_callS F' (g.room.mono hj) (gl_of g hg) (by rw [g.hmg]; exact h1) (by rw [g.hK]; exact h2) (by rw [g.hK]; exact h3) (fun σ => passAt tk σ) (ha X W g tk) hdb (he _) (hpl _)) fun σ H Q h => ?_
  obtain ⟨M, r, ev, rs, R, o, rs', e, w⟩ := h
  refine tAr_bnd R e w fun ss rs2 H2 vs R2 s2 d2 e2 w2 => ?_
  split at e2
  · rename_i hl
    exact ⟨by rw [d2.length]; exact hl, M, r, ss, rs2, R2.mr, R2.ml, R2.row, d2, o, rs', e2, w2⟩
  · cases e2
end
end DL
namespace DL
open PySem PySem.Spec PyProof.Rows L2
section
variable {G : Gm} {k : Nat} {sc : Sx} {N : List Str}
theorem atI_da {K : PySem.W.Frag} {M : Addr → Prop} {H : Hp} {vs : List V} {ds : List D} {i : Int} {d : D} (h : DaL K M H vs ds) (e : atI ds i = some d) : ∃ v, atI vs i = some v ∧ Da K M H v d := by
  unfold atI at e ⊢
  rw [h.length]
  cases q : ixN ds.length i with
  | none => rw [q] at e; cases e
  | some j =>
    rw [q] at e
    obtain ⟨v, h1, h2⟩ := h.get (i := j) e
    exact ⟨v, h1, h2⟩
def ixD : D → D → Option D
  | .tuple ds, .int i => atI ds i
  | .list ds, .int i => atI ds i
  | .str z, .int i => if z.length ≤ sizeLine then (atI z.cps.toList i).map fun c => .str ⟨#[c]⟩ else none
  | _, _ => none
theorem e_ix {a b : Expr} {fa fb : Ev → Mn D} {p : Pos} (ha : SE G k sc N a fa) (hb : SE G k sc N b fb) (hs : ∀ o i, subscripted b false o i = operate [o, i] (getItem o i) := by intro _ _; rfl) :
    SE G k sc N (.Subscript a b p) (fun ev => bnd (fa ev) fun x => bnd (fb ev) fun y => lft (ixD x y)) := by
  refine e_bin (rl := fun X => rIx X.K) ha hb (fun X ta tb g h1 h2 => pe_ix ix_seq h1 h2 hs) fun X M H x y dx dy d Q g ml hx hy e hq => ?_
  rw [g.hK]
  cases hx with
  | tup h t =>
    cases hy with
    | int i =>
      obtain ⟨v, h1, h2⟩ := atI_da t e
      exact .inr (.inl ⟨_, _, i, v, rfl, rfl, h, h1, hq v H (.refl H) h2⟩)
    | _ => cases e
  | lst h n t =>
    cases hy with
    | int i =>
      obtain ⟨v, h1, h2⟩ := atI_da t e
      exact .inl ⟨_, _, i, v, rfl, rfl, .of h, h1, hq v H (.refl H) h2⟩
    | _ => cases e
  | str z =>
    cases hy with
    | int i =>
      have e : (if z.length ≤ sizeLine then (atI z.cps.toList i).map (fun c => PyData.str ⟨#[c]⟩) else none) = some d := e
      split at e
      · rename_i hl
        cases q : atI z.cps.toList i with
        | none => rw [q] at e; cases e
        | some c => rw [q] at e; cases e; exact .inr (.inr ⟨z, i, c, rfl, rfl, hl, q, hq _ H (.refl H) (.str _)⟩)
      · cases e
    | _ => cases e
  | _ => cases hy <;> cases e
def cutL (xs : List D) (lo hi : Option Int) : List D := (xs.drop (HT.sIx xs.length 0 lo)).take (HT.sIx xs.length xs.length hi - HT.sIx xs.length 0 lo)
/-- x[lo:] -/
def slLo : D → D → Option D
  | .tuple ds, .int i => some (.tuple (cutL ds (some i) none))
  | .list ds, .int i => some (.list (cutL ds (some i) none))
  | _, _ => none
def CmpR (G : Gm) (k : Nat) (sc : Sx) (N : List Str) (op : CmpOp) (f : D → D → Option Bool) : Prop :=
  ∀ X, Gd G k sc N X → ∃ rl : R2, OpR X (compareOp op) rl ∧ ∀ M H x y dx dy b Q, Ml M H → Da G.K M H x dx → Da G.K M H y dy → f dx dy = some b → Q (.bl b) H → rl x y H Q
theorem e_cmp {a b : Expr} {fa fb : Ev → Mn D} {op : CmpOp} {f : D → D → Option Bool} {p : Pos} (c : CmpR G k sc N op f) (ha : SE G k sc N a fa) (hb : SE G k sc N b fb) (hm : behindInMarks op b = false := by first | exact nomark _ (by decide) (by decide) | rfl) :
    SE G k sc N (.Compare a [op] [b] p) (fun ev => bnd (fa ev) fun x => bnd (fb ev) fun y => lft ((f x y).map .bool)) := fun X W g tk => by
  obtain ⟨rl, ho, hr⟩ := c X g
  refine pe_imp (pe_cmpR ho (ha X W g tk) (hb X W g tk) hm) fun σ H Q h => ?_
  obtain ⟨M, r, ev, rs, R, o, rs', e, w⟩ := h
  refine tE_bnd R e w fun x rs1 H1 v R1 s1 d1 e1 w1 => tE_bnd R1 e1 w1 fun y rs2 H2 u R2 s2 d2 e2 w2 => ?_
  obtain ⟨d, e3, rfl, rfl⟩ := lft_some e2
  cases q : f x y with
  | none => rw [q] at e3; cases e3
  | some c => rw [q] at e3; cases e3; exact hr M H2 v u x y c Q R2.ml (d1.kp R1.ml (s2.kp R.mr)) d2 q (w2 H2 (.refl _) R2.row _ (.bl c))
theorem t_cmp {a b : Expr} {fa fb : Ev → Mn D} {op : CmpOp} {f : D → D → Option Bool} {p : Pos} (c : CmpR G k sc N op f) (ha : SE G k sc N a fa) (hb : SE G k sc N b fb) (hm : behindInMarks op b = false := by first | exact nomark _ (by decide) (by decide) | rfl) :
    ST G k sc N (.Compare a [op] [b] p) (fun ev => bnd (fa ev) fun x => bnd (fb ev) fun y => lft (f x y)) := fun X W g tk => by
  obtain ⟨rl, ho, hr⟩ := c X g
  refine pt_imp (pt_cmpR ho (ha X W g tk) (hb X W g tk) hm) fun σ H Q h => ?_
  obtain ⟨M, r, ev, rs, R, o, rs', e, w⟩ := h
  refine tE_bnd R e w fun x rs1 H1 v R1 s1 d1 e1 w1 => tE_bnd R1 e1 w1 fun y rs2 H2 u R2 s2 d2 e2 w2 => ?_
  obtain ⟨c, e3, rfl, rfl⟩ := lft_some e2
  exact hr M H2 v u x y c _ R2.ml (d1.kp R1.ml (s2.kp R.mr)) d2 e3 ⟨c, rfl, w2 H2 (.refl _) R2.row⟩
theorem plain_sh {d : D} (h : SeqAt.shaped d = true) : d.plain = true := PyData.plain_of_canLay0 d (SeqAt.canLay_of_shaped h)
def eqD (x y : D) : Option Bool := if SeqAt.shaped x = true ∧ SeqAt.shaped y = true then some (PyData.eqv x y) else none
def neD (x y : D) : Option Bool := if SeqAt.shaped x = true ∧ SeqAt.shaped y = true then some (!PyData.eqv x y) else none
theorem c_eq : CmpR G k sc N .Eq eqD := fun X g => ⟨_, op_eqD g.room.units, fun M H x y dx dy b Q ml hx hy e q => by
  unfold eqD at e
  split at e
  · rename_i hs; cases e; rw [g.hK]; exact ⟨dx, dy, hx.dp (plain_sh hs.1), hy.dp (plain_sh hs.2), hs.1, hs.2, q⟩
  · cases e⟩
theorem c_ne : CmpR G k sc N .NotEq neD := fun X g => ⟨_, op_neD g.room.units, fun M H x y dx dy b Q ml hx hy e q => by
  unfold neD at e
  split at e
  · rename_i hs; cases e; rw [g.hK]; exact ⟨dx, dy, hx.dp (plain_sh hs.1), hy.dp (plain_sh hs.2), hs.1, hs.2, q⟩
  · cases e⟩
/-- x is y, y None or a bool -/
def isD : D → D → Option Bool
  | .none, .none => some true
  | _, .none => some false
  | .bool a, .bool b => some (decide (a = b))
  | _, .bool _ => some false
  | _, _ => none
def rIsD (K : PySem.W.Frag) : R2 := fun x y H Q => ∃ M dx dy b, Da K M H x dx ∧ Da K M H y dy ∧ isD dx dy = some b ∧ Q (.bl b) H
theorem is_fact {X : Cx} {K : PySem.W.Frag} {M : Addr → Prop} {H : Hp} {x y : V} {dx dy : D} {b : Bool} {v u : Value} (hx : Da K M H x dx) (hy : Da K M H y dy) (e : isD dx dy = some b) (rx : RelV x v) (ry : RelV y u) : plainIs v u = true ∧ (v == u) = b := by
  cases hy with
  | non =>
    cases ry
    cases hx with
    | non => cases rx; cases e; exact ⟨rfl, rfl⟩
    | bl c => cases rx; cases e; exact ⟨rfl, rfl⟩
    | int i => obtain ⟨t, rfl⟩ := rx; cases e; exact ⟨rfl, rfl⟩
    | str z => obtain ⟨t, rfl⟩ := rx; cases e; exact ⟨rfl, rfl⟩
    | lst h n t => cases rx; cases e; exact ⟨rfl, rfl⟩
    | tup h t => cases rx; cases e; exact ⟨rfl, rfl⟩
    | dct h t n => cases rx; cases e; exact ⟨rfl, rfl⟩
    | txd h n l t => cases rx; cases e; exact ⟨rfl, rfl⟩
    | fzt h n t => cases rx; cases e; exact ⟨rfl, rfl⟩
  | bl c =>
    cases ry
    cases hx with
    | non => cases rx; cases e; exact ⟨rfl, rfl⟩
    | bl c' =>
      cases rx
      have e : some (decide (c' = c)) = some b := e
      cases e
      refine ⟨rfl, ?_⟩
      cases c <;> cases c' <;> rfl
    | int i => obtain ⟨t, rfl⟩ := rx; cases e; exact ⟨rfl, rfl⟩
    | str z => obtain ⟨t, rfl⟩ := rx; cases e; exact ⟨rfl, rfl⟩
    | lst h n t => cases rx; cases e; exact ⟨rfl, rfl⟩
    | tup h t => cases rx; cases e; exact ⟨rfl, rfl⟩
    | dct h t n => cases rx; cases e; exact ⟨rfl, rfl⟩
    | txd h n l t => cases rx; cases e; exact ⟨rfl, rfl⟩
    | fzt h n t => cases rx; cases e; exact ⟨rfl, rfl⟩
  | _ => cases hx <;> cases e
theorem op_isD {X : Cx} : OpR X (compareOp .Is) (rIsD X.K) := by
  intro pins s σ H x y v u Q I rx ry h
  obtain ⟨M, dx, dy, b, hx, hy, e, q⟩ := h
  obtain ⟨p, e2⟩ := is_fact (X := X) hx hy e rx ry
  exact wpAny_is_plain p ⟨.bl b, H, I, by rw [e2]; rfl, q⟩
theorem c_is : CmpR G k sc N .Is isD := fun X g => ⟨_, op_isD, fun M H x y dx dy b Q ml hx hy e q => by rw [g.hK]; exact ⟨M, dx, dy, b, hx, hy, e, q⟩⟩
/-- x in y, y a list or a tuple, of flat things or of data -/
def inD (x y : D) : Option Bool := match y with
  | .list ds => if SeqAt.shaped x = true ∧ SeqAt.shaped (.list ds) = true then some (ds.any fun z => PyData.eqv z x) else none
  | .tuple ds => if flatD x = true ∧ ds.all flatD = true then some (ds.any fun z => PyData.eqv z x) else none
  | _ => none
where flatD : D → Bool
  | .none => true
  | .bool _ => true
  | .int _ => true
  | .str _ => true
  | _ => false
theorem flat_v {K : PySem.W.Frag} {M : Addr → Prop} {H : Hp} {x : V} {d : D} (h : Da K M H x d) (f : inD.flatD d = true) : flatV x = true := by
  cases h <;> first | rfl | cases f
theorem flat_vs {K : PySem.W.Frag} {M : Addr → Prop} {H : Hp} : ∀ {xs : List V} {ds : List D}, DaL K M H xs ds → ds.all inD.flatD = true → xs.all flatV = true
  | _, _, .nil, _ => rfl
  | _, _, .cons h t, f => by
    simp only [List.all_cons, Bool.and_eq_true] at f ⊢
    exact ⟨flat_v h f.1, flat_vs t f.2⟩
theorem eqV_d {K : PySem.W.Frag} {M : Addr → Prop} {H : Hp} {x y : V} {dx dy : D} (hx : Da K M H x dx) (hy : Da K M H y dy) (fx : inD.flatD dx = true) (fy : inD.flatD dy = true) : eqV x y = PyData.eqv dx dy := by
  cases hx <;> cases hy <;> first | (simp only [PyData.eqv, eqV]; done) | rfl | cases fx | cases fy
theorem any_d {K : PySem.W.Frag} {M : Addr → Prop} {H : Hp} {x : V} {dx : D} (hx : Da K M H x dx) (fx : inD.flatD dx = true) : ∀ {ys : List V} {ds : List D}, DaL K M H ys ds → ds.all inD.flatD = true → inV x ys = ds.any fun z => PyData.eqv z dx
  | _, _, .nil, _ => rfl
  | _, _, .cons h t, f => by
    simp only [List.all_cons, Bool.and_eq_true] at f
    have ih := any_d hx fx t f.2
    unfold inV at ih ⊢
    rw [List.any_cons, List.any_cons, ih, eqV_d h hx f.1 fx]
theorem in_go {X : Cx} {M : Addr → Prop} {H : Hp} {x y : V} {dx dy : D} {b : Bool} (hx : Da X.K M H x dx) (hy : Da X.K M H y dy) (e : inD dx dy = some b) :
    (∃ ds, dy = .list ds ∧ SeqAt.shaped dx = true ∧ SeqAt.shaped (.list ds) = true ∧ b = ds.any fun z => PyData.eqv z dx) ∨ (∃ p xs, y = .ref p ∧ (SqL X.K H p xs ∨ SqT X.K H p xs) ∧ flatV x = true ∧ xs.all flatV = true ∧ inV x xs = b) := by
  unfold inD at e
  split at e
  · rename_i ds
    split at e
    · rename_i hs; cases e; exact .inl ⟨ds, rfl, hs.1, hs.2, rfl⟩
    · cases e
  · rename_i ds
    split at e
    · rename_i hs
      cases e
      cases hy with
      | tup h t => exact .inr ⟨_, _, rfl, .inr h, flat_v hx hs.1, flat_vs t hs.2, any_d hx hs.1 t hs.2⟩
    · cases e
  · cases e
theorem units65 {X : Cx} (g : Gd G k sc N X) (hk : 1 ≤ k) : X.A.units + 65 < cLine := by
  have := (g.room.mono hk).un
  omega
theorem c_in (hk : 1 ≤ k := by decide) : CmpR G k sc N .In inD := fun X g => ⟨_, (op_inD (units65 g hk)).or op_in_seq, fun M H x y dx dy b Q ml hx hy e q => by
  rw [← g.hK] at hx hy
  rcases in_go hx hy e with ⟨ds, rfl, h1, h2, rfl⟩ | ⟨p, xs, rfl, h1, h2, h3, rfl⟩
  · exact .inl ⟨dx, ds, hx.dp (plain_sh h1), hy.dp (plain_sh h2), h1, h2, q⟩
  · exact .inr ⟨p, xs, rfl, h1, h2, h3, q⟩⟩
end
end DL
namespace DL
open PySem PySem.Spec PyProof.Rows L2
section
variable {G : Gm} {k : Nat} {sc : Sx} {N : List Str}
def truD : D → Option Bool
  | .none => some false
  | .bool b => some b
  | .int i => some (i != 0)
  | .str y => if y.length ≤ sizeLine then some ((y.length : Int) != 0) else none
  | .list ds => some (!ds.isEmpty)
  | .tuple ds => some (!ds.isEmpty)
  | .dict _ => none
theorem isEmpty_da {K : PySem.W.Frag} {M : Addr → Prop} {H : Hp} {vs : List V} {ds : List D} (h : DaL K M H vs ds) : (!vs.isEmpty) = !ds.isEmpty := by cases h <;> rfl
theorem tru_da {K : PySem.W.Frag} {M : Addr → Prop} {H : Hp} {x : V} {d : D} {b : Bool} (h : Da K M H x d) (e : truD d = some b) : TruV K x H b := by
  cases h with
  | non => cases e; rfl
  | bl c => cases e; rfl
  | int i => cases e; rfl
  | str y =>
    have e : (if y.length ≤ sizeLine then some ((y.length : Int) != 0) else none) = some b := e
    split at e
    · rename_i hl; cases e; exact ⟨hl, rfl⟩
    · cases e
  | lst h n t => cases e; exact .inl ⟨_, .of h, (isEmpty_da t).symm⟩
  | tup h t => cases e; exact .inr (.inl ⟨_, h, (isEmpty_da t).symm⟩)
  | dct h t n => cases e
  | txd h n l t => cases e
  | fzt h n t => cases e
def dTru (f : Ev → Mn D) (ev : Ev) : Mn Bool := bnd (f ev) fun x => lft (truD x)
theorem t_val {e : Expr} {f : Ev → Mn D} (h : SE G k sc N e f) (he : ∀ env whole, isTrue e env whole = (do let v ← whole; standAt e.pos; holding [v] (truthy v)) := by intro _ _; rfl) : ST G k sc N e (dTru f) := fun X W g tk => by
  refine pt_imp (pt_truth (h X W g tk) (he _)) fun σ H Q h => ?_
  obtain ⟨M, r, ev, rs, R, o, rs', e, w⟩ := h
  refine tE_bnd R e w fun x rs1 H1 v R1 s1 d1 e1 w1 => ?_
  obtain ⟨c, e3, rfl, rfl⟩ := lft_some e1
  rw [g.hK]
  exact ⟨c, tru_da d1 e3, w1 H1 (.refl _) R1.row⟩
def SW (G : Gm) (k : Nat) (sc : Sx) (N : List Str) (e : Expr) (f : Ev → Mn Bool) : Prop := ∀ (X : Cx) (W : WX), Gd G k sc N X → Takes X W → PW X e (tT G.K G.mg W f)
theorem pw_imp {X : Cx} {e : Expr} {t t' : TT} (h : PW X e t) (i : ∀ σ H Q, t' σ H Q → t σ H Q) : PW X e t' := ⟨fun wh pins s σ H Q I q => h.run wh pins s σ H Q I (i σ H Q q)⟩
theorem w_and1 {a : Expr} {fa : Ev → Mn Bool} {p : Pos} (h : ST G k sc N a fa) : SW G k sc N (.BoolOp .And [a] p) fa := fun X W g tk => pw_and1 (h X W g tk)
theorem w_or1 {a : Expr} {fa : Ev → Mn Bool} {p : Pos} (h : ST G k sc N a fa) : SW G k sc N (.BoolOp .Or [a] p) fa := fun X W g tk => pw_or1 (h X W g tk)
def dAnd (fa fb : Ev → Mn Bool) (ev : Ev) : Mn Bool := bnd (fa ev) fun c => if c = true then fb ev else pur false
def dOr (fa fb : Ev → Mn Bool) (ev : Ev) : Mn Bool := bnd (fa ev) fun c => if c = true then pur true else fb ev
theorem w_and {a b : Expr} {rest : List Expr} {fa fb : Ev → Mn Bool} {p : Pos} (ha : ST G k sc N a fa) (hb : SW G k sc N (.BoolOp .And (b :: rest) p) fb) : SW G k sc N (.BoolOp .And (a :: b :: rest) p) (dAnd fa fb) := fun X W g tk => by
  refine pw_imp (pw_and (ha X W g tk) (hb X W g tk)) fun σ H Q h => ?_
  obtain ⟨M, r, ev, rs, R, o, rs', e, w⟩ := h
  refine tT_bnd R e w fun x rs1 H1 R1 s1 e1 w1 => ?_
  cases x with
  | true => rw [if_pos rfl] at e1; rw [if_pos rfl]; exact ⟨M, r, ev, rs1, R1, o, rs', e1, w1⟩
  | false => rw [if_neg (by decide)] at e1; rw [if_neg (by decide)]; cases e1; exact w1 H1 (.refl _) R1.row
theorem w_or {a b : Expr} {rest : List Expr} {fa fb : Ev → Mn Bool} {p : Pos} (ha : ST G k sc N a fa) (hb : SW G k sc N (.BoolOp .Or (b :: rest) p) fb) : SW G k sc N (.BoolOp .Or (a :: b :: rest) p) (dOr fa fb) := fun X W g tk => by
  refine pw_imp (pw_or (ha X W g tk) (hb X W g tk)) fun σ H Q h => ?_
  obtain ⟨M, r, ev, rs, R, o, rs', e, w⟩ := h
  refine tT_bnd R e w fun x rs1 H1 R1 s1 e1 w1 => ?_
  cases x with
  | true => rw [if_pos rfl] at e1; rw [if_pos rfl]; cases e1; exact w1 H1 (.refl _) R1.row
  | false => rw [if_neg (by decide)] at e1; rw [if_neg (by decide)]; exact ⟨M, r, ev, rs1, R1, o, rs', e1, w1⟩
theorem t_w {e : Expr} {f : Ev → Mn Bool} (h : SW G k sc N e f) : ST G k sc N e f := fun X W g tk => (h X W g tk).pt
def dNot (f : Ev → Mn Bool) (ev : Ev) : Mn Bool := bnd (f ev) fun c => pur (!c)
theorem t_not {a : Expr} {f : Ev → Mn Bool} {p : Pos} (h : ST G k sc N a f) : ST G k sc N (.UnaryOp .Not a p) (dNot f) := fun X W g tk => by
  refine pt_imp (pt_not (h X W g tk)) fun σ H Q h => ?_
  obtain ⟨M, r, ev, rs, R, o, rs', e, w⟩ := h
  refine tT_bnd R e w fun x rs1 H1 R1 s1 e1 w1 => ?_
  cases e1
  exact w1 H1 (.refl _) R1.row
/-- as values -/
def dOrV (fa fb : Ev → Mn D) (ev : Ev) : Mn D := bnd (fa ev) fun x => bnd (lft (truD x)) fun c => if c = true then pur x else fb ev
def dAndV (fa fb : Ev → Mn D) (ev : Ev) : Mn D := bnd (fa ev) fun x => bnd (lft (truD x)) fun c => if c = true then fb ev else pur x
theorem bnd_lft {α β : Type} {v : Option α} {f : α → Mn β} {rs rs' : RS} {o : Out β} (h : bnd (lft v) f rs = some (o, rs')) : ∃ a, v = some a ∧ f a rs = some (o, rs') := by
  cases v with
  | none => simp [bnd, lft] at h
  | some a => exact ⟨a, rfl, h⟩
theorem e_or1 {a : Expr} {op : BoolOp} {fa : Ev → Mn D} {p : Pos} (h : SE G k sc N a fa) : SE G k sc N (.BoolOp op [a] p) fa := fun X W g tk => pe_one (h X W g tk)
theorem e_or {a b : Expr} {rest : List Expr} {fa fb : Ev → Mn D} {p : Pos} (ha : SE G k sc N a fa) (hb : SE G k sc N (.BoolOp .Or (b :: rest) p) fb) : SE G k sc N (.BoolOp .Or (a :: b :: rest) p) (dOrV fa fb) := fun X W g tk => by
  refine pe_imp (pe_orT (ha X W g tk) (hb X W g tk)) fun σ H Q h => ?_
  obtain ⟨M, r, ev, rs, R, o, rs', e, w⟩ := h
  refine tE_bnd R e w fun x rs1 H1 v R1 s1 d1 e1 w1 => ?_
  obtain ⟨c, e2, e3⟩ := bnd_lft e1
  rw [g.hK]
  refine ⟨c, tru_da d1 e2, ?_⟩
  cases c with
  | true => rw [if_pos rfl] at e3; rw [if_pos rfl]; cases e3; exact w1 H1 (.refl _) R1.row v d1
  | false => rw [if_neg (by decide)] at e3; rw [if_neg (by decide)]; exact ⟨M, r, ev, rs1, R1, o, rs', e3, w1⟩
theorem e_and {a b : Expr} {rest : List Expr} {fa fb : Ev → Mn D} {p : Pos} (ha : SE G k sc N a fa) (hb : SE G k sc N (.BoolOp .And (b :: rest) p) fb) : SE G k sc N (.BoolOp .And (a :: b :: rest) p) (dAndV fa fb) := fun X W g tk => by
  refine pe_imp (pe_andT (ha X W g tk) (hb X W g tk)) fun σ H Q h => ?_
  obtain ⟨M, r, ev, rs, R, o, rs', e, w⟩ := h
  refine tE_bnd R e w fun x rs1 H1 v R1 s1 d1 e1 w1 => ?_
  obtain ⟨c, e2, e3⟩ := bnd_lft e1
  rw [g.hK]
  refine ⟨c, tru_da d1 e2, ?_⟩
  cases c with
  | true => rw [if_pos rfl] at e3; rw [if_pos rfl]; exact ⟨M, r, ev, rs1, R1, o, rs', e3, w1⟩
  | false => rw [if_neg (by decide)] at e3; rw [if_neg (by decide)]; cases e3; exact w1 H1 (.refl _) R1.row v d1
def dNotV (f : Ev → Mn D) (ev : Ev) : Mn D := bnd (f ev) fun x => lft ((truD x).map fun c => .bool (!c))
theorem e_not {a : Expr} {fa : Ev → Mn D} {p : Pos} (ha : SE G k sc N a fa) : SE G k sc N (.UnaryOp .Not a p) (dNotV fa) :=
  e_one (rl := fun X x H Q => ∃ c, TruV X.K x H c ∧ Q (.bl (!c)) H) ha (fun X ta g h => pe_notT h) fun X M H x dx d Q g ml hx e hq => by
    rw [g.hK]
    cases q : truD dx with
    | none => rw [q] at e; cases e
    | some c => rw [q] at e; cases e; exact ⟨c, tru_da hx q, hq _ H (.refl _) (.bl _)⟩
def dIf (t : Ev → Mn Bool) (fa fb : Ev → Mn D) (ev : Ev) : Mn D := bnd (t ev) fun c => if c = true then fa ev else fb ev
theorem e_if {c a b : Expr} {t : Ev → Mn Bool} {fa fb : Ev → Mn D} {p : Pos} (hc : ST G k sc N c t) (ha : SE G k sc N a fa) (hb : SE G k sc N b fb) : SE G k sc N (.IfExp c a b p) (dIf t fa fb) := fun X W g tk => by
  refine pe_imp (pe_ifExp (hc X W g tk) (ha X W g tk) (hb X W g tk)) fun σ H Q h => ?_
  obtain ⟨M, r, ev, rs, R, o, rs', e, w⟩ := h
  refine tT_bnd R e w fun x rs1 H1 R1 s1 e1 w1 => ?_
  cases x with
  | true => rw [if_pos rfl] at e1; rw [if_pos rfl]; exact ⟨M, r, ev, rs1, R1, o, rs', e1, w1⟩
  | false => rw [if_neg (by decide)] at e1; rw [if_neg (by decide)]; exact ⟨M, r, ev, rs1, R1, o, rs', e1, w1⟩
/-- a < b < c -/
def dChain (f f' : D → D → Option Bool) (fa fb fc : Ev → Mn D) (ev : Ev) : Mn D := bnd (fa ev) fun x => bnd (fb ev) fun y => bnd (lft (f x y)) fun c => if c = true then bnd (fc ev) fun z => lft ((f' y z).map .bool) else pur (.bool false)
def dChainT (f f' : D → D → Option Bool) (fa fb fc : Ev → Mn D) (ev : Ev) : Mn Bool := bnd (fa ev) fun x => bnd (fb ev) fun y => bnd (lft (f x y)) fun c => if c = true then bnd (fc ev) fun z => lft (f' y z) else pur false
def addD : D → D → Option D
  | .int i, .int j => some (.int (i + j))
  | .str x, .str y => if x.length + y.length ≤ sizeLine then some (.str (x ++ y)) else none
  | .tuple xs, .tuple ys => if xs.length + ys.length ≤ sizeLine then some (.tuple (xs ++ ys)) else none
  | .list xs, .list ys => if xs.length + ys.length ≤ sizeLine then some (.list (xs ++ ys)) else none
  | _, _ => none
theorem op_addA {X : Cx} : OpR X (binaryOp .Add) (fun x y H Q => rI0 (fun i j => .int (i + j)) x y H Q ∨ (∃ i j, x = .str i ∧ y = .str j ∧ i.length + j.length ≤ sizeLine ∧ Q (.str (i ++ j)) H) ∨ rCatA X.K x y H Q ∨ rCat x y H Q) :=
  op_add.or (op_add_str.or (op_catA.or op_cat))
theorem e_add {a b : Expr} {fa fb : Ev → Mn D} {p : Pos} (ha : SE G k sc N a fa) (hb : SE G k sc N b fb) : SE G k sc N (.BinOp a .Add b p) (fun ev => bnd (fa ev) fun x => bnd (fb ev) fun y => lft (addD x y)) := by
  refine e_bin ha hb (fun X ta tb g h1 h2 => pe_op op_addA h1 h2) fun X M H x y dx dy d Q g ml hx hy e hq => ?_
  cases hx with
  | int i =>
    cases hy with
    | int j => cases e; exact .inl ⟨i, j, rfl, rfl, hq _ H (.refl _) (.int _)⟩
    | _ => cases e
  | str z =>
    cases hy with
    | str z' =>
      have e : (if z.length + z'.length ≤ sizeLine then some (PyData.str (z ++ z')) else none) = some d := e
      split at e
      · rename_i hl; cases e; exact .inr (.inl ⟨z, z', rfl, rfl, hl, hq _ H (.refl _) (.str _)⟩)
      · cases e
    | _ => cases e
  | tup h t =>
    cases hy with
    | tup h' t' =>
      rename_i a xs ds a' xs' ds'
      have e : (if ds.length + ds'.length ≤ sizeLine then some (PyData.tuple (ds ++ ds')) else none) = some d := e
      split at e
      · rename_i hl
        cases e
        refine .inr (.inr (.inl ⟨_, _, _, _, rfl, rfl, by rw [g.hK]; exact h, by rw [g.hK]; exact h', by rw [t.length, t'.length]; exact hl, ?_, ?_, ?_⟩))
        · intro hx
          subst hx
          cases t
          exact hq _ H (.refl _) (.tup h' t')
        · intro hx hy
          subst hy
          cases t'
          exact hq _ H (.refl _) (.tup h (by rw [List.append_nil]; exact t))
        · intro _ _ p hp
          exact hq _ _ (same_upd hp) (Da.newT ml hp (t.append t'))
      · cases e
    | _ => cases e
  | lst h n t =>
    cases hy with
    | lst h' n' t' =>
      rename_i a xs ds a' xs' ds'
      have e : (if ds.length + ds'.length ≤ sizeLine then some (PyData.list (ds ++ ds')) else none) = some d := e
      split at e
      · rename_i hl
        cases e
        exact .inr (.inr (.inr ⟨_, _, _, _, rfl, rfl, h, h', by rw [t.length, t'.length]; exact hl, fun p hp => hq _ _ (same_upd hp) (Da.newL ml hp (t.append t'))⟩))
      · cases e
    | _ => cases e
  | _ => cases hy <;> cases e
end
end DL
namespace DL
open PySem PySem.Spec PyProof.Rows L2
section
variable {G : Gm} {k : Nat} {sc : Sx} {N : List Str}
abbrev Mg0 (G : Gm) (x : Str) : Prop := G.mg x = none
theorem e_arg {e : Expr} {es : List Expr} {f : Ev → Mn (List Slot)} {op : List D → Option D} {rl : Cx → List V → Hp → VK → Prop} (ha : SA G k sc N es f) (mk : ∀ X t, Gd G k sc N X → PA X es t → PE X e (tCB (rl X) t))
    (hr : ∀ X M H vs ds d Q, Gd G k sc N X → Ml M H → DaL G.K M H vs ds → op ds = some d → (∀ v H', Same H H' → Da G.K M H' v d → Q v H') → rl X vs H Q) :
    SE G k sc N e (fun ev => bnd (f ev) fun ss => lft ((dats ss).bind op)) := fun X W g tk => by
  refine pe_imp (mk X _ g (ha X W g tk)) fun σ H Q h => ?_
  obtain ⟨M, r, ev, rs, R, o, rs', e, w⟩ := h
  refine tAr_bnd R e w fun ss rs2 H2 vs R2 s2 d2 e2 w2 => ?_
  obtain ⟨d, e3, rfl, rfl⟩ := lft_some e2
  cases q : dats ss with
  | none => rw [q] at e3; cases e3
  | some ds => rw [q] at e3; exact hr X M H2 vs ds d Q g R2.ml (d2.dats q) e3 fun z H3 s3 d3 => w2 H3 (.of_same s3) (row_same R2.row s3) z d3
def dFn (op : List D → Option D) (f : Ev → Mn (List Slot)) (ev : Ev) : Mn D := bnd (f ev) fun ss => lft ((dats ss).bind op)
theorem e_blt {id : String} {x : Str} {e : Expr} {es : List Expr} {f : Ev → Mn (List Slot)} {op : List D → Option D} {rl : Cx → List V → Hp → VK → Prop} {p pos : Pos} (ha : SA G k sc N (e :: es) f) (cr : ∀ X, Gd G k sc N X → CallR X (.builtin id) (rl X))
    (hr : ∀ X M H vs ds d Q, Gd G k sc N X → Ml M H → DaL G.K M H vs ds → op ds = some d → (∀ v H', Same H H' → Da G.K M H' v d → Q v H') → rl X vs H Q)
    (hv : bootBuiltins x = some (.builtin id)) (hm : Mg0 G x) (hg : glB sc x = true) (hn : x ≠ "__name__") (hdb : (x == ("__debug__" : Str)) = false)
    (he : ∀ env, starEach (e :: es) env = (false, eval e env) :: starEach es env) (hpl : ∀ env, (backTo pos (starEach es env)).any (·.1) = false) : SE G k sc N (.Call (.Name x p) (e :: es) [] pos) (dFn op f) :=
  e_arg ha (fun X t g h => pe_callB (cr X g) (gl_of g hg) (by rw [g.hmg]; exact hm) hv h hn hdb (he _) (hpl _)) hr
theorem e_bty {T : String} {x : Str} {e : Expr} {es : List Expr} {f : Ev → Mn (List Slot)} {op : List D → Option D} {rl : Cx → List V → Hp → VK → Prop} {p pos : Pos} (ha : SA G k sc N (e :: es) f) (cr : ∀ X, Gd G k sc N X → CallR X (.type T) (rl X))
    (hr : ∀ X M H vs ds d Q, Gd G k sc N X → Ml M H → DaL G.K M H vs ds → op ds = some d → (∀ v H', Same H H' → Da G.K M H' v d → Q v H') → rl X vs H Q)
    (hv : bootBuiltins x = some (.type T)) (hm : Mg0 G x) (hg : glB sc x = true) (hn : x ≠ "__name__") (hdb : (x == ("__debug__" : Str)) = false)
    (he : ∀ env, starEach (e :: es) env = (false, eval e env) :: starEach es env) (hpl : ∀ env, (backTo pos (starEach es env)).any (·.1) = false) : SE G k sc N (.Call (.Name x p) (e :: es) [] pos) (dFn op f) :=
  e_arg ha (fun X t g h => pe_callTy (cr X g) (gl_of g hg) (by rw [g.hmg]; exact hm) hv h hn hdb (he _) (hpl _)) hr
def lenD : List D → Option D
  | [.tuple ds] => some (.int ds.length)
  | [.list ds] => some (.int ds.length)
  | [.str z] => if z.length ≤ sizeLine then some (.int z.length) else none
  | _ => none
theorem one_da {K : PySem.W.Frag} {M : Addr → Prop} {H : Hp} {vs : List V} {d : D} (h : DaL K M H vs [d]) : ∃ v, vs = [v] ∧ Da K M H v d := by
  cases h with
  | cons a t => cases t; exact ⟨_, rfl, a⟩
theorem two_da {K : PySem.W.Frag} {M : Addr → Prop} {H : Hp} {vs : List V} {d d' : D} (h : DaL K M H vs [d, d']) : ∃ v v', vs = [v, v'] ∧ Da K M H v d ∧ Da K M H v' d' := by
  cases h with
  | cons a t =>
    obtain ⟨v, e, q⟩ := one_da t
    subst e
    exact ⟨_, _, rfl, a, q⟩
theorem e_len {e : Expr} {f : Ev → Mn (List Slot)} {p pos : Pos} (ha : SA G k sc N [e] f) (hm : Mg0 G "len") (hg : glB sc "len" = true := by rfl) (he : ∀ env, starEach [e] env = (false, eval e env) :: starEach [] env := by intro _; rfl) :
    SE G k sc N (.Call (.Name "len" p) [e] [] pos) (dFn lenD f) :=
  e_blt ha (fun X g => call_len_seq.or call_len_str) (fun X M H vs ds d Q g ml h e hq => by
    unfold lenD at e
    split at e
    · obtain ⟨v, rfl, h1⟩ := one_da h
      cases e
      cases h1 with
      | tup h2 t => exact .inl ⟨_, _, rfl, .inr (by rw [g.hK]; exact h2), by rw [t.length]; exact hq _ H (.refl _) (.int _)⟩
    · obtain ⟨v, rfl, h1⟩ := one_da h
      cases e
      cases h1 with
      | lst h2 n t => exact .inl ⟨_, _, rfl, .inl (.of h2), by rw [t.length]; exact hq _ H (.refl _) (.int _)⟩
    · obtain ⟨v, rfl, h1⟩ := one_da h
      split at e
      · rename_i hl
        cases e
        cases h1 with
        | str z => exact .inr ⟨_, rfl, hl, hq _ H (.refl _) (.int _)⟩
      · cases e
    · cases e) PySem.boot_len hm hg (by decide) (by decide) he (fun _ => rfl)
def listD : List D → Option D
  | [.tuple ds] => some (.list ds)
  | [.list ds] => some (.list ds)
  | _ => none
theorem e_list {e : Expr} {f : Ev → Mn (List Slot)} {p pos : Pos} (ha : SA G k sc N [e] f) (hm : Mg0 G "list") (hg : glB sc "list" = true := by rfl) (he : ∀ env, starEach [e] env = (false, eval e env) :: starEach [] env := by intro _; rfl) :
    SE G k sc N (.Call (.Name "list" p) [e] [] pos) (dFn listD f) :=
  e_bty ha (fun X g => call_list_of) (fun X M H vs ds d Q g ml h e hq => by
    unfold listD at e
    split at e
    · obtain ⟨v, rfl, h1⟩ := one_da h
      cases e
      cases h1 with
      | tup h2 t => exact ⟨_, _, rfl, .inr (by rw [g.hK]; exact h2), fun l hl => hq _ _ (same_upd hl) (Da.newL ml hl t)⟩
    · obtain ⟨v, rfl, h1⟩ := one_da h
      cases e
      cases h1 with
      | lst h2 n t => exact ⟨_, _, rfl, .inl (.of h2), fun l hl => hq _ _ (same_upd hl) (Da.newL ml hl t)⟩
    · cases e) PyProof.Rows.boot_list hm hg (by decide) (by decide) he (fun _ => rfl)
def tupleD : List D → Option D
  | [.tuple ds] => some (.tuple ds)
  | [.list ds] => some (.tuple ds)
  | _ => none
theorem e_tuple {e : Expr} {f : Ev → Mn (List Slot)} {p pos : Pos} (ha : SA G k sc N [e] f) (hm : Mg0 G "tuple") (hg : glB sc "tuple" = true := by rfl) (he : ∀ env, starEach [e] env = (false, eval e env) :: starEach [] env := by intro _; rfl) :
    SE G k sc N (.Call (.Name "tuple" p) [e] [] pos) (dFn tupleD f) :=
  e_bty ha (fun X g => call_tuple_of) (fun X M H vs ds d Q g ml h e hq => by
    unfold tupleD at e
    split at e
    · obtain ⟨v, rfl, h1⟩ := one_da h
      cases e
      cases h1 with
      | tup h2 t => exact ⟨_, _, rfl, .inr ⟨by rw [g.hK]; exact h2, hq _ H (.refl _) (.tup h2 t)⟩⟩
    · obtain ⟨v, rfl, h1⟩ := one_da h
      cases e
      cases h1 with
      | lst h2 n t => exact ⟨_, _, rfl, .inl ⟨.of h2, fun l hl => hq _ _ (same_upd hl) (Da.newT ml hl t)⟩⟩
    · cases e) PyProof.Rows.boot_tuple hm hg (by decide) (by decide) he (fun _ => rfl)
/-- truth values alone -/
def bools : List D → Option (List Bool)
  | [] => some []
  | .bool b :: ds => (bools ds).map (b :: ·)
  | _ :: _ => none
theorem bools_da {K : PySem.W.Frag} {M : Addr → Prop} {H : Hp} : ∀ {vs : List V} {ds : List D} {bs : List Bool}, DaL K M H vs ds → bools ds = some bs → vs = bs.map V.bl
  | _, _, _, .nil, e => by cases e; rfl
  | _, _, _, .cons h t, e => by
    cases h with
    | bl b =>
      unfold bools at e
      cases q : bools _ with
      | none => rw [q] at e; cases e
      | some bs => rw [q] at e; cases e; rw [bools_da t q]; rfl
    | _ => cases e
def allD : List D → Option D
  | [.list ds] => (bools ds).map fun bs => .bool (bs.all id)
  | _ => none
def anyD : List D → Option D
  | [.list ds] => (bools ds).map fun bs => .bool (bs.any id)
  | _ => none
theorem e_all {e : Expr} {f : Ev → Mn (List Slot)} {p pos : Pos} (ha : SA G k sc N [e] f) (hm : Mg0 G "all") (hg : glB sc "all" = true := by rfl) (he : ∀ env, starEach [e] env = (false, eval e env) :: starEach [] env := by intro _; rfl) :
    SE G k sc N (.Call (.Name "all" p) [e] [] pos) (dFn allD f) :=
  e_blt ha (fun X g => cr_all g.calm) (fun X M H vs ds d Q g ml h e hq => by
    unfold allD at e
    split at e
    · rename_i ds'
      obtain ⟨v, rfl, h1⟩ := one_da h
      cases h1 with
      | lst h2 n t =>
        cases q : bools ds' with
        | none => rw [q] at e; cases e
        | some bs =>
          rw [q] at e; cases e
          have e2 := bools_da t q
          subst e2
          exact ⟨_, bs, rfl, .of h2, hq _ H (.refl _) (.bl _)⟩
    · cases e) PyProof.Rows.boot_all hm hg (by decide) (by decide) he (fun _ => rfl)
theorem e_any {e : Expr} {f : Ev → Mn (List Slot)} {p pos : Pos} (ha : SA G k sc N [e] f) (hm : Mg0 G "any") (hg : glB sc "any" = true := by rfl) (he : ∀ env, starEach [e] env = (false, eval e env) :: starEach [] env := by intro _; rfl) :
    SE G k sc N (.Call (.Name "any" p) [e] [] pos) (dFn anyD f) :=
  e_blt ha (fun X g => cr_any g.calm) (fun X M H vs ds d Q g ml h e hq => by
    unfold anyD at e
    split at e
    · rename_i ds'
      obtain ⟨v, rfl, h1⟩ := one_da h
      cases h1 with
      | lst h2 n t =>
        cases q : bools ds' with
        | none => rw [q] at e; cases e
        | some bs =>
          rw [q] at e; cases e
          have e2 := bools_da t q
          subst e2
          exact ⟨_, bs, rfl, .of h2, hq _ H (.refl _) (.bl _)⟩
    · cases e) PyProof.Rows.boot_any hm hg (by decide) (by decide) he (fun _ => rfl)
inductive Ty where
  | int | bool | str | tuple | list
def Ty.nm : Ty → String
  | .int => "int"
  | .bool => "bool"
  | .str => "str"
  | .tuple => "tuple"
  | .list => "list"
def tyS : D → String
  | .none => "NoneType"
  | .bool _ => "bool"
  | .int _ => "int"
  | .str _ => "str"
  | .list _ => "list"
  | .tuple _ => "tuple"
  | .dict [(.tuple _, .none)] => "tuple"
  | .dict _ => "dict"
def isA : D → Ty → Bool
  | .bool _, .bool => true
  | .bool _, .int => true
  | .int _, .int => true
  | .str _, .str => true
  | .list _, .list => true
  | .tuple _, .tuple => true
  | .dict [(.tuple _, .none)], .tuple => true
  | _, _ => false
def TyY (K : PySem.W.Frag) (H : Hp) (x : V) (t : Value) : Prop := TyX K H x t ∨ ∃ a, x = .ref a ∧ ((∃ ps, H a = some (dctO a ps)) ∨ ∃ kvs, H a = some (.dK kvs)) ∧ t = .type "dict"
section
variable {X : Cx} {pins : List (Addr × Obj)} {σ : L2.St} {H : Hp} {s : Shared}
theorem kit_y {x : V} {u t : Value} (I : Inv X pins σ H s) (rx : RelV x u) (ty : TyY X.K H x t) : ∃ P : Heap → Prop, PySem.W.KitX X.K u t P ∧ P s.heap ∧ u ≠ .builtin "__main__.__loader__#opaque" := by
  rcases ty with ty | ⟨a, rfl, ⟨ps, ea⟩ | ⟨kvs, ea⟩, rfl⟩
  · exact kit_of I rx ty
  · cases (show u = Value.ref a from rx)
    obtain ⟨⟨_, _, xs, _, o, es, ep, h1, h2, _⟩, _⟩ := (show ObjOk X.prog X.w H s.heap a (dctO a ps) from I.hok a _ ea)
    exact ⟨_, PySem.W.kitx_dict, ⟨o, h1, h2.1⟩, fun z => nomatch z⟩
  · cases (show u = Value.ref a from rx)
    obtain ⟨_, _, _, _, o, _, _, h1, h2, _⟩ := (show ObjOk X.prog X.w H s.heap a (.dK kvs) from I.hok a _ ea)
    exact ⟨_, PySem.W.kitx_dict, ⟨o, h1, h2.1⟩, fun z => nomatch z⟩
def rIsY (K : PySem.W.Frag) : List V → Hp → VK → Prop := fun xs H Q => ∃ (x c : V) (t u : Value) (b : Bool), xs = [x, c] ∧ ClsV c u ∧ TyY K H x t ∧ PySem.W.kitOne K t u = some b ∧ Q (.bl b) H
def rIsYT (K : PySem.W.Frag) : List V → Hp → VK → Prop := fun xs H Q => ∃ (x : V) (tp : Addr) (cs : List V) (t : Value) (us : List Value) (b : Bool), xs = [x, .ref tp] ∧ H tp = some (.tup cs) ∧ Paired ClsV cs us ∧ TyY K H x t ∧ PySem.W.kitAny K t us = some b ∧ Q (.bl b) H
theorem call_isY : CallR X (.builtin "isinstance") (rIsY X.K) := by
  intro pins s σ H xs us Q I r h
  obtain ⟨x, c, t, u, b, rfl, k, ty, e, q⟩ := h
  obtain ⟨u1, u2, rfl, r1, r2⟩ := vals2 r
  have e2 := k.eq r2
  subst e2
  obtain ⟨P, Z, p, hx⟩ := kit_y I r1 ty
  exact PySem.W.kia_one Z I.kIn p e hx fun tk => ⟨.bl b, H, I.tok tk, rfl, q⟩
theorem call_isYT : CallR X (.builtin "isinstance") (rIsYT X.K) := by
  intro pins s σ H xs us Q I r h
  obtain ⟨x, tp, cs, t, ws, b, rfl, hT, k, ty, e, q⟩ := h
  obtain ⟨u1, u2, rfl, r1, r2⟩ := vals2 r
  cases (show u2 = Value.ref tp from r2)
  obtain ⟨P, Z, p, hx⟩ := kit_y I r1 ty
  obtain ⟨_, its, rv, o, h1, h2, n, h3⟩ := (show ObjOk X.prog X.w H s.heap tp (.tup cs) from I.hok tp _ hT)
  have e3 := ClsV.all k rv
  subst e3
  obtain ⟨oc, od, dt, sl⟩ := o
  simp only at h2 h3
  subst h2 h3
  exact PySem.W.kia_tup Z I.kIn p h1 e hx fun tk => ⟨.bl b, H, I.tok tk, rfl, q⟩
end
theorem tyS_rk : ∀ ps : List Rk, tyS (.dict (ps.map rkD)) = "dict"
  | [] => rfl
  | [_] => rfl
  | _ :: _ :: _ => rfl
theorem tyS_sk : ∀ ps : List (Str × D), tyS (.dict (ps.map skD)) = "dict"
  | [] => rfl
  | [_] => rfl
  | _ :: _ :: _ => rfl
theorem tyx_da {K : PySem.W.Frag} {M : Addr → Prop} {H : Hp} {x : V} {d : D} (h : Da K M H x d) : TyY K H x (.type (tyS d)) := by
  cases h with
  | dct h t n => exact .inr ⟨_, rfl, .inl ⟨_, h⟩, by rw [tyS_rk]⟩
  | txd h n l t => exact .inr ⟨_, rfl, .inr ⟨_, h⟩, by rw [tyS_sk]⟩
  | fzt h n t => exact .inl <| .fTuple h
  | non => exact .inl <| .base .non
  | bl b => exact .inl <| .base (.bl b)
  | int i => exact .inl <| .base (.int i)
  | str z => exact .inl <| .base (.str z)
  | lst h n t => exact .inl <| .base (.lst h)
  | tup h t =>
    rcases h with (h | ⟨o, h⟩) | ⟨o, its, n, h, c, _⟩
    · exact .inl <| .base (.tup h)
    · exact .inl <| .fTuple h
    · exact .inl <| .kTuple h c
theorem kit_isA (d : D) (t : Ty) : kitB (tyS d) t.nm = some (isA d t) := by
  cases d with
  | dict kvs =>
    have nt : tyS (.dict kvs) = "dict" → isA (.dict kvs) t = isA (.dict []) t → kitB (tyS (.dict kvs)) t.nm = some (isA (.dict kvs) t) := fun e2 e => by
      rw [e, e2]
      cases t <;> decide +kernel
    rcases kvs with _ | ⟨⟨k, v⟩, _ | ⟨q, r⟩⟩
    · exact nt rfl rfl
    · cases k with
      | tuple ds =>
        cases v with
        | none =>
          have e : isA (.dict [(.tuple ds, .none)]) t = isA (.tuple []) t := by cases t <;> rfl
          rw [e]; show kitB "tuple" _ = _
          cases t <;> decide +kernel
        | _ => exact nt rfl (by cases t <;> rfl)
      | _ => exact nt rfl (by cases t <;> rfl)
    · exact nt (by cases k <;> cases v <;> rfl) (by cases t <;> cases k <;> cases v <;> rfl)
  | none => cases t <;> decide +kernel
  | bool b =>
    have e : isA (.bool b) t = isA (.bool true) t := by cases t <;> rfl
    rw [e]; show kitB "bool" _ = _
    cases t <;> decide +kernel
  | int i =>
    have e : isA (.int i) t = isA (.int 0) t := by cases t <;> rfl
    rw [e]; show kitB "int" _ = _
    cases t <;> decide +kernel
  | str z =>
    have e : isA (.str z) t = isA (.str "") t := by cases t <;> rfl
    rw [e]; show kitB "str" _ = _
    cases t <;> decide +kernel
  | list ds =>
    have e : isA (.list ds) t = isA (.list []) t := by cases t <;> rfl
    rw [e]; show kitB "list" _ = _
    cases t <;> decide +kernel
  | tuple ds =>
    have e : isA (.tuple ds) t = isA (.tuple []) t := by cases t <;> rfl
    rw [e]; show kitB "tuple" _ = _
    cases t <;> decide +kernel
/-- a built-in class's name -/
theorem pe_tyn {X : Cx} {x : Str} {T : String} {p : Pos} (g : Gd G k sc N X) (hg : glB sc x = true) (hm : Mg0 G x) (hv : bootBuiltins x = some (.type T)) (hn : x ≠ "__name__") (hd : (x == ("__debug__" : Str)) = false) : PE X (.Name x p) (tC (.ty T)) :=
  pe_bltn (v := .ty T) (gl_of g hg) (by rw [g.hmg]; exact hm) hv rfl hn hd
def dIsi (ts : List Ty) (f : Ev → Mn D) (ev : Ev) : Mn D := bnd (f ev) fun d => pur (.bool (ts.any (isA d)))
theorem e_isi1 {e : Expr} {f : Ev → Mn D} {x : Str} {p1 p pos : Pos} (t : Ty) (ha : SE G k sc N e f) (hv : bootBuiltins x = some (.type t.nm)) (hm : Mg0 G "isinstance") (hmx : Mg0 G x) (hg : glB sc "isinstance" = true := by rfl) (hgx : glB sc x = true := by rfl) (hn : x ≠ "__name__" := by decide) (hd : (x == ("__debug__" : Str)) = false := by decide)
    (he : ∀ env, starEach [e, .Name x p1] env = (false, eval e env) :: starEach [.Name x p1] env := by intro _; rfl) :
    SE G k sc N (.Call (.Name "isinstance" p) [e, .Name x p1] [] pos) (dIsi [t] f) := fun X W g tk => by
  refine pe_imp (pe_callB call_isY (gl_of g hg) (by rw [g.hmg]; exact hm) PyProof.Rows.boot_isinstance (pa_cons (ha X W g tk) (pa_cons (pe_tyn g hgx hmx hv hn hd) pa_nil) (he _)) (by decide) (by decide) (he _) rfl) fun σ H Q h => ?_
  obtain ⟨M, r, ev, rs, R, o, rs', e, w⟩ := h
  refine tE_bnd R e w fun d rs1 H1 v R1 s1 d1 e1 w1 => ?_
  cases e1
  rw [g.hK]
  refine ⟨v, .ty t.nm, .type (tyS d), .type t.nm, isA d t, rfl, .ty _, tyx_da d1, kit_ty (kit_isA d t), ?_⟩
  have q := w1 H1 (.refl _) R1.row _ (.bl ([t].any (isA d)))
  simpa using q
theorem e_isi2 {e : Expr} {f : Ev → Mn D} {x y : Str} {i : Nat} {p1 p2 p3 p pos : Pos} (t u : Ty) (ha : SE G k sc N e f) (hv : bootBuiltins x = some (.type t.nm)) (hu : bootBuiltins y = some (.type u.nm)) (hm : Mg0 G "isinstance") (hmx : Mg0 G x) (hmy : Mg0 G y) (hg : glB sc "isinstance" = true := by rfl) (hgx : glB sc x = true := by rfl) (hgy : glB sc y = true := by rfl)
    (hn : x ≠ "__name__" := by decide) (hd : (x == ("__debug__" : Str)) = false := by decide) (hn2 : y ≠ "__name__" := by decide) (hd2 : (y == ("__debug__" : Str)) = false := by decide)
    (he : ∀ env, starEach [e, .Tuple [.Name x p1, .Name y p2] i p3] env = (false, eval e env) :: starEach [.Tuple [.Name x p1, .Name y p2] i p3] env := by intro _; rfl) :
    SE G k sc N (.Call (.Name "isinstance" p) [e, .Tuple [.Name x p1, .Name y p2] i p3] [] pos) (dIsi [t, u] f) := fun X W g tk => by
  refine pe_imp (pe_callB call_isYT (gl_of g hg) (by rw [g.hmg]; exact hm) PyProof.Rows.boot_isinstance (pa_cons (ha X W g tk) (pa_cons (pe_tup (pa_cons (pe_tyn g hgx hmx hv hn hd) (pa_cons (pe_tyn g hgy hmy hu hn2 hd2) pa_nil))) pa_nil) (he _)) (by decide) (by decide) (he _) rfl) fun σ H Q h => ?_
  obtain ⟨M, r, ev, rs, R, o, rs', e, w⟩ := h
  refine tE_bnd R e w fun d rs1 H1 v R1 s1 d1 e1 w1 => ?_
  cases e1
  refine ⟨by show 2 ≤ sizeLine; decide, fun tp hp => ?_⟩
  rw [g.hK]
  refine ⟨v, tp, [.ty t.nm, .ty u.nm], .type (tyS d), [.type t.nm, .type u.nm], [t, u].any (isA d), rfl, upd_same, .cons (.ty _) (.cons (.ty _) .nil), tyx_da (d1.kp R1.ml (.of_same (same_upd hp))), ?_, ?_⟩
  · refine kitAny_cons (kit_ty (kit_isA d t)) (fun h1 => kitAny_cons (kit_ty (kit_isA d u)) (fun h2 => ?_) fun h2 => by simp [h2]) fun h1 => by simp [h1]
    rw [kitAny_nil]
    simp [h1, h2]
  · exact w1 _ (.of_same (same_upd hp)) (row_same R1.row (same_upd hp)) _ (.bl _)
end
end DL
namespace DL
open PySem PySem.Spec PyProof.Rows L2
section
variable {G : Gm} {k : Nat} {sc : Sx} {N : List Str}
variable {K : PySem.W.Frag} {M M' : Addr → Prop} {H H' H1 : Hp} {r : Rw}
mutual
theorem Da.ext (m : ∀ b, M' b → M b ∨ H b = none) : ∀ {v : V} {d : D}, Da K M H v d → Da K M' H v d
  | _, _, .non => .non
  | _, _, .bl b => .bl b
  | _, _, .int i => .int i
  | _, _, .str x => .str x
  | _, _, .lst h n t => .lst h (fun z => (m _ z).elim n fun q => by rw [h] at q; cases q) (DaL.ext m t)
  | _, _, .tup h t => .tup h (DaL.ext m t)
  | _, _, .dct h t n => .dct h t n
  | _, _, .txd h n l t => .txd h (fun z => (m _ z).elim n fun q => by rw [h] at q; cases q) l (DaL.ext m t)
  | _, _, .fzt h n t => .fzt h n (DaL.ext m t)
theorem DaL.ext (m : ∀ b, M' b → M b ∨ H b = none) : ∀ {vs : List V} {ds : List D}, DaL K M H vs ds → DaL K M' H vs ds
  | _, _, .nil => .nil
  | _, _, .cons h t => .cons (Da.ext m h) (DaL.ext m t)
end
mutual
/-- from M at H1 to M' behind it -/
theorem Da.on (ml : Ml M H1) (m : ∀ b, M' b → M b ∨ H1 b = none) (k : Kp M H1 H') : ∀ {v : V} {d : D}, Da K M H1 v d → Da K M' H' v d
  | _, _, .non => .non
  | _, _, .bl b => .bl b
  | _, _, .int i => .int i
  | _, _, .str x => .str x
  | _, _, .lst h n t => .lst (k _ _ n h) (fun z => (m _ z).elim n fun q => by rw [h] at q; cases q) (DaL.on ml m k t)
  | _, _, .tup h t => .tup (sqt_kp h ml k) (DaL.on ml m k t)
  | _, _, .dct h t n => .dct (dct_kp ml k h) (fun p z => ⟨sqt_kp (t p z).1 ml k, (t p z).2⟩) n
  | _, _, .txd h n l t => .txd (k _ _ n h) (fun z => (m _ z).elim n fun q => by rw [h] at q; cases q) l (DaL.on ml m k t)
  | _, _, .fzt h n t => .fzt (frz_kp h ml k) n (DaL.on ml m k t)
theorem DaL.on (ml : Ml M H1) (m : ∀ b, M' b → M b ∨ H1 b = none) (k : Kp M H1 H') : ∀ {vs : List V} {ds : List D}, DaL K M H1 vs ds → DaL K M' H' vs ds
  | _, _, .nil => .nil
  | _, _, .cons h t => .cons (Da.on ml m k h) (DaL.on ml m k t)
end
structure JOk (K : PySem.W.Frag) (M : Addr → Prop) (J : It) (H1 : Hp) (ds : List D) : Prop where
  go : ∀ H', Kp M H1 H' → ∀ (i : Nat) d, ds[i]? = some d → J.go i H'
  yld : ∀ M' H', Kp M H1 H' → (∀ b, M' b → M b ∨ H1 b = none) → ∀ (i : Nat) d x H'', ds[i]? = some d → J.yld i H' x H'' → Same H' H'' ∧ Da K M' H'' x d
  stop : ∀ H', Kp M H1 H' → J.stop ds.length H'
def tI (K : PySem.W.Frag) (mg : Str → Option Value) (W : WX) (f : Ev → Mn (List D)) : TI := fun σ H R =>
  ∃ M r ev rs, RelE K M r σ H ev rs ∧ ∃ o rs', f ev rs = some (o, rs') ∧ Wan K mg M r H rs' (fun cls dd H' => W cls dd σ H') (fun ds H' => Ml M H' → ∀ J, JOk K M J H' ds → R J H') o
def SI (G : Gm) (k : Nat) (sc : Sx) (N : List Str) (tg e : Expr) (f : Ev → Mn (List D)) : Prop := ∀ (X : Cx) (W : WX), Gd G k sc N X → Takes X W → PI X tg e (tI G.K G.mg W f)
theorem pi_imp {X : Cx} {tg e : Expr} {t t' : TI} (h : PI X tg e t) (i : ∀ σ H Q, t' σ H Q → t σ H Q) : PI X tg e t' := ⟨fun pins s σ H Q I q => h.run pins s σ H Q I (i σ H Q q)⟩
theorem jok_list {a : Addr} {xs : List V} {ds : List D} (ml : Ml M H1) (h : H1 a = some (.lst xs)) (n : ¬ M a) (t : DaL K M H1 xs ds) : JOk K M (Itl K a) H1 ds where
  go := fun H' kp i d e => by
    obtain ⟨v, h1, h2⟩ := t.get e
    exact ⟨xs, v, .of (kp _ _ n h), h1⟩
  yld := fun M' H' kp m i d x H'' e y => by
    obtain ⟨rfl, y⟩ := y
    obtain ⟨v, h1, h2⟩ := t.get e
    have q := y xs (.of (kp _ _ n h))
    rw [h1] at q
    cases q
    exact ⟨.refl _, h2.on ml m kp⟩
  stop := fun H' kp => ⟨xs, .of (kp _ _ n h), by rw [t.length]; exact Nat.le_refl _⟩
theorem jok_tup {a : Addr} {xs : List V} {ds : List D} (ml : Ml M H1) (h : SqT K H1 a xs) (t : DaL K M H1 xs ds) : JOk K M (Itt K a) H1 ds where
  go := fun H' kp i d e => by
    obtain ⟨v, h1, h2⟩ := t.get e
    exact ⟨xs, v, sqt_kp h ml kp, h1⟩
  yld := fun M' H' kp m i d x H'' e y => by
    obtain ⟨rfl, y⟩ := y
    obtain ⟨v, h1, h2⟩ := t.get e
    have q := y xs (sqt_kp h ml kp)
    rw [h1] at q
    cases q
    exact ⟨.refl _, h2.on ml m kp⟩
  stop := fun H' kp => ⟨xs, sqt_kp h ml kp, by rw [t.length]; exact Nat.le_refl _⟩
/-- a list or a tuple, as it comes -/
def iSeq (K : PySem.W.Frag) (te : TE) : TI := fun σ H R => te σ H fun x H1 => ∃ a, x = .ref a ∧ ((∃ xs, SqL K H1 a xs) ∧ R (Itl K a) H1 ∨ (∃ xs, SqT K H1 a xs) ∧ R (Itt K a) H1)
theorem pi_seq {X : Cx} {tg l : Expr} {te : TE} (hl : PE X l te) : PI X tg l (iSeq X.K te) := by
  refine ⟨fun pins s σ H R I h => thn (hl.run pins s σ H _ I h) fun v s1 hh => ?_⟩
  obtain ⟨x, H1, I1, r1, a, e, q⟩ := hh
  subst e; cases r1
  have fin : ∀ (J : It) (tn : Nat → Heap → Prop) (o : Obj), (∀ it, Turn X.prog X.w X.K tg J [it] it tn) → R J H1 → tn 0 (s1.heap.push o) → PIE X pins σ tg R (.ref s1.heap.objs.size) { s1 with heap := s1.heap.push o } := fun J tn o T qR st => by
    refine ⟨s1.heap.objs.size, [s1.heap.objs.size], tn, J, H1, rfl, I1.kept (t' := s1.toks) (fun b u e => Heap.get?_push_of_some _ e), T _, st, fun b hb => ?_, qR⟩
    rw [List.mem_singleton.mp hb]
    exact I1.fpOk (Nat.le_refl _) (I1.hok.fresh (Nat.le_refl _))
  rcases q with ⟨⟨xs, hq⟩, q⟩ | ⟨⟨xs, hq⟩, q⟩
  · obtain ⟨its, rv, p, hz⟩ := I1.list hq
    refine wpAny_pyIter_list p.isList ?_
    obtain ⟨it, hit⟩ : ∃ it, it = s1.heap.objs.size := ⟨_, rfl⟩
    refine ⟨s1.heap.objs.size, [s1.heap.objs.size], _, _, H1, rfl, I1.kept (t' := s1.toks) (fun b u e => Heap.get?_push_of_some _ e), turn_list a _, ⟨_, Heap.get?_push_size _ rfl, rfl, rfl⟩, fun b hb => ?_, q⟩
    rw [List.mem_singleton.mp hb]
    exact I1.fpOk (Nat.le_refl _) (I1.hok.fresh (Nat.le_refl _))
  · obtain ⟨its, rv, p, hz⟩ := I1.tuple hq
    refine wpAny_pyIter_tuple (show s1.heap.IsTuple a its.toArray from p) ?_
    refine ⟨s1.heap.objs.size, [s1.heap.objs.size], _, _, H1, rfl, I1.kept (t' := s1.toks) (fun b u e => Heap.get?_push_of_some _ e), turn_tuple a _, ⟨_, Heap.get?_push_size _ rfl, rfl, rfl⟩, fun b hb => ?_, q⟩
    rw [List.mem_singleton.mp hb]
    exact I1.fpOk (Nat.le_refl _) (I1.hok.fresh (Nat.le_refl _))
def itmD : D → Option (List D)
  | .list ds => some ds
  | .tuple ds => some ds
  | _ => none
def dItm (f : Ev → Mn D) (ev : Ev) : Mn (List D) := bnd (f ev) fun x => lft (itmD x)
theorem i_seq {tg e : Expr} {f : Ev → Mn D} (h : SE G k sc N e f) : SI G k sc N tg e (dItm f) := fun X W g tk => by
  refine pi_imp (pi_seq (h X W g tk)) fun σ H Q h => ?_
  obtain ⟨M, r, ev, rs, R, o, rs', e, w⟩ := h
  refine tE_bnd R e w fun x rs1 H1 v R1 s1 d1 e1 w1 => ?_
  obtain ⟨ds, e3, rfl, rfl⟩ := lft_some e1
  rw [g.hK]
  cases d1 with
  | lst h n t => cases e3; exact ⟨_, rfl, .inl ⟨⟨_, .of h⟩, w1 H1 (.refl _) R1.row R1.ml _ (jok_list R1.ml h n t)⟩⟩
  | tup h t => cases e3; exact ⟨_, rfl, .inr ⟨⟨_, h⟩, w1 H1 (.refl _) R1.row R1.ml _ (jok_tup R1.ml h t)⟩⟩
  | _ => cases e3
/-- range(n), range(a, b) -/
def rngD (a b : Int) : List D := (List.range (b - a).toNat).map fun i => .int (a + (i : Nat))
theorem rng_get {a b : Int} {i : Nat} {d : D} (h : (rngD a b)[i]? = some d) : i < (b - a).toNat ∧ d = .int (a + (i : Nat)) := by
  unfold rngD at h
  rw [List.getElem?_map] at h
  cases q : (List.range (b - a).toNat)[i]? with
  | none => rw [q] at h; cases h
  | some j =>
    rw [q] at h; cases h
    obtain ⟨h1, h2⟩ := List.getElem?_eq_some_iff.mp q
    rw [List.getElem_range] at h2
    subst h2
    exact ⟨by simpa using h1, rfl⟩
theorem jok_rng {a b : Int} : JOk K M (Itr a (b - a).toNat) H1 (rngD a b) where
  go := fun H' kp i d e => (rng_get e).1
  yld := fun M' H' kp m i d x H'' e y => by
    obtain ⟨rfl, rfl⟩ := y
    rw [(rng_get e).2]
    exact ⟨.refl _, .int _⟩
  stop := fun H' kp => by
    show (b - a).toNat ≤ (rngD a b).length
    unfold rngD
    rw [List.length_map, List.length_range]
    exact Nat.le_refl _
def rng1 : List D → Option (List D)
  | [.int j] => if -(2 ^ 62) ≤ j ∧ j < 2 ^ 62 then some (rngD 0 j) else none
  | _ => none
def dRng (op : List D → Option (List D)) (f : Ev → Mn (List Slot)) (ev : Ev) : Mn (List D) := bnd (f ev) fun ss => lft ((dats ss).bind op)
theorem i_range1 {tg a : Expr} {f : Ev → Mn (List Slot)} {p pos : Pos} (h : SA G k sc N [a] f) (hm : Mg0 G "range") (hg : glB sc "range" = true := by rfl) (hs : ∀ env, starEach [a] env = [(false, eval a env)] := by intro _; rfl) :
    SI G k sc N tg (.Call (.Name "range" p) [a] [] pos) (dRng rng1 f) := fun X W g tk => by
  refine pi_imp (pi_range1 (gl_of g hg) (by rw [g.hmg]; exact hm) (h X W g tk) (hs _)) fun σ H Q h => ?_
  obtain ⟨M, r, ev, rs, R, o, rs', e, w⟩ := h
  refine tAr_bnd R e w fun ss rs1 H1 vs R1 s1 d1 e1 w1 => ?_
  obtain ⟨ds, e3, rfl, rfl⟩ := lft_some e1
  cases q : dats ss with
  | none => rw [q] at e3; cases e3
  | some as =>
    rw [q] at e3
    replace e3 : rng1 as = some ds := e3
    unfold rng1 at e3
    split at e3
    · rename_i j
      split at e3
      · rename_i hj
        cases e3
        obtain ⟨v, rfl, h1⟩ := one_da (d1.dats q)
        cases h1
        have z := w1 H1 (.refl _) R1.row R1.ml (Itr 0 (j - 0).toNat) jok_rng
        rw [Int.sub_zero] at z
        exact ⟨j, rfl, hj.1, hj.2, z⟩
      · cases e3
    · cases e3
/-- zip(a, b) of two tuples or two lists; the target is a written tuple -/
def zipD : List D → Option (List D)
  | [.tuple xs, .tuple ys] => some ((xs.zip ys).map fun p => .tuple [p.1, p.2])
  | [.list xs, .list ys] => some ((xs.zip ys).map fun p => .tuple [p.1, p.2])
  | _ => none
theorem zip_get {xs ys : List D} {i : Nat} {d : D} (h : ((xs.zip ys).map fun p => PyData.tuple [p.1, p.2])[i]? = some d) : ∃ x y, xs[i]? = some x ∧ ys[i]? = some y ∧ d = .tuple [x, y] := by
  rw [List.getElem?_map] at h
  cases q : (xs.zip ys)[i]? with
  | none => rw [q] at h; cases h
  | some p =>
    rw [q] at h; cases h
    obtain ⟨h1, h2⟩ := List.getElem?_zip_eq_some.mp q
    exact ⟨p.1, p.2, h1, h2, rfl⟩
theorem zip_len {xs ys : List D} {vs ws : List V} (h1 : vs.length = xs.length) (h2 : ws.length = ys.length) : vs.length ≤ ((xs.zip ys).map fun p => PyData.tuple [p.1, p.2]).length ∨ ws.length ≤ ((xs.zip ys).map fun p => PyData.tuple [p.1, p.2]).length := by
  rw [List.length_map, List.length_zip]
  omega
theorem new_pair {H' H'' : Hp} {T : Addr} {x y : V} {dx dy : D} (n : H' T = none) (e : H'' = upd H' T (.tup [x, y])) (hx : Da K M' H' x dx) (hy : Da K M' H' y dy) : Same H' H'' ∧ Da K M' H'' (.ref T) (.tuple [dx, dy]) := by
  subst e
  have s := same_upd (o := .tup [x, y]) n
  exact ⟨s, .tup (.inl (.inl upd_same)) (.cons (hx.same s) (.cons (hy.same s) .nil))⟩
theorem DaL.get' {vs : List V} {ds : List D} {i : Nat} {v : V} {d : D} (h : DaL K M H vs ds) (e1 : vs[i]? = some v) (e2 : ds[i]? = some d) : Da K M H v d := by
  obtain ⟨u, h1, h2⟩ := h.get e2
  rw [e1] at h1; cases h1
  exact h2
theorem jok_zipT {a b : Addr} {vs ws : List V} {xs ys : List D} (ml : Ml M H1) (h : SqT K H1 a vs) (h' : SqT K H1 b ws) (t : DaL K M H1 vs xs) (t' : DaL K M H1 ws ys) :
    JOk K M (RZ.ItzT K a b) H1 ((xs.zip ys).map fun p => .tuple [p.1, p.2]) where
  go := fun H' kp i d e => by
    obtain ⟨x, y, e1, e2, rfl⟩ := zip_get e
    obtain ⟨v, h1, _⟩ := t.get e1
    obtain ⟨u, h2, _⟩ := t'.get e2
    exact ⟨vs, ws, v, u, sqt_kp h ml kp, sqt_kp h' ml kp, h1, h2⟩
  yld := fun M' H' kp m i d x H'' e y => by
    obtain ⟨dx, dy, e1, e2, rfl⟩ := zip_get e
    obtain ⟨T, v, u, rfl, n, e3, q1, q2⟩ := y
    exact new_pair n e3 ((t.get' (q1 _ (sqt_kp h ml kp)) e1).on ml m kp) ((t'.get' (q2 _ (sqt_kp h' ml kp)) e2).on ml m kp)
  stop := fun H' kp => ⟨vs, ws, sqt_kp h ml kp, sqt_kp h' ml kp, zip_len t.length t'.length⟩
theorem jok_zipL {a b : Addr} {vs ws : List V} {xs ys : List D} (ml : Ml M H1) (h : H1 a = some (.lst vs)) (n : ¬ M a) (h' : H1 b = some (.lst ws)) (n' : ¬ M b) (t : DaL K M H1 vs xs) (t' : DaL K M H1 ws ys) :
    JOk K M (Itz K a b) H1 ((xs.zip ys).map fun p => .tuple [p.1, p.2]) where
  go := fun H' kp i d e => by
    obtain ⟨x, y, e1, e2, rfl⟩ := zip_get e
    obtain ⟨v, h1, _⟩ := t.get e1
    obtain ⟨u, h2, _⟩ := t'.get e2
    exact ⟨vs, ws, v, u, .of (kp _ _ n h), .of (kp _ _ n' h'), h1, h2⟩
  yld := fun M' H' kp m i d x H'' e y => by
    obtain ⟨dx, dy, e1, e2, rfl⟩ := zip_get e
    obtain ⟨T, v, u, rfl, nn, e3, q1, q2⟩ := y
    exact new_pair nn e3 ((t.get' (q1 _ (.of (kp _ _ n h))) e1).on ml m kp) ((t'.get' (q2 _ (.of (kp _ _ n' h'))) e2).on ml m kp)
  stop := fun H' kp => ⟨vs, ws, .of (kp _ _ n h), .of (kp _ _ n' h'), zip_len t.length t'.length⟩
theorem i_zip {a b : Expr} {f : Ev → Mn (List Slot)} {es : List Expr} {j : Nat} {tp p pos : Pos} (h : SA G k sc N [a, b] f) (hm : Mg0 G "zip") (hg : glB sc "zip" = true := by rfl) (hs : ∀ env, starEach [a, b] env = (false, eval a env) :: starEach [b] env := by intro _; rfl) (hs2 : ∀ env, (backTo pos (starEach [b] env)).any (·.1) = false := by intro _; rfl) :
    SI G k sc N (.Tuple es j tp) (.Call (.Name "zip" p) [a, b] [] pos) (dRng zipD f) := fun X W g tk => by
  refine pi_imp (RZ.pi_zipA (gl_of g hg) (by rw [g.hmg]; exact hm) (h X W g tk) (hs _) (hs2 _)) fun σ H Q h => ?_
  obtain ⟨M, r, ev, rs, R, o, rs', e, w⟩ := h
  refine tAr_bnd R e w fun ss rs1 H1 vs R1 s1 d1 e1 w1 => ?_
  obtain ⟨ds, e3, rfl, rfl⟩ := lft_some e1
  cases q : dats ss with
  | none => rw [q] at e3; cases e3
  | some as =>
    rw [q] at e3
    replace e3 : zipD as = some ds := e3
    unfold zipD at e3
    rw [g.hK]
    split at e3
    · cases e3
      obtain ⟨v, v', rfl, h1, h2⟩ := two_da (d1.dats q)
      cases h1 with
      | tup q1 t1 =>
        cases h2 with
        | tup q2 t2 => exact ⟨_, _, _, _, rfl, .inr ⟨q1, q2, w1 H1 (.refl _) R1.row R1.ml _ (jok_zipT R1.ml q1 q2 t1 t2)⟩⟩
    · cases e3
      obtain ⟨v, v', rfl, h1, h2⟩ := two_da (d1.dats q)
      cases h1 with
      | lst q1 n1 t1 =>
        cases h2 with
        | lst q2 n2 t2 => exact ⟨_, _, _, _, rfl, .inl ⟨.of q1, .of q2, w1 H1 (.refl _) R1.row R1.ml _ (jok_zipL R1.ml q1 n1 q2 n2 t1 t2)⟩⟩
    · cases e3
inductive Tgt where
  | name (i : Nat)
  | tup (is : List Nat)
def Tgt.ix : Tgt → List Nat
  | .name i => [i]
  | .tup is => is
def Tgt.of : Tgt → D → Option (List D)
  | .name _, d => some [d]
  | .tup is, .tuple ds => if ds.length = is.length then some ds else none
  | .tup _, _ => none
def setV (σ : L2.St) : List Nat → List V → L2.St
  | i :: is, v :: vs => setV (σ.set i (some v)) is vs
  | _, _ => σ
def setE (ev : Ev) : List Nat → List D → Ev
  | i :: is, d :: ds => setE (ev.set i (.dat d)) is ds
  | _, _ => ev
def PGt (G : Gm) (k : Nat) (sc : Sx) (N : List Str) (tg : Expr) (t : Tgt) : Prop :=
  ∃ u : TG, (∀ (X : Cx), Gd G k sc N X → PG X tg u) ∧ ∀ M (σ : L2.St) H v d ds Q, Da G.K M H v d → t.of d = some ds → (∀ vs, DaL G.K M H vs ds → Q (setV σ t.ix vs) H) → u v σ H Q
def locB (sc : Sx) (x : Str) : Bool := match sc.sc.names.lookup x with
  | some .local => true
  | some .cell => sc.fc x
  | _ => false
theorem loc_of {X : Cx} {x : Str} (g : Gd G k sc N X) (h : locB sc x = true) : Loc X.env.scope x ∧ (X.fn x = true ∨ X.env.scope.names.lookup x = some .local) := by
  unfold locB at h
  rw [g.hsc]
  split at h
  · rename_i e; exact ⟨.inl e, .inr e⟩
  · rename_i e; exact ⟨.inr e, .inl (g.hfc x h)⟩
  · cases h
theorem pg_at {X : Cx} {i : Nat} {x : Str} {p : Pos} (g : Gd G k sc N X) (hi : N[i]? = some x) (hl : locB sc x = true) : PG X (.Name x p) (gName i) :=
  pg_name (by rw [g.hN]; exact g.nd) (by rw [g.hN]; exact hi) (loc_of g hl).1 (loc_of g hl).2
theorem g_name (i : Nat) {x : Str} {p : Pos} (hi : N[i]? = some x := by rfl) (hl : locB sc x = true := by rfl) : PGt G k sc N (.Name x p) (.name i) :=
  ⟨_, fun X g => pg_at g hi hl, fun M σ H v d ds Q hd e q => by cases e; exact q [v] (.cons hd .nil)⟩
/-- the names of a written tuple -/
inductive GNs (sc : Sx) (N : List Str) : List Expr → List Nat → Prop where
  | nil : GNs sc N [] []
  | cons {i : Nat} {x : Str} {p : Pos} {es : List Expr} {is : List Nat} (hi : N[i]? = some x) (hl : locB sc x = true) (t : GNs sc N es is) : GNs sc N (.Name x p :: es) (i :: is)
theorem gns_go : ∀ {es : List Expr} {is : List Nat}, GNs sc N es is → ∃ u : TGs, (∀ (X : Cx), Gd G k sc N X → PGs X es u ∧ (assignEach es X.env).length = is.length ∧ (assignEach es X.env).findIdx? (·.1) = none) ∧ ∀ (σ : L2.St) H vs Q, vs.length = is.length → Q (setV σ is vs) H → u vs σ H Q
  | _, _, .nil => ⟨_, fun X g => ⟨pgs_nil, rfl, rfl⟩, fun σ H vs Q e q => by
    cases vs with
    | nil => exact ⟨rfl, q⟩
    | cons v vs => cases e⟩
  | _, _, .cons (i := i) (x := x) (p := p) (es := es) (is := is) hi hl t => by
    obtain ⟨u, h1, h4⟩ := gns_go t
    refine ⟨gCons (gName i) u, fun X g => ?_, fun σ H vs Q e q => ?_⟩
    · obtain ⟨h1, h2, h3⟩ := h1 X g
      refine ⟨pgs_cons (pg_at g hi hl) h1 (by rfl), ?_, ?_⟩
      · show (assignEach es X.env).length + 1 = is.length + 1
        rw [h2]
      · show (List.findIdx? (·.1) ((false, assign (.Name x p) X.env) :: assignEach es X.env)) = none
        rw [List.findIdx?_cons]
        simp [h3]
    · cases vs with
      | nil => cases e
      | cons v vs => exact ⟨v, vs, rfl, h4 _ H vs Q (by simpa using e) q⟩
theorem g_tup (is : List Nat) {es : List Expr} {j : Nat} {p : Pos} (h : GNs sc N es is) : PGt G k sc N (.Tuple es j p) (.tup is) := by
  obtain ⟨u, h1, h4⟩ := gns_go (G := G) (k := k) h
  refine ⟨gTup G.K is.length u, fun X g => ?_, fun M σ H v d ds Q hd e q => ?_⟩
  · obtain ⟨h1, h2, h3⟩ := h1 X g
    rw [← g.hK]
    exact pg_tup g.calm h1 h2 h3
  · cases hd with
    | tup a t =>
      rename_i ad xs es'
      replace e : (if es'.length = is.length then some es' else none) = some ds := e
      split at e
      · rename_i hl
        cases e
        exact ⟨_, _, rfl, a, by rw [t.length]; exact hl, h4 σ H _ Q (by rw [t.length]; exact hl) (q _ t)⟩
      · cases e
    | _ => cases e
end
end DL
namespace DL
open PySem PySem.Spec PyProof.Rows L2
section
variable {G : Gm} {k : Nat} {sc : Sx} {N : List Str}
variable {K : PySem.W.Frag} {mg : Str → Option Value} {M M' : Addr → Prop} {H H' H1 : Hp} {r : Rw} {σ : L2.St} {ev : Ev} {rs rs' : RS} {W : WX}
theorem RelE.set1 {i : Nat} {v : V} {d : D} (R : RelE K M r σ H ev rs) (h : Da K M H v d) : RelE K M r (σ.set i (some v)) H (ev.set i (.dat d)) rs := by
  refine ⟨R.mr, R.ml, R.row, fun j s e => ?_, by rw [List.length_set, List.length_set]; exact R.len⟩
  by_cases hj : i = j
  · subst hj
    have hl : i < ev.length := by
      have := (List.getElem?_eq_some_iff.mp e).1
      rwa [List.length_set] at this
    rw [List.getElem?_set_self hl] at e
    cases e
    exact ⟨v, List.getElem?_set_self (Nat.lt_of_lt_of_le hl R.len), h⟩
  · rw [List.getElem?_set_ne hj] at e
    have q := R.slots j s e
    cases s with
    | hid => trivial
    | own _ => trivial
    | dat d' => obtain ⟨u, e1, e2⟩ := q; exact ⟨u, by rw [List.getElem?_set_ne hj]; exact e1, e2⟩
    | row => show (σ.set i (some v))[j]? = _; rw [List.getElem?_set_ne hj]; exact q
theorem RelE.setL : ∀ {is : List Nat} {vs : List V} {ds : List D} {σ : L2.St} {ev : Ev}, RelE K M r σ H ev rs → DaL K M H vs ds → RelE K M r (setV σ is vs) H (setE ev is ds) rs
  | [], _, _, _, _, R, _ => R
  | _ :: _, _, _, _, _, R, .nil => R
  | i :: is, _, _, _, _, R, .cons h t => RelE.setL (is := is) (R.set1 h) t
def wipeE (ev : Ev) : List Nat → Ev
  | [] => ev
  | v :: vs => (wipeE ev vs).set v .hid
theorem RelE.hid1 {i : Nat} {o : Option V} (R : RelE K M r σ H ev rs) : RelE K M r (σ.set i o) H (ev.set i .hid) rs := by
  refine ⟨R.mr, R.ml, R.row, fun j s e => ?_, by rw [List.length_set, List.length_set]; exact R.len⟩
  by_cases hj : i = j
  · subst hj
    have hl : i < ev.length := by
      have := (List.getElem?_eq_some_iff.mp e).1
      rwa [List.length_set] at this
    rw [List.getElem?_set_self hl] at e
    cases e
    trivial
  · rw [List.getElem?_set_ne hj] at e
    have q := R.slots j s e
    cases s with
    | hid => trivial
    | own _ => trivial
    | dat d' => obtain ⟨u, e1, e2⟩ := q; exact ⟨u, by rw [List.getElem?_set_ne hj]; exact e1, e2⟩
    | row => show (σ.set i o)[j]? = _; rw [List.getElem?_set_ne hj]; exact q
theorem RelE.wiped (R : RelE K M r σ H ev rs) : ∀ vs : List Nat, RelE K M r (wipe σ vs) H (wipeE ev vs) rs
  | [] => R
  | v :: vs => (RelE.wiped R vs).hid1
theorem wipe_get {σ : L2.St} {j : Nat} : ∀ {vs : List Nat}, j ∉ vs → (wipe σ vs)[j]? = σ[j]?
  | [], _ => rfl
  | v :: vs, h => by
    simp only [List.mem_cons, not_or] at h
    show ((wipe σ vs).set v none)[j]? = _
    rw [List.getElem?_set_ne (Ne.symm h.1), wipe_get h.2]
theorem wipe_in {σ : L2.St} {j : Nat} : ∀ {vs : List Nat}, j ∈ vs → j < σ.length → (wipe σ vs)[j]? = some none
  | v :: vs, h, hl => by
    show ((wipe σ vs).set v none)[j]? = _
    by_cases e : v = j
    · subst e
      exact List.getElem?_set_self (by rw [wipe_length]; exact hl)
    · rw [List.getElem?_set_ne e]
      refine wipe_in ?_ hl
      rcases List.mem_cons.mp h with q | q
      · exact absurd q.symm e
      · exact q
/-- stores within vs are wiped -/
theorem wipe_set {σ σ' : L2.St} {vs : List Nat} (hl : σ'.length = σ.length) (h : ∀ j, j ∉ vs → σ'[j]? = σ[j]?) : wipe σ' vs = wipe σ vs := by
  apply List.ext_getElem?
  intro j
  by_cases hj : j ∈ vs
  · by_cases hlt : j < σ.length
    · rw [wipe_in hj hlt, wipe_in hj (by rw [hl]; exact hlt)]
    · rw [List.getElem?_eq_none (by rw [wipe_length]; omega), List.getElem?_eq_none (by rw [wipe_length]; omega)]
  · rw [wipe_get hj, wipe_get hj, h j hj]
theorem setV_length : ∀ {is : List Nat} {vs : List V} {σ : L2.St}, (setV σ is vs).length = σ.length
  | [], _, _ => rfl
  | _ :: _, [], _ => rfl
  | i :: is, v :: vs, σ => by
    show (setV (σ.set i (some v)) is vs).length = _
    rw [setV_length, List.length_set]
theorem setV_out {j : Nat} : ∀ {is : List Nat} {vs : List V} {σ : L2.St}, j ∉ is → (setV σ is vs)[j]? = σ[j]?
  | [], _, _, _ => rfl
  | _ :: _, [], _, _ => rfl
  | i :: is, v :: vs, σ, h => by
    simp only [List.mem_cons, not_or] at h
    show (setV (σ.set i (some v)) is vs)[j]? = _
    rw [setV_out h.2, List.getElem?_set_ne (Ne.symm h.1)]
theorem wipe_turn {is own : List Nat} {vs : List V} (h : ∀ i ∈ is, i ∈ own) : wipe (setV (wipe σ own) is vs) own = wipe σ own := by
  refine wipe_set (by rw [setV_length, wipe_length]) fun j hj => ?_
  rw [setV_out fun z => hj (h j z), wipe_get hj]
def nox {α : Type} (m : Mn α) : Mn α := fun rs => match m rs with
  | some (.val a, rs') => some (.val a, rs')
  | _ => none
theorem nox_some {α : Type} {m : Mn α} {rs rs' : RS} {o : Out α} (h : nox m rs = some (o, rs')) : ∃ a, o = .val a ∧ m rs = some (.val a, rs') := by
  unfold nox at h
  split at h
  · rename_i e; cases h; exact ⟨_, rfl, e⟩
  · cases h
theorem bnd_nox {α β : Type} {m : Mn α} {f : α → Mn β} {rs rs' : RS} {o : Out β} (h : bnd (nox m) f rs = some (o, rs')) : ∃ a rs1, m rs = some (.val a, rs1) ∧ f a rs1 = some (o, rs') := by
  rcases bnd_some h with ⟨a, rs1, e1, e2⟩ | ⟨x, i, e1, _⟩
  · obtain ⟨b, eb, e3⟩ := nox_some e1
    cases eb
    exact ⟨a, rs1, e3, e2⟩
  · obtain ⟨b, eb, _⟩ := nox_some e1
    cases eb
def compGo (t : Tgt) (cond : Ev → Mn Bool) (elt : Ev → Mn D) (ev : Ev) : List D → Mn (List D)
  | [] => pur []
  | d :: ds => bnd (lft (t.of d)) fun es => bnd (nox (cond (setE ev t.ix es))) fun c =>
    if c = true then bnd (nox (elt (setE ev t.ix es))) fun x => bnd (compGo t cond elt ev ds) fun xs => pur (x :: xs) else compGo t cond elt ev ds
def dComp (own : List Nat) (src : Ev → Mn (List D)) (t : Tgt) (cond : Ev → Mn Bool) (elt : Ev → Mn D) (ev : Ev) : Mn D :=
  bnd (src ev) fun ds => bnd (compGo t cond elt (wipeE ev own) ds) fun out => lft (if out.length ≤ sizeLine then some (.list out) else none)
theorem compGo_val {t : Tgt} {cond : Ev → Mn Bool} {elt : Ev → Mn D} {ev : Ev} : ∀ {ds : List D} {rs rs' : RS} {o : Out (List D)}, compGo t cond elt ev ds rs = some (o, rs') → ∃ xs, o = .val xs
  | [], _, _, _, h => by cases h; exact ⟨_, rfl⟩
  | d :: ds, rs, rs', o, h => by
    obtain ⟨es, _, h⟩ := bnd_lft h
    obtain ⟨c, rs1, _, h⟩ := bnd_nox h
    split at h
    · obtain ⟨x, rs2, _, h⟩ := bnd_nox h
      rcases bnd_some h with ⟨a, rs3, e1, e2⟩ | ⟨x, i, e1, rfl⟩
      · cases e2; exact ⟨_, rfl⟩
      · obtain ⟨xs, e⟩ := compGo_val e1
        cases e
    · exact compGo_val h
theorem tI_bnd {β : Type} {fa : Ev → Mn (List D)} {kk : List D → Mn β} {o : Out β} {Vb : β → Hp → Prop} {Q1 : It → Hp → Prop} (R : RelE K M r σ H ev rs) (h : bnd (fa ev) kk rs = some (o, rs')) (w : Wan K mg M r H rs' (fun cls dd H' => W cls dd σ H') Vb o)
    (c : ∀ ds rs1 H1 J, RelE K M r σ H1 ev rs1 → Stp r H H1 → JOk K M J H1 ds → kk ds rs1 = some (o, rs') → Wan K mg M r H1 rs' (fun cls dd H' => W cls dd σ H') Vb o → Q1 J H1) : tI K mg W fa σ H Q1 := by
  rcases bnd_some h with ⟨x, rs1, e1, e2⟩ | ⟨x, i, e1, rfl⟩
  · refine ⟨M, r, ev, rs, R, .val x, rs1, e1, fun H1 s1 w1 m1 J j1 => ?_⟩
    exact c x rs1 H1 J (R.stp s1 w1) s1 j1 e2 (w.stp s1)
  · exact ⟨M, r, ev, rs, R, .exc x i, rs', e1, w.exc⟩
def Sx.blk (sc : Sx) (scope : Scope) : Sx := ⟨relS scope sc.sc, fun x => scope.names.lookup x == some .cell⟩
theorem Gd.blk {X : Cx} (g : Gd G k sc N X) (s : Shared) (H : Hp) (scope : Scope) (cl : List (Str × Addr)) (C : Addr) (fp : List Addr) : Gd G k (sc.blk scope) N (X.blk s H scope (compEnvC scope cl C X.env) fp) where
  hN := g.hN
  nd := g.nd
  hsc := by
    show relS scope X.env.scope = relS scope sc.sc
    rw [g.hsc]
  hfc := fun x h => h
  calm := g.calm
  room := g.room
  hP := g.hP
  hw := g.hw
  hK := g.hK
  hmg := g.hmg
  hb := g.hb
abbrev W0 : WX := fun _ _ _ _ => False
def SP1 (G : Gm) (k : Nat) (sc : Sx) (N : List Str) (ifs : List Expr) (f : Ev → Mn Bool) : Prop := ∀ (X : Cx) (W : WX), Gd G k sc N X → Takes X W → PTs X ifs (tT G.K G.mg W f)
def dYes (_ : Ev) : Mn Bool := pur true
theorem p_nil : SP1 G k sc N [] dYes := fun X W g tk => ⟨fun pins s σ H Q I h => by
  obtain ⟨M, r, ev, rs, R, o, rs', e, w⟩ := h
  cases e
  exact pts_nil.run pins s σ H Q I (w H (.refl H) R.row)⟩
theorem p_one {c : Expr} {f : Ev → Mn Bool} (h : ST G k sc N c f) : SP1 G k sc N [c] f := fun X W g tk => pts_one (h X W g tk)
/-- M and one new list -/
def And1 (M : Addr → Prop) (p : Addr) : Addr → Prop := fun b => M b ∨ b = p
theorem RelE.and1 {p : Addr} {oo : HO} (R : RelE K M r σ H ev rs) (hp : H p = none) (mo : mutO oo := by trivial) : RelE K (And1 M p) r σ (upd H p oo) ev rs := by
  have ne : ∀ b o, H b = some o → b ≠ p := fun b o e => ne_of_none e hp
  have R1 := R.new (o := oo) hp
  have ext : ∀ {v : V} {d : D}, Da K M H v d → Da K (And1 M p) (upd H p oo) v d := fun h => (h.ext fun b m => m.elim .inl fun e => .inr (by rw [e]; exact hp)).same (same_upd hp)
  refine ⟨.inl R.mr, fun b m => ?_, ?_, fun i s e => ?_, R.len⟩
  · rcases m with m | rfl
    · exact R.ml.upd hp b m
    · exact ⟨oo, upd_same, mo⟩
  · obtain ⟨⟨e1, e1'⟩, e2⟩ := R.row
    refine ⟨⟨by rw [upd_ne (ne _ _ e1)]; exact e1, e1'⟩, ?_⟩
    rcases e2 with ⟨h | ⟨o, h⟩, n⟩ | h
    · exact .inl ⟨.inl (by rw [upd_ne (ne _ _ h)]; exact h), fun z => z.elim n fun e => ne _ _ h e⟩
    · exact .inl ⟨.inr ⟨o, by rw [upd_ne (ne _ _ h)]; exact h⟩, fun z => z.elim n fun e => ne _ _ h e⟩
    · exact .inr h
  · have q := R.slots i s e
    cases s with
    | hid => trivial
    | own _ => trivial
    | row => exact q
    | dat d => obtain ⟨v, e1, e2⟩ := q; exact ⟨v, e1, ext e2⟩
theorem row_sub {K : PySem.W.Frag} {M M' : Addr → Prop} {H : Hp} {r : Rw} {rs : RS} (h : RowAt K M H r rs) (s : ∀ b, M' b → M b) : RowAt K M' H r rs := by
  obtain ⟨e1, e2⟩ := h
  exact ⟨e1, sqlm_sub e2 s⟩
/-- all that was tracked but the row and one more -/
def Same' (r : Rw) (p : Addr) (H H' : Hp) : Prop := ∀ b o, b ≠ p → b ≠ r.a → H b = some o → H' b = some o
/-- a comprehension of one clause, as its rule wants it -/
theorem lc_imp {X : Cx} {W : WX} {fi : Ev → Mn (List D)} {t : Tgt} {fc : Ev → Mn Bool} {fe : Ev → Mn D} {own : List (Str × Nat)} {u : TG} (g : Gd G k sc N X) (hu2 : ∀ M (σ : L2.St) H v d ds Q, Da G.K M H v d → t.of d = some ds → (∀ vs, DaL G.K M H vs ds → Q (setV σ t.ix vs) H) → u v σ H Q) (hix : ∀ i ∈ t.ix, i ∈ own.map (·.2)) :
    ∀ σ H Q, tE G.K G.mg W (dComp (own.map (·.2)) fi t fc fe) σ H Q → tLc (tI G.K G.mg W fi) u (tT G.K G.mg W0 fc) (tE G.K G.mg W0 fe) (own.map (·.2)) σ H Q := fun σ H Q h => by
  obtain ⟨M, r, ev, rs, R, o, rs', e, w⟩ := h
  refine tI_bnd R e w fun ds rs1 H1 J R1 s1 jok e1 w1 => ?_
  intro P hP
  -- what the whole makes
  obtain ⟨out, eo⟩ : ∃ out, compGo t fc fe (wipeE ev (own.map (·.2))) ds rs1 = some (.val out, rs') ∧ o = .val (.list out) ∧ out.length ≤ sizeLine := by
    rcases bnd_some e1 with ⟨a, rs2, q1, q2⟩ | ⟨x, i, q1, _⟩
    · obtain ⟨d, q3, rfl, rfl⟩ := lft_some q2
      split at q3
      · rename_i hl; cases q3; exact ⟨a, q1, rfl, hl⟩
      · cases q3
    · obtain ⟨xs, q⟩ := compGo_val q1
      cases q
  obtain ⟨eg, rfl, hlen⟩ := eo
  have M1r : And1 M P r.a := .inl R.mr
  refine ⟨fun i m H' => m = ds.length - i ∧ i ≤ ds.length ∧ ∃ acc accD rest rsi, H' P = some (.lst acc) ∧ DaL G.K (And1 M P) H' acc accD ∧ Same' r P H1 H' ∧ RelE G.K (And1 M P) r (wipe σ (own.map (·.2))) H' (wipeE ev (own.map (·.2))) rsi ∧ compGo t fc fe (wipeE ev (own.map (·.2))) (ds.drop i) rsi = some (.val rest, rs') ∧ accD ++ rest = out, ⟨_, rfl, Nat.zero_le _, [], [], out, rs1, upd_same, .nil, fun b o hb hr e => by rw [upd_ne hb]; exact e, (R1.wiped _).and1 hP, by rw [List.drop_zero]; exact eg, rfl⟩, ?_⟩
  rintro i m H2 ⟨rfl, hil, acc, accD, rest, rsi, hD, hacc, hsm, R2, hgo, happ⟩
  have kp : Kp M H1 H2 := fun b o n e => hsm b o (ne_of_none e hP) (fun z => n (z ▸ R.mr)) e
  by_cases hlt : i < ds.length
  · have hd := List.getElem?_eq_getElem hlt
    refine .inr ⟨jok.go H2 kp i _ hd, fun H' => ds.length - (i + 1) = ds.length - (i + 1) ∧ i + 1 ≤ ds.length ∧ ∃ acc accD rest rsi, H' P = some (.lst acc) ∧ DaL G.K (And1 M P) H' acc accD ∧ Same' r P H1 H' ∧ RelE G.K (And1 M P) r (wipe σ (own.map (·.2))) H' (wipeE ev (own.map (·.2))) rsi ∧ compGo t fc fe (wipeE ev (own.map (·.2))) (ds.drop (i + 1)) rsi = some (.val rest, rs') ∧ accD ++ rest = out, fun H' q => ⟨_, by omega, q⟩, fun x H3 hy => ?_⟩
    obtain ⟨sm3, dx⟩ := jok.yld (And1 M P) H2 kp (fun b z => z.elim .inl fun e => .inr (by rw [e]; exact hP)) i _ x H3 hd hy
    rw [List.drop_eq_getElem_cons hlt] at hgo
    obtain ⟨es, ht1, hgo⟩ := bnd_lft hgo
    obtain ⟨c, rs2, hc1, hgo⟩ := bnd_nox hgo
    have R3 : RelE G.K (And1 M P) r (wipe σ (own.map (·.2))) H3 (wipeE ev (own.map (·.2))) rsi := R2.stp (.of_same sm3) (row_same R2.row sm3)
    refine hu2 _ _ _ _ _ _ _ dx ht1 fun vs hvs => ?_
    refine ⟨wipe_turn hix, ?_⟩
    have R4 := R3.setL (is := t.ix) hvs
    refine ⟨_, _, _, rsi, R4, .val c, rs2, hc1, fun H5 s5 w5 => ?_⟩
    have R5 := R4.stp s5 w5
    have back : ∀ {H' : Hp} {rsx : RS}, Stp r H3 H' → RowAt G.K (And1 M P) H' r rsx → RelE G.K (And1 M P) r (wipe σ (own.map (·.2))) H' (wipeE ev (own.map (·.2))) rsx := fun s w => R3.stp s w
    have same5 : Same' r P H1 H5 := fun b o hb hr e => s5 b o hr (sm3 b o (hsm b o hb hr e))
    cases c with
    | false =>
      rw [if_neg (by decide)] at hgo
      show if false = true then _ else _
      rw [if_neg (by decide)]
      have kp5 : Kp (And1 M P) H2 H5 := ((Kp.of_same sm3).trans (s5.kp M1r))
      have rP : P ≠ r.a := fun z => by
        obtain ⟨⟨e1, _⟩, _⟩ := R1.row
        rw [z, e1] at hP; cases hP
      exact ⟨rfl, hlt, acc, accD, rest, rs2, s5 _ _ rP (sm3 _ _ hD), hacc.kp R2.ml kp5, same5, back s5 w5, hgo, happ⟩
    | true =>
      rw [if_pos rfl] at hgo
      show if true = true then _ else _
      rw [if_pos rfl]
      obtain ⟨y, rs3, hy1, hgo⟩ := bnd_nox hgo
      rcases bnd_some hgo with ⟨rest', rs4, q1, q2⟩ | ⟨_, _, q1, q2⟩
      · cases q2
        refine ⟨_, _, _, rs2, R5, .val y, rs3, hy1, fun H6 s6 w6 v dv => ?_⟩
        have rP : P ≠ r.a := fun z => by
          obtain ⟨⟨e1, _⟩, _⟩ := R1.row
          rw [z, e1] at hP; cases hP
        have s36 : Stp r H3 H6 := s5.trans s6
        have hD6 : H6 P = some (.lst acc) := s36 _ _ rP (sm3 _ _ hD)
        have kp6 : Kp (And1 M P) H2 H6 := ((Kp.of_same sm3).trans (s36.kp M1r))
        have ml6 : Ml (And1 M P) H6 := R5.ml.stp M1r s6 w6
        have acc6 : DaL G.K (And1 M P) H6 acc accD := hacc.kp R2.ml kp6
        have lacc : acc.length < sizeLine := by
          rw [acc6.length]
          have : accD.length + (y :: rest').length = out.length := by rw [← happ, List.length_append]
          simp only [List.length_cons] at this
          omega
        have k7 : Kp (And1 M P) H6 (upd H6 P (.lst (acc ++ [v]))) := fun b o n e => by rw [upd_ne fun z => n (.inr z)]; exact e
        have s7 : ∀ b o, b ≠ P → H6 b = some o → (upd H6 P (.lst (acc ++ [v]))) b = some o := fun b o n e => by rw [upd_ne n]; exact e
        have row7 : RowAt G.K (And1 M P) (upd H6 P (.lst (acc ++ [v]))) r rs3 := by
          obtain ⟨⟨e1, e1'⟩, e2⟩ := w6
          exact ⟨⟨s7 _ _ rP.symm e1, e1'⟩, sqlm_kp e2 k7⟩
        have R7 : RelE G.K (And1 M P) r (wipe σ (own.map (·.2))) (upd H6 P (.lst (acc ++ [v]))) (wipeE ev (own.map (·.2))) rs3 := by
          have R6 := back s36 w6
          refine ⟨R6.mr, fun b m => ?_, row7, fun j s e => (R6.slots j s e).kp R6.ml k7, R6.len⟩
          by_cases hb : b = P
          · exact ⟨.lst _, by rw [hb]; exact upd_same, trivial⟩
          · obtain ⟨xs, e, mu⟩ := R6.ml b m
            exact ⟨xs, s7 _ _ hb e, mu⟩
        refine ⟨acc, hD6, lacc, rfl, hlt, acc ++ [v], accD ++ [y], rest', rs3, upd_same, ?_, fun b o hb hr e => s7 _ _ hb (s36 b o hr (sm3 b o (hsm b o hb hr e))), R7, q1, by rw [List.append_assoc]; exact happ⟩
        exact DaL.kp ml6 k7 (acc6.append (.cons dv .nil))
      · cases q2
  · have ei : i = ds.length := by omega
    subst ei
    rw [List.drop_length] at hgo
    cases hgo
    rw [List.append_nil] at happ
    subst happ
    refine .inl ⟨jok.stop H2 kp, ?_⟩
    have s12 : Stp r H1 H2 := fun b o n e => hsm b o (ne_of_none e hP) n e
    exact w1 H2 s12 (row_sub R2.row fun b m => .inl m) _ (.lst hD (R1.ml.fresh hP) (hacc.sub fun b m => .inl m))
theorem e_lc {elt tg iter : Expr} {ifs : List Expr} {scope : Scope} {pos : Pos} {fi : Ev → Mn (List D)} {t : Tgt} {fc : Ev → Mn Bool} {fe : Ev → Mn D} (own : List (Str × Nat)) (hi : SI G k sc N tg iter fi) (ht : PGt G k (sc.blk scope) N tg t) (hc : SP1 G k (sc.blk scope) N ifs fc) (he : SE G k (sc.blk scope) N elt fe)
    (hb : blkC N sc.sc scope own = true := by decide +kernel) (hix : ∀ i ∈ t.ix, i ∈ own.map (·.2) := by decide) (hs : ∀ env x, foldedSetIterable iter env x = pure x := by intro _ _; rfl) :
    SE G k sc N (.ListComp elt [⟨tg, iter, ifs, 0⟩] scope pos) (dComp (own.map (·.2)) fi t fc fe) := fun X W g tk => by
  have ok : BlkOk X.N X.env.scope scope own := by
    rw [g.hN, g.hsc]
    exact blkOk_by hb
  have nd : X.N.Nodup := by rw [g.hN]; exact g.nd
  obtain ⟨u, hu1, hu2⟩ := ht
  refine pe_imp (pe_lc (own := own) g.calm nd (hi X W g tk) ok (fun s H C cl fp => hu1 _ (g.blk s H scope cl C fp)) (fun s H C cl fp => hc _ W0 (g.blk s H scope cl C fp) L2.takes0) (fun s H C cl fp => he _ W0 (g.blk s H scope cl C fp) L2.takes0) (hs _)) (lc_imp g hu2 hix)
end
end DL
namespace DL
open PySem PySem.Spec PyProof.Rows L2
inductive Res where
  | nx (ev : Ev)
  | ret (d : D)
  | bk (ev : Ev)
  | ct (ev : Ev)
  | exc (x : Str) (i : Option Int)
abbrev Ms := RS → Option (Res × RS)
def isOwn (ev : Ev) (i : Nat) : Prop := ∃ ds : Ow, ev[i]? = some (.own ds)
/-- the addresses of the frame's own lists beside M -/
def Av (M : Addr → Prop) (ev : Ev) (oa : Nat → Addr) : Addr → Prop := fun b => M b ∨ ∃ i, isOwn ev i ∧ b = oa i
structure RelS (K : PySem.W.Frag) (M : Addr → Prop) (r : Rw) (Pr : Addr → HO → Prop) (σ : L2.St) (H : Hp) (ev : Ev) (rs : RS) (oa : Nat → Addr) : Prop where
  e : RelE K (Av M ev oa) r σ H ev rs
  mr : M r.a
  prot : ∀ b o, Pr b o → H b = some o
  nr : ∀ o, ¬ Pr r.a o
  pm : ∀ b, M b → b ≠ r.a → ∃ o, Pr b o
  own : ∀ i (ds : Ow), ev[i]? = some (.own ds) → ∃ xs, σ[i]? = some (some (.ref (oa i))) ∧ H (oa i) = some (ds.ho xs) ∧ DaL K (Av M ev oa) H xs ds.ds ∧ (∀ o, ¬ Pr (oa i) o) ∧ oa i ≠ r.a
  inj : ∀ i j, isOwn ev i → isOwn ev j → oa i = oa j → i = j
section
variable {K : PySem.W.Frag} {mg : Str → Option Value} {M : Addr → Prop} {H H' H1 : Hp} {r : Rw} {σ σ' : L2.St} {ev ev' : Ev} {rs rs' : RS} {W : WX} {Pr : Addr → HO → Prop} {oa : Nat → Addr}
/-- own lists, lent: they may be read as data, then nothing may be kept of them -/
def lendS : Slot → Slot
  | .own (.l ds) => .dat (.list ds)
  | .own (.d kvs) => if kvs ≠ [] ∧ (kvs.map (·.1)).Nodup then .dat (.dict (kvs.map skD)) else .hid
  | s => s
def lend (ev : Ev) : Ev := ev.map lendS
theorem lend_get {i : Nat} {s : Slot} (h : (lend ev)[i]? = some s) : ∃ t, ev[i]? = some t ∧ s = lendS t := by
  unfold lend at h
  rw [List.getElem?_map] at h
  cases q : ev[i]? with
  | none => rw [q] at h; cases h
  | some t => rw [q] at h; cases h; exact ⟨t, rfl, rfl⟩
theorem RelS.ownM (R : RelS K M r Pr σ H ev rs oa) {i : Nat} (h : isOwn ev i) : ¬ M (oa i) := fun m => by
  obtain ⟨ds, e⟩ := h
  obtain ⟨xs, _, _, _, np, nr⟩ := R.own i ds e
  obtain ⟨ys, q⟩ := R.pm _ m nr
  exact np _ q
theorem RelS.lent (R : RelS K M r Pr σ H ev rs oa) : RelE K M r σ H (lend ev) rs := by
  refine ⟨R.mr, fun b m => R.e.ml b (.inl m), row_sub R.e.row fun b m => .inl m, fun i s e => ?_, by unfold lend; rw [List.length_map]; exact R.e.len⟩
  obtain ⟨t, e1, rfl⟩ := lend_get e
  have q := R.e.slots i t e1
  cases t with
  | hid => trivial
  | row => exact q
  | dat d => obtain ⟨v, h1, h2⟩ := q; exact ⟨v, h1, h2.sub fun b m => .inl m⟩
  | own ds =>
    obtain ⟨xs, h1, h2, h3, _, _⟩ := R.own i ds e1
    cases ds with
    | l ds => exact ⟨_, h1, .lst h2 (R.ownM ⟨_, e1⟩) (h3.sub fun b m => .inl m)⟩
    | d kvs =>
      show SlotAt K M r σ H i (if kvs ≠ [] ∧ (kvs.map (·.1)).Nodup then .dat (.dict (kvs.map skD)) else .hid)
      split
      · rename_i c
        exact ⟨_, h1, .txd h2 (R.ownM ⟨_, e1⟩) c (h3.sub fun b m => .inl m)⟩
      · trivial
theorem lend_own (i : Nat) : ¬ isOwn (lend ev) i := fun ⟨ds, h⟩ => by
  obtain ⟨t, _, e⟩ := lend_get h
  cases t with
  | own o =>
    cases o with
    | l ds => cases e
    | d kvs =>
      replace e : DL.Slot.own ds = if kvs ≠ [] ∧ (kvs.map (·.1)).Nodup then .dat (.dict (kvs.map skD)) else .hid := e
      split at e <;> cases e
  | _ => cases e
theorem av_lend {b : Addr} (h : Av M (lend ev) oa b) : M b := h.elim id fun ⟨i, q, _⟩ => absurd q (lend_own i)
/-- own lists, given up: data from now on -/
theorem RelS.freeze (R : RelS K M r Pr σ H ev rs oa) : RelS K M r Pr σ H (lend ev) rs oa := by
  have L := R.lent
  refine ⟨⟨.inl R.mr, fun b m => L.ml b (av_lend m), ?_, fun i s e => ?_, L.len⟩, R.mr, R.prot, R.nr, R.pm, fun i ds e => absurd ⟨ds, e⟩ (lend_own i), fun i j h => absurd h (lend_own i)⟩
  · exact row_sub L.row fun b m => av_lend m
  · have q := L.slots i s e
    cases s with
    | hid => trivial
    | row => exact q
    | own _ => trivial
    | dat d => obtain ⟨v, h1, h2⟩ := q; exact ⟨v, h1, h2.sub fun b m => av_lend m⟩
theorem RelE.sub (R : RelE K M r σ H ev rs) {M' : Addr → Prop} (s : ∀ b, M' b → M b) (m : M' r.a) : RelE K M' r σ H ev rs := by
  refine ⟨m, fun b q => R.ml b (s b q), row_sub R.row s, fun i t e => ?_, R.len⟩
  have q := R.slots i t e
  cases t with
  | hid => trivial
  | own _ => trivial
  | row => exact q
  | dat d => obtain ⟨v, h1, h2⟩ := q; exact ⟨v, h1, h2.sub s⟩
/-- behind what keeps all but the row -/
theorem RelS.stp (R : RelS K M r Pr σ H ev rs oa) {M' : Addr → Prop} (s : Stp r H H') (w : RowAt K M' H' r rs') : RelS K M r Pr σ H' ev rs' oa := by
  have w2 : RowAt K (Av M ev oa) H' r rs' := ⟨w.1, sqlm_kp R.e.row.2 (s.kp R.e.mr)⟩
  refine ⟨R.e.stp s w2, R.mr, fun b o p => s b o (fun z => R.nr o (z ▸ p)) (R.prot b o p), R.nr, R.pm, fun i ds e => ?_, R.inj⟩
  obtain ⟨xs, h1, h2, h3, h4, h5⟩ := R.own i ds e
  exact ⟨xs, h1, s _ _ h5 h2, h3.kp R.e.ml (s.kp R.e.mr), h4, h5⟩
def PrK (Pr : Addr → HO → Prop) (H : Hp) : Prop := ∀ b o, Pr b o → H b = some o
def WanS (K : PySem.W.Frag) (mg : Str → Option Value) (M : Addr → Prop) (r : Rw) (Pr : Addr → HO → Prop) (rs' : RS) (W : WX) (D : Ends) : Res → Prop
  | .nx ev => ∀ σ H oa, RelS K M r Pr σ H ev rs' oa → D.nx σ H
  | .bk ev => ∀ σ H oa, RelS K M r Pr σ H ev rs' oa → D.bk σ H
  | .ct ev => ∀ σ H oa, RelS K M r Pr σ H ev rs' oa → D.ct σ H
  | .ret d => ∀ v H, PrK Pr H → RowAt K M H r rs' → Da K M H v d → D.rt v H
  | .exc x i => ∀ cls dd σ H, PrK Pr H → RowAt K M H r rs' → ExA mg x i cls dd H → W cls dd σ H
def tS (K : PySem.W.Frag) (mg : Str → Option Value) (W : WX) (f : Ev → Ms) : TS := fun D σ H =>
  ∃ M r Pr ev rs oa, RelS K M r Pr σ H ev rs oa ∧ ∃ o rs', f ev rs = some (o, rs') ∧ WanS K mg M r Pr rs' W D o
theorem RelS.evE (R : RelS K M r Pr σ H ev rs oa) {M' : Addr → Prop} {ev' : Ev} (R' : RelE K M' r σ H ev' rs) (hM : ∀ b, M b → M' b) {f : Ev → Mn D} {o : Out D} {Q : VK} (e : f ev' rs = some (o, rs'))
    (cv : ∀ d, o = .val d → ∀ v H', RelS K M r Pr σ H' ev rs' oa → Stp r H H' → Da K M' H' v d → Q v H') (cx : ∀ x i, o = .exc x i → ∀ cls dd σ H, PrK Pr H → RowAt K M H r rs' → ExA mg x i cls dd H → W cls dd σ H) : tE K mg W f σ H Q := by
  refine ⟨M', r, ev', rs, R', o, rs', e, ?_⟩
  cases o with
  | val d => exact fun H' s w v dv => cv d rfl v H' (R.stp s w) s dv
  | exc x i => exact fun cls dd H' s w a => cx x i rfl cls dd σ H' (R.stp s w).prot (row_sub w hM) a
theorem isOwn_set {i j : Nat} {s : Slot} (hs : ∀ ds, s ≠ .own ds) (h : isOwn (ev.set i s) j) : isOwn ev j ∧ i ≠ j := by
  obtain ⟨ds, e⟩ := h
  by_cases hj : i = j
  · subst hj
    have hl : i < ev.length := by
      have := (List.getElem?_eq_some_iff.mp e).1
      rwa [List.length_set] at this
    rw [List.getElem?_set_self hl] at e
    exact absurd (Option.some.inj e) (hs ds)
  · rw [List.getElem?_set_ne hj] at e
    exact ⟨⟨ds, e⟩, hj⟩
theorem RelS.set1 (R : RelS K M r Pr σ H ev rs oa) {i : Nat} {v : V} {d : D} (h : Da K (Av M ev oa) H v d) : RelS K M r Pr (σ.set i (some v)) H (ev.set i (.dat d)) rs oa := by
  have nd : ∀ ds, Slot.dat d ≠ .own ds := fun ds e => by cases e
  have sub : ∀ b, Av M (ev.set i (.dat d)) oa b → Av M ev oa b := fun b m => m.elim .inl fun ⟨j, o, e⟩ => .inr ⟨j, (isOwn_set nd o).1, e⟩
  refine ⟨(R.e.set1 h).sub sub (.inl R.mr), R.mr, R.prot, R.nr, R.pm, fun j ds e => ?_, fun j j' o o' => R.inj j j' (isOwn_set nd o).1 (isOwn_set nd o').1⟩
  obtain ⟨_, hj⟩ := isOwn_set nd ⟨ds, e⟩
  rw [List.getElem?_set_ne hj] at e
  obtain ⟨xs, h1, h2, h3, h4⟩ := R.own j ds e
  exact ⟨xs, by rw [List.getElem?_set_ne hj]; exact h1, h2, h3.sub sub, h4⟩
theorem RelS.setL : ∀ {is : List Nat} {vs : List V} {ds : List D} {σ : L2.St} {ev : Ev}, RelS K M r Pr σ H ev rs oa → DaL K (Av M ev oa) H vs ds → RelS K M r Pr (setV σ is vs) H (setE ev is ds) rs oa
  | [], _, _, _, _, R, _ => R
  | _ :: _, _, _, _, _, R, .nil => R
  | i :: is, _, _, σ, ev, R, .cons (d := d) h t => by
    refine RelS.setL (is := is) (R.set1 h) (t.sub fun b m => m.elim .inl fun ⟨j, o, e⟩ => .inr ⟨j, (isOwn_set (fun ds e => by cases e) o).1, e⟩)
theorem RelE.setAny {i : Nat} {o : Option V} {s : Slot} (hs : SlotAt K M r (σ.set i o) H i s) (R : RelE K M r σ H ev rs) : RelE K M r (σ.set i o) H (ev.set i s) rs := by
  refine ⟨R.mr, R.ml, R.row, fun j t e => ?_, by rw [List.length_set, List.length_set]; exact R.len⟩
  by_cases hj : i = j
  · subst hj
    have hl : i < ev.length := by
      have := (List.getElem?_eq_some_iff.mp e).1
      rwa [List.length_set] at this
    rw [List.getElem?_set_self hl] at e
    cases e
    exact hs
  · rw [List.getElem?_set_ne hj] at e
    have q := R.slots j t e
    cases t with
    | hid => trivial
    | own _ => trivial
    | dat d' => obtain ⟨u, e1, e2⟩ := q; exact ⟨u, by rw [List.getElem?_set_ne hj]; exact e1, e2⟩
    | row => show (σ.set i o)[j]? = _; rw [List.getElem?_set_ne hj]; exact q
/-- a new own list at slot i -/
theorem RelS.newOwn (R : RelS K M r Pr σ H ev rs oa) {i : Nat} {p : Addr} {xs : List V} {ds : Ow} (hp : H p = none) (h : DaL K (Av M ev oa) H xs ds.ds) :
    RelS K M r Pr (σ.set i (some (.ref p))) (upd H p (ds.ho xs)) (ev.set i (.own ds)) rs (fun j => if j = i then p else oa j) := by
  have ne : ∀ {b o}, H b = some o → b ≠ p := fun e => ne_of_none e hp
  have own_ne : ∀ {j}, i ≠ j → isOwn (ev.set i (.own ds)) j → isOwn ev j := fun {j} hj ⟨es, e⟩ => ⟨es, by rw [List.getElem?_set_ne hj] at e; exact e⟩
  have sub : ∀ b, Av M (ev.set i (.own ds)) (fun j => if j = i then p else oa j) b → And1 (Av M ev oa) p b := fun b m => by
    rcases m with m | ⟨j, o, e⟩
    · exact .inl (.inl m)
    · by_cases hj : i = j
      · subst hj
        exact .inr (by simpa using e)
      · replace e : b = if j = i then p else oa j := e
        rw [if_neg (Ne.symm hj)] at e
        exact .inl (.inr ⟨j, own_ne hj o, e⟩)
  have big : RelE K (And1 (Av M ev oa) p) r (σ.set i (some (.ref p))) (upd H p (ds.ho xs)) (ev.set i (.own ds)) rs := (R.e.and1 hp (ds.mut xs)).setAny trivial
  have ext : ∀ {vs : List V} {es : List D}, DaL K (Av M ev oa) H vs es → DaL K (Av M (ev.set i (.own ds)) (fun j => if j = i then p else oa j)) (upd H p (ds.ho xs)) vs es := fun h => ((h.ext (M' := And1 (Av M ev oa) p) fun b m => m.elim .inl fun e => .inr (by rw [e]; exact hp)).same (same_upd hp)).sub sub
  have rp : p ≠ r.a := fun z => by
    have q := R.e.row.1.1
    rw [← z, hp] at q; cases q
  refine ⟨big.sub sub (.inl R.mr), R.mr, fun b o q => same_upd hp b o (R.prot b o q), R.nr, R.pm, fun j es e => ?_, fun j j' o o' e => ?_⟩
  · by_cases hj : i = j
    · subst hj
      have hl : i < ev.length := by
        have := (List.getElem?_eq_some_iff.mp e).1
        rwa [List.length_set] at this
      rw [List.getElem?_set_self hl] at e
      cases e
      rw [if_pos rfl]
      refine ⟨xs, List.getElem?_set_self (Nat.lt_of_lt_of_le hl R.e.len), upd_same, ext h, fun o q => ?_, rp⟩
      have z := R.prot _ _ q
      rw [hp] at z; cases z
    · rw [List.getElem?_set_ne hj] at e
      obtain ⟨ys, h1, h2, h3, h4⟩ := R.own j es e
      rw [if_neg (Ne.symm hj)]
      exact ⟨ys, by rw [List.getElem?_set_ne hj]; exact h1, same_upd hp _ _ h2, ext h3, h4⟩
  · by_cases hj : i = j
    · by_cases hj' : i = j'
      · rw [← hj, ← hj']
      · obtain ⟨es, q⟩ := own_ne hj' o'
        obtain ⟨ys, _, h2, _⟩ := R.own j' es q
        simp only [hj, if_pos, if_neg (Ne.symm hj')] at e
        subst hj
        rw [if_neg (Ne.symm hj')] at e
        exact absurd e.symm (ne h2)
    · by_cases hj' : i = j'
      · obtain ⟨es, q⟩ := own_ne hj o
        obtain ⟨ys, _, h2, _⟩ := R.own j es q
        subst hj'
        simp only [if_pos, if_neg (Ne.symm hj)] at e
        exact absurd e (ne h2)
      · simp only [if_neg (Ne.symm hj), if_neg (Ne.symm hj')] at e
        exact R.inj j j' (own_ne hj o) (own_ne hj' o') e
/-- an own list changes -/
theorem RelS.mut (R : RelS K M r Pr σ H ev rs oa) {i : Nat} {ds es : Ow} {ys : List V} (hi : ev[i]? = some (.own ds)) (h : DaL K (Av M ev oa) H ys es.ds) : RelS K M r Pr σ (upd H (oa i) (es.ho ys)) (ev.set i (.own es)) rs oa := by
  obtain ⟨xs, g1, g2, g3, g4, g5⟩ := R.own i ds hi
  have hl : i < ev.length := (List.getElem?_eq_some_iff.mp hi).1
  have io : isOwn ev i := ⟨ds, hi⟩
  have kp : Kp (Av M ev oa) H (upd H (oa i) (es.ho ys)) := fun b o n e => by rw [upd_ne fun z => n (.inr ⟨i, io, z⟩)]; exact e
  have own_iff : ∀ {j}, isOwn (ev.set i (.own es)) j → isOwn ev j := fun {j} ⟨fs, e⟩ => by
    by_cases hj : i = j
    · rw [← hj]; exact io
    · rw [List.getElem?_set_ne hj] at e; exact ⟨fs, e⟩
  have sub : ∀ b, Av M (ev.set i (.own es)) oa b → Av M ev oa b := fun b m => m.elim .inl fun ⟨j, o, e⟩ => .inr ⟨j, own_iff o, e⟩
  have ml : Ml (Av M ev oa) (upd H (oa i) (es.ho ys)) := fun b m => by
    by_cases hb : b = oa i
    · exact ⟨es.ho ys, by rw [hb]; exact upd_same, es.mut ys⟩
    · obtain ⟨zs, e, mu⟩ := R.e.ml b m
      exact ⟨zs, by rw [upd_ne hb]; exact e, mu⟩
  have big : RelE K (Av M ev oa) r σ (upd H (oa i) (es.ho ys)) (ev.set i (.own es)) rs := by
    refine ⟨R.e.mr, ml, ⟨⟨by rw [upd_ne (Ne.symm g5)]; exact R.e.row.1.1, R.e.row.1.2⟩, sqlm_kp R.e.row.2 kp⟩, fun j t e => ?_, by rw [List.length_set]; exact R.e.len⟩
    by_cases hj : i = j
    · subst hj
      rw [List.getElem?_set_self hl] at e
      cases e
      trivial
    · rw [List.getElem?_set_ne hj] at e
      exact (R.e.slots j t e).kp R.e.ml kp
  refine ⟨big.sub sub (.inl R.mr), R.mr, fun b o q => ?_, R.nr, R.pm, fun j fs e => ?_, fun j j' o o' => R.inj j j' (own_iff o) (own_iff o')⟩
  · rw [upd_ne fun z => g4 o (by rw [← z]; exact q)]
    exact R.prot b o q
  · by_cases hj : i = j
    · subst hj
      rw [List.getElem?_set_self hl] at e
      cases e
      exact ⟨ys, g1, upd_same, (h.kp R.e.ml kp).sub sub, g4, g5⟩
    · rw [List.getElem?_set_ne hj] at e
      obtain ⟨zs, h1, h2, h3, h4⟩ := R.own j fs e
      have ne : oa j ≠ oa i := fun z => hj (R.inj i j io ⟨fs, e⟩ z.symm)
      exact ⟨zs, h1, by rw [upd_ne ne]; exact h2, (h3.kp R.e.ml kp).sub sub, h4⟩
end
end DL
namespace DL
open PySem PySem.Spec PyProof.Rows L2
section
variable {G : Gm} {k : Nat} {sc : Sx} {N : List Str}
variable {K : PySem.W.Frag} {mg : Str → Option Value} {M : Addr → Prop} {H H' H1 : Hp} {r : Rw} {σ σ' : L2.St} {ev ev' : Ev} {rs rs' : RS} {W : WX} {Pr : Addr → HO → Prop} {oa : Nat → Addr}
def SS (G : Gm) (k : Nat) (sc : Sx) (N : List Str) (st : Stmt) (f : Ev → Ms) : Prop := ∀ (X : Cx) (W : WX), Gd G k sc N X → Takes X W → PassesOwn (model X.prog X.w) X.A X.env X.xe → PS X st (tS G.K G.mg W f)
def SB (G : Gm) (k : Nat) (sc : Sx) (N : List Str) (st : List Stmt) (f : Ev → Ms) : Prop := ∀ (X : Cx) (W : WX), Gd G k sc N X → Takes X W → PassesOwn (model X.prog X.w) X.A X.env X.xe → PSs X st (tS G.K G.mg W f)
def sNil (ev : Ev) : Ms := fun rs => some (.nx ev, rs)
def seqM (f g : Ev → Ms) (ev : Ev) : Ms := fun rs => match f ev rs with
  | some (.nx ev', rs') => g ev' rs'
  | q => q
theorem s_nil : SB G k sc N [] sNil := fun X W g tk po => pss_imp pss_nil fun D σ H h => by
  obtain ⟨M, r, Pr, ev, rs, oa, R, o, rs', e, w⟩ := h
  cases e
  exact w σ H oa R
theorem seqM_some {f g : Ev → Ms} {o : Res} (h : seqM f g ev rs = some (o, rs')) : (∃ ev1 rs1, f ev rs = some (.nx ev1, rs1) ∧ g ev1 rs1 = some (o, rs')) ∨ (f ev rs = some (o, rs') ∧ ∀ e, o ≠ .nx e) := by
  unfold seqM at h
  split at h
  · rename_i ev1 rs1 e; exact .inl ⟨ev1, rs1, e, h⟩
  · rename_i q hq
    refine .inr ⟨h, fun e1 e2 => ?_⟩
    subst e2
    exact hq _ _ h
theorem s_cons {st : Stmt} {rest : List Stmt} {f g : Ev → Ms} (h1 : SS G k sc N st f) (h2 : SB G k sc N rest g) : SB G k sc N (st :: rest) (seqM f g) := fun X W gd tk po => by
  refine pss_imp (pss_cons (h1 X W gd tk po) (h2 X W gd tk po)) fun D σ H h => ?_
  obtain ⟨M, r, Pr, ev, rs, oa, R, o, rs', e, w⟩ := h
  rcases seqM_some e with ⟨ev1, rs1, e1, e2⟩ | ⟨e1, hn⟩
  · exact ⟨M, r, Pr, ev, rs, oa, R, .nx ev1, rs1, e1, fun σ1 H1 oa1 R1 => ⟨M, r, Pr, ev1, rs1, oa1, R1, o, rs', e2, w⟩⟩
  · refine ⟨M, r, Pr, ev, rs, oa, R, o, rs', e1, ?_⟩
    cases o with
    | nx e' => exact absurd rfl (hn e')
    | ret d => exact w
    | bk e => exact w
    | ct e => exact w
    | exc x i => exact w
theorem s_one {st : Stmt} {f : Ev → Ms} (h1 : SS G k sc N st f) : SB G k sc N [st] f := fun X W gd tk po => pss_one (h1 X W gd tk po)
def bnS {α : Type} (m : Mn α) (f : α → Ms) : Ms := fun rs => match m rs with
  | none => none
  | some (.val a, rs') => f a rs'
  | some (.exc x i, rs') => some (.exc x i, rs')
theorem bnS_some {α : Type} {m : Mn α} {f : α → Ms} {o : Res} (h : bnS m f rs = some (o, rs')) : (∃ a rs1, m rs = some (.val a, rs1) ∧ f a rs1 = some (o, rs')) ∨ ∃ x i, m rs = some (.exc x i, rs') ∧ o = .exc x i := by
  unfold bnS at h
  split at h
  · cases h
  · rename_i a rs1 e; exact .inl ⟨a, rs1, e, h⟩
  · rename_i x i rs1 e; cases h; exact .inr ⟨x, i, e, rfl⟩
/-- own lists in sight: what is kept must be free of lists -/
def dyn (f : Ev → Mn D) (ev : Ev) : Mn D := fun rs => match f ev rs with
  | some q => some q
  | none => match f (lend ev) rs with
    | some (.val d, rs') => if noL d = true then some (.val d, rs') else none
    | _ => none
theorem RelS.dynE (R : RelS K M r Pr σ H ev rs oa) {f : Ev → Mn D} {o : Out D} {Q : VK} (e : dyn f ev rs = some (o, rs'))
    (cv : ∀ d, o = .val d → ∀ v H', RelS K M r Pr σ H' ev rs' oa → Stp r H H' → Da K (Av M ev oa) H' v d → Q v H') (cx : ∀ x i, o = .exc x i → ∀ cls dd σ H, PrK Pr H → RowAt K M H r rs' → ExA mg x i cls dd H → W cls dd σ H) : tE K mg W f σ H Q := by
  unfold dyn at e
  split at e
  · rename_i q eq
    cases e
    exact R.evE R.e (fun b m => .inl m) eq cv cx
  · split at e
    · rename_i d rs1 eq
      split at e
      · rename_i hn
        cases e
        exact R.evE R.lent (fun b m => m) eq (fun d' ed v H' R' s dv => cv d' ed v H' R' s (by cases ed; exact dv.any hn)) cx
      · cases e
    · cases e
def sSet (i : Nat) (f : Ev → Mn D) (ev : Ev) : Ms := bnS (dyn f ev) fun d rs => some (.nx (ev.set i (.dat d)), rs)
/-- a, b = e (e a tuple as data) -/
def sTgt (t : Tgt) (f : Ev → Mn D) (ev : Ev) : Ms := bnS (bnd (dyn f ev) fun d => lft (t.of d)) fun ds rs => some (.nx (setE ev t.ix ds), rs)
theorem s_tgt {t : Tgt} {tg e : Expr} {p : Pos} {f : Ev → Mn D} (h : SE G k sc N e f) (ht : PGt G k sc N tg t) (hs : ∀ env, swapsWithSole [tg] e p.line env = pure false := by intro _; rfl) (hw : ∀ env, env.scope = sc.sc → swappedStores [tg] e env = pure none := by intro env h; first | rfl | (cases env; cases h; rfl))
    (h1 : ∀ env, (assignEach [tg] env).map (·.2) = [assign tg env] := by intro _; rfl) : SS G k sc N (.Assign [tg] e p) (sTgt t f) := fun X W g tk po => by
  obtain ⟨u, hu1, hu2⟩ := ht
  refine ps_imp (ps_asg (h X W g tk) (hu1 X g) (hs _) (hw _ g.hsc) (h1 _)) fun D σ H h => ?_
  obtain ⟨M, r, Pr, ev, rs, oa, R, o, rs', e, w⟩ := h
  rcases bnS_some e with ⟨ds, rs1, e1, e2⟩ | ⟨x, j, e1, rfl⟩
  · cases e2
    rcases bnd_some e1 with ⟨d, rs2, e3, e4⟩ | ⟨_, _, _, e4⟩
    · obtain ⟨ds', e5, e6, rfl⟩ := lft_some e4
      cases e6
      exact R.dynE e3 (fun d' ed v H' R' s dv => by cases ed; exact hu2 _ _ _ _ _ _ _ dv e5 fun vs hvs => w _ _ oa (R'.setL hvs)) fun _ _ ed => by cases ed
    · cases e4
  · rcases bnd_some e1 with ⟨d, rs2, e3, e4⟩ | ⟨y, j', e3, e4⟩
    · obtain ⟨ds', e5, e6, rfl⟩ := lft_some e4
      cases e6
    · cases e4
      exact R.dynE e3 (fun _ ed => by cases ed) fun y j ed => by cases ed; exact w
/-- a new list of the frame's own: x = [..] -/
def sOwn (i : Nat) (f : Ev → Mn (List Slot)) (ev : Ev) : Ms := bnS (bnd (f ev) fun ss => lft (if ss.length ≤ sizeLine then dats ss else none)) fun ds rs => some (.nx (ev.set i (.own ds)), rs)
/-- x += e, ints -/
def sAug (i : Nat) (f : Ev → Mn D) (op : Int → Int → Int) (ev : Ev) : Ms := bnS (bnd (lft (getE ev i)) fun a => bnd (f (lend ev)) fun b => lft (match a, b with
  | .int x, .int y => some (PyData.int (op x y))
  | _, _ => none)) fun d rs => some (.nx (ev.set i (.dat d)), rs)
def sRet (f : Ev → Mn D) (ev : Ev) : Ms := bnS (f (lend ev)) fun d rs => some (.ret d, rs)
theorem s_ret {e : Expr} {p : Pos} {f : Ev → Mn D} (h : SE G k sc N e f) : SS G k sc N (.Return (some e) p) (sRet f) := fun X W g tk po => by
  refine ps_imp (ps_ret (h X W g tk)) fun D σ H h => ?_
  obtain ⟨M, r, Pr, ev, rs, oa, R, o, rs', e, w⟩ := h
  rcases bnS_some e with ⟨d, rs1, e1, e2⟩ | ⟨x, j, e1, rfl⟩
  · cases e2
    refine ⟨M, r, lend ev, rs, R.lent, .val d, rs', e1, fun H' s w1 v dv => w v H' (R.stp s w1).prot w1 dv⟩
  · exact R.evE R.lent (fun b m => m) e1 (fun _ ed => by cases ed) fun y j ed => by cases ed; exact w
def sRetN (_ : Ev) : Ms := fun rs => some (.ret .none, rs)
def sBk (ev : Ev) : Ms := fun rs => some (.bk ev, rs)
def sCt (ev : Ev) : Ms := fun rs => some (.ct ev, rs)
def sDrop (f : Ev → Mn D) (ev : Ev) : Ms := bnS (f (lend ev)) fun _ rs => some (.nx ev, rs)
def sIf (t : Ev → Mn Bool) (f g : Ev → Ms) (ev : Ev) : Ms := bnS (t (lend ev)) fun c => if c = true then f ev else g ev
end
end DL
namespace DL
open PySem PySem.Spec PyProof.Rows L2
section
variable {G : Gm} {k : Nat} {sc : Sx} {N : List Str}
variable {K : PySem.W.Frag} {mg : Str → Option Value} {M : Addr → Prop} {H H' H1 : Hp} {r : Rw} {σ σ' : L2.St} {ev ev' : Ev} {rs rs' : RS} {W : WX} {Pr Pr' : Addr → HO → Prop} {oa : Nat → Addr}
theorem RelS.weak (R : RelS K M r Pr' σ H ev rs oa) (h : ∀ b o, Pr b o → Pr' b o) (pm : ∀ b, M b → b ≠ r.a → ∃ o, Pr b o) : RelS K M r Pr σ H ev rs oa :=
  ⟨R.e, R.mr, fun b o p => R.prot b o (h b o p), fun o p => R.nr o (h _ o p), pm, fun i ds e => by
    obtain ⟨xs, h1, h2, h3, h4, h5⟩ := R.own i ds e
    exact ⟨xs, h1, h2, h3, fun o p => h4 o (h _ o p), h5⟩, R.inj⟩
/-- what stands at the loop's start is kept through it -/
def PrL (M : Addr → Prop) (r : Rw) (Pr : Addr → HO → Prop) (H : Hp) (ev : Ev) (oa : Nat → Addr) : Addr → HO → Prop := fun b o => Pr b o ∨ (H b = some o ∧ ¬ Av M ev oa b)
theorem RelS.loop (R : RelS K M r Pr σ H ev rs oa) : RelS K M r (PrL M r Pr H ev oa) σ H ev rs oa :=
  ⟨R.e, R.mr, fun b o p => p.elim (R.prot b o) fun q => q.1, fun o p => p.elim (R.nr o) fun q => q.2 (.inl R.mr), fun b m n => by
    obtain ⟨xs, p⟩ := R.pm b m n
    exact ⟨xs, .inl p⟩, fun i ds e => by
    obtain ⟨xs, h1, h2, h3, h4, h5⟩ := R.own i ds e
    exact ⟨xs, h1, h2, h3, fun o p => p.elim (h4 o) fun q => q.2 (.inr ⟨i, ⟨ds, e⟩, rfl⟩), h5⟩, R.inj⟩
def forGo (t : Tgt) (body : Ev → Ms) : List D → Ev → Ms
  | [], ev => fun rs => some (.nx ev, rs)
  | d :: ds, ev => fun rs => match t.of d with
    | none => none
    | some es => match body (setE ev t.ix es) rs with
      | some (.nx ev', rs') => forGo t body ds ev' rs'
      | some (.ct ev', rs') => forGo t body ds ev' rs'
      | some (.bk ev', rs') => some (.nx ev', rs')
      | some (.ret d, rs') => some (.ret d, rs')
      | some (.exc x i, rs') => some (.exc x i, rs')
      | none => none
def sFor (fz : Bool) (src : Ev → Mn (List D)) (t : Tgt) (body : Ev → Ms) (ev : Ev) : Ms := bnS (src (if fz = true then lend ev else ev)) fun ds => forGo t body ds (if fz = true then lend ev else ev)
theorem s_for (fz : Bool) {tg iter : Expr} {body : List Stmt} {p : Pos} {src : Ev → Mn (List D)} {t : Tgt} {f : Ev → Ms} (hi : SI G k sc N tg iter src) (ht : PGt G k sc N tg t) (hb : SB G k sc N body f) (hs : ∀ env x, foldedSetIterable iter env x = pure x := by intro _ _; rfl) :
    SS G k sc N (.For tg iter body [] p) (sFor fz src t f) := fun X W g tk po => by
  obtain ⟨u, hu1, hu2⟩ := ht
  refine ps_imp (ps_for po g.calm (hi X W g tk) (hu1 X g) (hb X W g tk po) (hs _)) fun D σ H h => ?_
  obtain ⟨M, r, Pr, ev0, rs, oa, R0, o, rs', e, w⟩ := h
  obtain ⟨ev, eev⟩ : ∃ ev, ev = if fz = true then lend ev0 else ev0 := ⟨_, rfl⟩
  have R : RelS G.K M r Pr σ H ev rs oa := by
    rw [eev]
    split
    · exact R0.freeze
    · exact R0
  unfold sFor at e
  rw [← eev] at e
  rcases bnS_some e with ⟨ds, rs1, e1, e2⟩ | ⟨x, j, e1, rfl⟩
  · refine ⟨_, r, ev, rs, R.e, .val ds, rs1, e1, fun H1 s1 w1 ml1 J jok => ?_⟩
    have R1 : RelS G.K M r Pr σ H1 ev rs1 oa := R.stp s1 w1
    refine ⟨fun i m σ H => m = ds.length - i ∧ i ≤ ds.length ∧ ∃ ev' rs2 oa', RelS G.K M r (PrL M r Pr H1 ev oa) σ H ev' rs2 oa' ∧ forGo t f (ds.drop i) ev' rs2 = some (o, rs'), ⟨_, rfl, Nat.zero_le _, ev, rs1, oa, R1.loop, e2⟩, ?_⟩
    rintro i m σ2 H2 ⟨rfl, hil, ev2, rs2, oa2, R2, hgo⟩
    have kp : Kp (Av M ev oa) H1 H2 := fun b o n q => R2.prot b o (.inr ⟨q, n⟩)
    by_cases hlt : i < ds.length
    · have hd := List.getElem?_eq_getElem hlt
      refine .inr ⟨jok.go H2 kp i _ hd, fun σ' H' => ds.length - (i + 1) = ds.length - (i + 1) ∧ i + 1 ≤ ds.length ∧ ∃ ev' rs2 oa', RelS G.K M r (PrL M r Pr H1 ev oa) σ' H' ev' rs2 oa' ∧ forGo t f (ds.drop (i + 1)) ev' rs2 = some (o, rs'), fun σ' H' q => ⟨_, by omega, q⟩, fun x H3 hy => ?_⟩
      obtain ⟨sm3, dx⟩ := jok.yld (Av M ev2 oa2) H2 kp (fun b z => by
        rcases z with z | ⟨j, ⟨es, ej⟩, eb⟩
        · exact .inl (.inl z)
        · obtain ⟨xs, _, _, _, np, _⟩ := R2.own j es ej
          by_cases ha : Av M ev oa b
          · exact .inl ha
          · cases q : H1 b with
            | none => exact .inr rfl
            | some o => exact absurd (.inr ⟨by rw [← eb]; exact q, by rw [← eb]; exact ha⟩) (np o)) i _ x H3 hd hy
      rw [List.drop_eq_getElem_cons hlt] at hgo
      have R3 : RelS G.K M r (PrL M r Pr H1 ev oa) σ2 H3 ev2 rs2 oa2 := R2.stp (M' := Av M ev2 oa2) (.of_same sm3) (row_same R2.e.row sm3)
      unfold forGo at hgo
      split at hgo
      · cases hgo
      · rename_i es ht1
        refine hu2 _ _ _ _ _ _ _ dx ht1 fun vs hvs => ?_
        have R4 := R3.setL (is := t.ix) hvs
        have prk : ∀ {H'}, PrK (PrL M r Pr H1 ev oa) H' → PrK Pr H' := fun q b o p => q b o (.inl p)
        cases hbd : f (setE ev2 t.ix es) rs2 with
        | none => rw [hbd] at hgo; cases hgo
        | some q =>
          obtain ⟨ro, rs3⟩ := q
          rw [hbd] at hgo
          refine ⟨M, r, _, _, rs2, oa2, R4, ro, rs3, hbd, ?_⟩
          cases ro with
          | nx ev' => exact fun σ' H' oa' R' => ⟨rfl, hlt, ev', rs3, oa', R', hgo⟩
          | ct ev' => exact fun σ' H' oa' R' => ⟨rfl, hlt, ev', rs3, oa', R', hgo⟩
          | bk ev' => cases hgo; exact fun σ' H' oa' R' => w σ' H' oa' (R'.weak (fun b o p => .inl p) R.pm)
          | ret d => cases hgo; exact fun v H' pk row da => w v H' (prk pk) row da
          | exc x i => cases hgo; exact fun cls dd σ' H' pk row a => w cls dd σ' H' (prk pk) row a
    · have ei : i = ds.length := by omega
      subst ei
      rw [List.drop_length] at hgo
      cases hgo
      exact .inl ⟨jok.stop H2 kp, w σ2 H2 oa2 (R2.weak (fun b o p => .inl p) R.pm)⟩
  · exact ⟨_, r, ev, rs, R.e, .exc x j, rs', e1, fun cls dd H' s w1 a => w cls dd σ H' (R.stp s w1).prot (row_sub w1 fun b m => .inl m) a⟩
def getO (ev : Ev) (i : Nat) : Option (List D) := match ev[i]? with
  | some (.own (.l ds)) => some ds
  | _ => none
def sApp (i : Nat) (f : Ev → Mn D) (ev : Ev) : Ms := bnS (bnd (lft (getO ev i)) fun ds => bnd (dyn f ev) fun d => lft (if ds.length < sizeLine then some (ds ++ [d]) else none)) fun es rs => some (.nx (ev.set i (.own es)), rs)
theorem pe_at {X : Cx} {i : Nat} {x : Str} {p : Pos} (g : Gd G k sc N X) (hi : N[i]? = some x) (hv : visB sc x = true) (hd : (x == ("__debug__" : Str)) = false) (hcd : (x == ("__classdict__" : Str)) = false) : PE X (.Name x p) (tVar i) :=
  pe_var (i := i) (by rw [g.hN]; exact hi) (by rw [g.hsc]; exact vis_of hv) hd hcd
/-- x.extend(e), e a list -/
def lstD : D → Option (List D)
  | .list ds => some ds
  | _ => none
def sExt (i : Nat) (f : Ev → Mn D) (ev : Ev) : Ms := bnS (bnd (lft (getO ev i)) fun ds => bnd (f ev) fun d => lft ((lstD d).bind fun es => if ds.length + es.length ≤ sizeLine then some (ds ++ es) else none)) fun es rs => some (.nx (ev.set i (.own es)), rs)
/-- y = x.pop() -/
def sPop (j i : Nat) (ev : Ev) : Ms := bnS (lft ((getO ev i).bind fun ds => (ds[ds.length - 1]?).map fun d => (ds.dropLast, d))) fun q rs => some (.nx ((ev.set i (.own q.1)).set j (.dat q.2)), rs)
structure ExcF (G : Gm) (x : Str) : Prop where
  ex : ∃ C, G.mg x = some (.ref C) ∧ PySem.W.excIn G.K C [.type "ValueError", .type "Exception", .type "BaseException", .type "object"] "ValueError.__new__" = true ∧ PySem.W.keepIn G.K (.ref C) = true ∧
    PySem.W.subIn G.K (.ref C) (.type "BaseException") = some true ∧ PySem.W.typeIn G.K (.ref C) = some (.type "type")
def sRaise (x : Str) (_ : Ev) : Ms := fun rs => some (.exc x none, rs)
theorem s_raise {x m : Str} {j : Nat} {p p2 pos pos2 : Pos} (F : ExcF G x) (hg : glB sc x = true := by rfl) (hdb : (x == ("__debug__" : Str)) = false := by decide) : SS G k sc N (.Raise (some (.Call (.Name x p) [.Constant (.str m) j p2] [] pos)) none pos2) (sRaise x) := fun X W g tk po => by
  obtain ⟨C, h1, h2, h3, h4, h5⟩ := F.ex
  refine ps_imp (ps_raise g.calm tk (pmk_own PySem.F.excBase_ValueError (by rw [g.hK]; exact h2) (by rw [g.hmg]; exact h1) (by rw [g.hK]; exact h3) (raises_own (by rw [g.hK]; exact h4) (by rw [g.hK]; exact h5)) (gl_of g hg) hdb)) fun D σ H h => ?_
  obtain ⟨M, r, Pr, ev, rs, oa, R, o, rs', e, w⟩ := h
  cases e
  exact w _ _ σ H R.prot (row_sub R.e.row fun b m => .inl m) ⟨⟨C, h1, rfl⟩, rfl⟩
end
section
variable {G : Gm} {k : Nat}
def dFun (n m : Nat) (f : Ev → Ms) (ss : List Slot) : Mn D := fun rs => if ss.length = n then (match f (ss ++ List.replicate (m - n) .hid) rs with
  | some (.nx _, rs') => some (.val .none, rs')
  | some (.ret d, rs') => some (.val d, rs')
  | some (.exc x i, rs') => some (.exc x i, rs')
  | _ => none) else none
theorem arg_slots {K : PySem.W.Frag} {M : Addr → Prop} {r : Rw} {H : Hp} : ∀ {vs : List V} {ss : List Slot} (j : Nat), ArgL K M r H vs ss → ∀ (i : Nat) s, ss[i]? = some s → ∀ σ : L2.St, (∀ i v, vs[i]? = some v → σ[j + i]? = some (some v)) → SlotAt K M r σ H (j + i) s
  | _, _, j, .nil, i, s, e, σ, _ => by simp at e
  | _, _, j, .dat h t, 0, s, e, σ, hσ => by
    simp at e; subst e
    exact ⟨_, hσ 0 _ rfl, h⟩
  | _, _, j, .row t, 0, s, e, σ, hσ => by
    simp at e; subst e
    exact hσ 0 _ rfl
  | _, _, j, .dat h t, i + 1, s, e, σ, hσ => by
    have q := arg_slots (j + 1) t i s (by simpa using e) σ fun i' v h => by
      have z := hσ (i' + 1) v (by simpa using h)
      rwa [show j + (i' + 1) = j + 1 + i' by omega] at z
    rwa [show j + 1 + i = j + (i + 1) by omega] at q
  | _, _, j, .row t, i + 1, s, e, σ, hσ => by
    have q := arg_slots (j + 1) t i s (by simpa using e) σ fun i' v h => by
      have z := hσ (i' + 1) v (by simpa using h)
      rwa [show j + (i' + 1) = j + 1 + i' by omega] at z
    rwa [show j + 1 + i = j + (i + 1) by omega] at q
theorem ArgL.noown {K : PySem.W.Frag} {M : Addr → Prop} {r : Rw} {H : Hp} : ∀ {vs : List V} {ss : List Slot}, ArgL K M r H vs ss → ∀ (i : Nat) (ds : Ow), ss[i]? ≠ some (.own ds)
  | _, _, .nil, i, ds, e => by simp at e
  | _, _, .dat h t, 0, ds, e => by simp at e
  | _, _, .row t, 0, ds, e => by simp at e
  | _, _, .dat h t, i + 1, ds, e => t.noown i ds (by simpa using e)
  | _, _, .row t, i + 1, ds, e => t.noown i ds (by simpa using e)
theorem fo_of {x : Str} {st : Stmt} {N ps : List Str} {f : Addr} {fd : FuncData} {den : Ev → Ms} (hmg : G.mg x = some (.ref f)) (F : Fun G.K x x st f fd) (S : FnScope N ps (defScope st)) (bd : Binds G.K fd ps []) (h : SB G k ⟨defScope st, fun _ => true⟩ N (defBody st) den) :
    FO G (k + 1) x ps.length (dFun ps.length N.length den) := by
  refine ⟨f, fd, ps, hmg, F.kp, bd, rfl, F.okX S (fun vs H Q E h => h.1) fun cdv A outer s H vs Q E hr hsp => ?_⟩
  have g : Gd G k ⟨defScope st, fun _ => true⟩ N (cxOf (L2.CX G.P G.w) G.P G.w G.K G.mg G.base N x (defScope st) f cdv A outer s H E) := ⟨rfl, S.nd, rfl, fun _ _ => rfl, rfl, hr, rfl, rfl, rfl, rfl, rfl⟩
  refine ⟨_, h _ (fun cls d _ H => E cls d H) g (takes_of rfl rfl rfl rfl) (passes_of rfl), ?_⟩
  obtain ⟨hn, M, r, ss, rs, mr, ml, row, ar, o, rs', e, w⟩ := hsp
  have hl : ss.length = ps.length := by rw [← ar.length]; exact hn
  unfold dFun at e
  rw [if_pos hl] at e
  have lenN : ps.length ≤ N.length := by
    have q := congrArg List.length S.pre
    rw [List.length_take] at q
    omega
  have R : RelS G.K M r (fun b o => H b = some o ∧ b ≠ r.a) (L2.start N vs) H (ss ++ List.replicate (N.length - ps.length) .hid) rs fun _ => 0 := by
    have no : ∀ i, ¬ isOwn (ss ++ List.replicate (N.length - ps.length) .hid) i := fun i ⟨ds, e⟩ => by
      by_cases hi : i < ss.length
      · rw [List.getElem?_append_left hi] at e
        exact ar.noown i ds e
      · rw [List.getElem?_append_right (by omega), List.getElem?_replicate] at e
        split at e <;> cases e
    have sub : ∀ b, Av M (ss ++ List.replicate (N.length - ps.length) .hid) (fun _ => 0) b → M b := fun b m => m.elim id fun ⟨i, q, _⟩ => absurd q (no i)
    refine ⟨RelE.sub (M := M) ⟨mr, ml, row, fun i s e => ?_, ?_⟩ sub (.inl mr), mr, fun b o p => p.1, fun o p => p.2 rfl, fun b m n => ?_, fun i ds e => absurd ⟨ds, e⟩ (no i), fun i j q => absurd q (no i)⟩
    · by_cases hi : i < ss.length
      · rw [List.getElem?_append_left hi] at e
        have q := arg_slots 0 ar i s e (L2.start N vs) fun i' v h => by
          unfold L2.start
          have hi' : i' < vs.length := (List.getElem?_eq_some_iff.mp h).1
          rw [Nat.zero_add, List.getElem?_append_left (by rw [List.length_map]; exact hi'), List.getElem?_map, h]
          rfl
        rwa [Nat.zero_add] at q
      · rw [List.getElem?_append_right (by omega), List.getElem?_replicate] at e
        split at e
        · cases e; trivial
        · cases e
    · unfold L2.start
      rw [List.length_append, List.length_append, List.length_map, List.length_replicate, List.length_replicate, ar.length, hl]
      exact Nat.le_refl _
    · obtain ⟨xs, q, _⟩ := ml b m
      exact ⟨xs, q, n⟩
  have stp : ∀ {H'}, PrK (fun b o => H b = some o ∧ b ≠ r.a) H' → Stp r H H' := fun p b o n q => p b o ⟨q, n⟩
  cases hden : den (ss ++ List.replicate (N.length - ps.length) .hid) rs with
  | none => rw [hden] at e; cases e
  | some q =>
    obtain ⟨ro, rs2⟩ := q
    rw [hden] at e
    refine ⟨M, r, _, _, rs, _, R, ro, rs2, hden, ?_⟩
    cases ro with
    | nx ev' => cases e; exact fun σ' H' oa' R' => w H' (stp R'.prot) (row_sub R'.e.row fun b m => .inl m) _ .non
    | ret d => cases e; exact fun v H' pk ro dv => w H' (stp pk) ro v dv
    | exc y i => cases e; exact fun cls dd σ' H' pk ro a => w cls dd H' (stp pk) ro a
    | bk ev' => cases e
    | ct ev' => cases e
end
end DL
namespace DL
open PySem PySem.Spec PyProof.Rows L2
section
variable {G : Gm} {k : Nat} {sc : Sx} {N : List Str}
def dBin (op : D → D → Option D) (fa fb : Ev → Mn D) (ev : Ev) : Mn D := bnd (fa ev) fun x => bnd (fb ev) fun y => lft (op x y)
def dUn (op : D → Option D) (fa : Ev → Mn D) (ev : Ev) : Mn D := bnd (fa ev) fun x => lft (op x)
def dCmpE (op : D → D → Option Bool) (fa fb : Ev → Mn D) (ev : Ev) : Mn D := bnd (fa ev) fun x => bnd (fb ev) fun y => lft ((op x y).map .bool)
def dCmp (op : D → D → Option Bool) (fa fb : Ev → Mn D) (ev : Ev) : Mn Bool := bnd (fa ev) fun x => bnd (fb ev) fun y => lft (op x y)
theorem E_ix {a b : Expr} {fa fb : Ev → Mn D} {p : Pos} (ha : SE G k sc N a fa) (hb : SE G k sc N b fb) (hs : ∀ o i, subscripted b false o i = operate [o, i] (getItem o i) := by intro _ _; rfl) : SE G k sc N (.Subscript a b p) (dBin ixD fa fb) := e_ix ha hb hs
theorem E_add {a b : Expr} {fa fb : Ev → Mn D} {p : Pos} (ha : SE G k sc N a fa) (hb : SE G k sc N b fb) : SE G k sc N (.BinOp a .Add b p) (dBin addD fa fb) := e_add ha hb
theorem E_cmp {a b : Expr} {fa fb : Ev → Mn D} {op : CmpOp} {f : D → D → Option Bool} {p : Pos} (c : CmpR G k sc N op f) (ha : SE G k sc N a fa) (hb : SE G k sc N b fb) (hm : behindInMarks op b = false := by first | exact nomark _ (by decide) (by decide) | rfl) : SE G k sc N (.Compare a [op] [b] p) (dCmpE f fa fb) := e_cmp c ha hb hm
theorem T_cmp {a b : Expr} {fa fb : Ev → Mn D} {op : CmpOp} {f : D → D → Option Bool} {p : Pos} (c : CmpR G k sc N op f) (ha : SE G k sc N a fa) (hb : SE G k sc N b fb) (hm : behindInMarks op b = false := by first | exact nomark _ (by decide) (by decide) | rfl) : ST G k sc N (.Compare a [op] [b] p) (dCmp f fa fb) := t_cmp c ha hb hm
def KTab := List (Str × D)
structure GlK (G : Gm) (x : Str) (t : KTab) : Prop where
  ex : ∃ d es n, G.mg x = some (.ref d) ∧ KDict G.K G.w d es n ∧ ∀ z : Str, (match t.lookup z with
    | some dd => ∃ u v, PySem.W.nsIn G.K d z = some (some u) ∧ RelV v u ∧ ∀ M H, Da G.K M H v dd
    | none => PySem.W.nsIn G.K d z = some none)
def kgetD (t : KTab) : D → Option D
  | .str z => t.lookup z
  | _ => none
def kinD (t : KTab) : D → Option Bool
  | .str z => some (t.lookup z).isSome
  | _ => none
def dKget (t : KTab) (fb : Ev → Mn D) (ev : Ev) : Mn D := bnd (fb ev) fun y => lft (kgetD t y)
def dKin (t : KTab) (fb : Ev → Mn D) (ev : Ev) : Mn Bool := bnd (fb ev) fun y => lft (kinD t y)
def dKnin (t : KTab) (fb : Ev → Mn D) (ev : Ev) : Mn Bool := bnd (fb ev) fun y => lft ((kinD t y).map (!·))
theorem E_kget {x : Str} {t : KTab} {b : Expr} {fb : Ev → Mn D} {p p2 : Pos} (h : GlK G x t) (hb : SE G k sc N b fb) (hg : glB sc x = true := by rfl) (hdb : (x == ("__debug__" : Str)) = false := by decide) (hs : ∀ o i, subscripted b false o i = operate [o, i] (getItem o i) := by intro _ _; rfl) :
    SE G k sc N (.Subscript (.Name x p) b p2) (dKget t fb) := by
  obtain ⟨d, es, n, h1, h2, h3⟩ := h.ex
  refine e_one (rl := fun X y H Q => rIxD X.K X.w (.ref d) y H Q) hb (fun X ta g h => pe_imp (pe_ix ix_kdict (pe_glob (v := .ref d) (gl_of g hg) (by rw [g.hmg]; exact h1) rfl hdb) h hs) fun σ H Q q => q) fun X M H y dy dd Q g ml hy e hq => ?_
  rw [g.hK, g.hw]
  cases hy with
  | str z =>
    have q := h3 z
    have e : t.lookup z = some dd := e
    rw [e] at q
    obtain ⟨u, v, q1, q2, q3⟩ := q
    exact ⟨d, z, v, rfl, rfl, ⟨es, n, u, h2.at_, h2.lit, q1, q2⟩, hq v H (.refl _) (q3 M H)⟩
  | _ => cases e
variable {K : PySem.W.Frag} {mg : Str → Option Value} {M : Addr → Prop} {H H' H1 : Hp} {r : Rw} {σ σ' : L2.St} {ev ev' : Ev} {rs rs' : RS} {W : WX} {Pr Pr' : Addr → HO → Prop} {oa : Nat → Addr}
def pSet (i : Nat) (f : Ev → Mn D) (ev : Ev) : Ms := bnS (f ev) fun d rs => some (.nx (ev.set i (.dat d)), rs)
theorem P_set (i : Nat) {x : Str} {e : Expr} {p p' : Pos} {f : Ev → Mn D} (h : SE G k sc N e f) (hi : N[i]? = some x := by rfl) (hl : locB sc x = true := by rfl)
    (hs : ∀ env, env.scope = sc.sc → swapsWith e (some (.Name x p')) p.line env = pure false := by intro env h; first | rfl | (cases env; cases h; rfl)) : SS G k sc N (.Assign [.Name x p'] e p) (pSet i f) := fun X W g tk po => by
  refine ps_imp (ps_set (i := i) (by rw [g.hN]; exact g.nd) (by rw [g.hN]; exact hi) (loc_of g hl).1 (h X W g tk) (hs _ g.hsc) (loc_of g hl).2) fun D σ H h => ?_
  obtain ⟨M, r, Pr, ev, rs, oa, R, o, rs', e, w⟩ := h
  rcases bnS_some e with ⟨d, rs1, e1, e2⟩ | ⟨x, j, e1, rfl⟩
  · cases e2
    exact R.evE R.e (fun b m => .inl m) e1 (fun d' ed v H' R' s dv => by cases ed; exact w _ _ oa (R'.set1 dv)) fun _ _ ed => by cases ed
  · exact R.evE R.e (fun b m => .inl m) e1 (fun _ ed => by cases ed) fun y j ed => by cases ed; exact w
def pTgt (t : Tgt) (f : Ev → Mn D) (ev : Ev) : Ms := bnS (bnd (f ev) fun d => lft (t.of d)) fun ds rs => some (.nx (setE ev t.ix ds), rs)
theorem P_tgt {t : Tgt} {tg e : Expr} {p : Pos} {f : Ev → Mn D} (h : SE G k sc N e f) (ht : PGt G k sc N tg t) (hs : ∀ env, swapsWithSole [tg] e p.line env = pure false := by intro _; rfl) (hw : ∀ env, env.scope = sc.sc → swappedStores [tg] e env = pure none := by intro env h; first | rfl | (cases env; cases h; rfl))
    (h1 : ∀ env, (assignEach [tg] env).map (·.2) = [assign tg env] := by intro _; rfl) : SS G k sc N (.Assign [tg] e p) (pTgt t f) := fun X W g tk po => by
  obtain ⟨u, hu1, hu2⟩ := ht
  refine ps_imp (ps_asg (h X W g tk) (hu1 X g) (hs _) (hw _ g.hsc) (h1 _)) fun D σ H h => ?_
  obtain ⟨M, r, Pr, ev, rs, oa, R, o, rs', e, w⟩ := h
  rcases bnS_some e with ⟨ds, rs1, e1, e2⟩ | ⟨x, j, e1, rfl⟩
  · cases e2
    rcases bnd_some e1 with ⟨d, rs2, e3, e4⟩ | ⟨_, _, _, e4⟩
    · obtain ⟨ds', e5, e6, rfl⟩ := lft_some e4
      cases e6
      exact R.evE R.e (fun b m => .inl m) e3 (fun d' ed v H' R' s dv => by cases ed; exact hu2 _ _ _ _ _ _ _ dv e5 fun vs hvs => w _ _ oa (R'.setL hvs)) fun _ _ ed => by cases ed
    · cases e4
  · rcases bnd_some e1 with ⟨d, rs2, e3, e4⟩ | ⟨y, j', e3, e4⟩
    · obtain ⟨ds', e5, e6, rfl⟩ := lft_some e4
      cases e6
    · cases e4
      exact R.evE R.e (fun b m => .inl m) e3 (fun _ ed => by cases ed) fun y j ed => by cases ed; exact w
/-- a, b = x, y with plain local names -/
def pPar (i j : Nat) (f : Ev → Mn (List Slot)) (ev : Ev) : Ms := bnS (bnd (f ev) fun ss => lft (dats ss)) fun ds rs => match ds with
  | [d, e] => some (.nx ((ev.set i (.dat d)).set j (.dat e)), rs)
  | _ => none
def plocB (sc : Sx) (x : Str) : Bool := match sc.sc.names.lookup x with
  | some .local => true
  | _ => false
theorem ploc_of {X : Cx} {x : Str} (g : Gd G k sc N X) (h : plocB sc x = true) : X.env.scope.names.lookup x = some .local := by
  unfold plocB at h
  rw [g.hsc]
  split at h
  · assumption
  · cases h
theorem P_par (i j : Nat) {x y : Str} {a b : Expr} {px py pt p pt2 : Pos} {kt k2 : Nat} {f : Ev → Mn (List Slot)} (h : SA G k sc N [a, b] f) (hi : N[i]? = some x := by rfl) (hj : N[j]? = some y := by rfl) (hij : i ≠ j := by decide) (hx : plocB sc x = true := by rfl) (hy : plocB sc y = true := by rfl)
    (hw : ∀ env, env.scope = sc.sc → swappedStores [.Tuple [.Name x px, .Name y py] kt pt] (.Tuple [a, b] k2 pt2) env = pure (some [x, y]) := by intro env h; first | rfl | (cases env; cases h; rfl))
    (hs : ∀ env, swapsWithSole [.Tuple [.Name x px, .Name y py] kt pt] (.Tuple [a, b] k2 pt2) p.line env = pure false := by intro _; rfl) :
    SS G k sc N (.Assign [.Tuple [.Name x px, .Name y py] kt pt] (.Tuple [a, b] k2 pt2) p) (pPar i j f) := fun X W g tk po => by
  refine ps_imp (ps_par (i := i) (j := j) g.calm (by rw [g.hN]; exact g.nd) (by rw [g.hN]; exact hi) (by rw [g.hN]; exact hj) hij (ploc_of g hx) (ploc_of g hy) (h X W g tk) (hw _ g.hsc) (hs _)) fun D σ H h => ?_
  obtain ⟨M, r, Pr, ev, rs, oa, R, o, rs', e, w⟩ := h
  rcases bnS_some e with ⟨ds, rs1, e1, e2⟩ | ⟨x, j, e1, rfl⟩
  · split at e2
    · rename_i d1 d2
      cases e2
      rcases bnd_some e1 with ⟨ss, rs2, e3, e4⟩ | ⟨_, _, _, e4⟩
      · obtain ⟨ds', e5, e6, rfl⟩ := lft_some e4
        cases e6
        refine ⟨_, r, ev, rs, R.e, .val ss, _, e3, fun H1 s1 w1 vs hvs => ?_⟩
        obtain ⟨v, v', rfl, h1, h2⟩ := two_da (hvs.dats e5)
        have R1 := R.stp s1 w1
        exact ⟨v, v', rfl, w _ _ oa ((R1.set1 h1).set1 (h2.sub fun b m => m.elim .inl fun ⟨j', o, e⟩ => .inr ⟨j', (isOwn_set (fun ds e => by cases e) o).1, e⟩))⟩
      · cases e4
    · cases e2
  · rcases bnd_some e1 with ⟨d, rs2, e3, e4⟩ | ⟨y, j', e3, e4⟩
    · obtain ⟨ds', e5, e6, rfl⟩ := lft_some e4
      cases e6
    · cases e4
      exact ⟨_, r, ev, rs, R.e, .exc x j, rs', e3, fun cls dd H' s w1 a => w cls dd σ H' (R.stp s w1).prot (row_sub w1 fun b m => .inl m) a⟩
def pRet (f : Ev → Mn D) (ev : Ev) : Ms := bnS (f ev) fun d rs => some (.ret d, rs)
theorem P_ret {e : Expr} {p : Pos} {f : Ev → Mn D} (h : SE G k sc N e f) : SS G k sc N (.Return (some e) p) (pRet f) := fun X W g tk po => by
  refine ps_imp (ps_ret (h X W g tk)) fun D σ H h => ?_
  obtain ⟨M, r, Pr, ev, rs, oa, R, o, rs', e, w⟩ := h
  rcases bnS_some e with ⟨d, rs1, e1, e2⟩ | ⟨x, j, e1, rfl⟩
  · cases e2
    exact R.evE R.e (fun b m => .inl m) e1 (fun d' ed v H' R' s dv => by cases ed; exact w v H' R'.prot (row_sub R'.e.row fun b m => .inl m) (dv.sub fun b m => .inl m)) fun _ _ ed => by cases ed
  · exact R.evE R.e (fun b m => .inl m) e1 (fun _ ed => by cases ed) fun y j ed => by cases ed; exact w
def pDrop (f : Ev → Mn D) (ev : Ev) : Ms := bnS (f ev) fun _ rs => some (.nx ev, rs)
theorem P_expr {e : Expr} {p : Pos} {f : Ev → Mn D} (h : SE G k sc N e f) (hs : ∀ env, swapsWith e none p.line env = pure false := by intro _; rfl) : SS G k sc N (.Expr e p) (pDrop f) := fun X W g tk po => by
  refine ps_imp (ps_expr (h X W g tk) (hs _)) fun D σ H h => ?_
  obtain ⟨M, r, Pr, ev, rs, oa, R, o, rs', e, w⟩ := h
  rcases bnS_some e with ⟨d, rs1, e1, e2⟩ | ⟨x, j, e1, rfl⟩
  · cases e2
    exact R.evE R.e (fun b m => .inl m) e1 (fun d' ed v H' R' s dv => w _ _ oa R') fun _ _ ed => by cases ed
  · exact R.evE R.e (fun b m => .inl m) e1 (fun _ ed => by cases ed) fun y j ed => by cases ed; exact w
def pIf (t : Ev → Mn Bool) (f g : Ev → Ms) (ev : Ev) : Ms := bnS (t ev) fun c => if c = true then f ev else g ev
theorem P_if {c : Expr} {a b : List Stmt} {p : Pos} {t : Ev → Mn Bool} {f g : Ev → Ms} (hc : ST G k sc N c t) (ha : SB G k sc N a f) (hb : SB G k sc N b g) : SS G k sc N (.If c a b p) (pIf t f g) := fun X W gd tk po => by
  refine ps_imp (ps_if (hc X W gd tk) (ha X W gd tk po) (hb X W gd tk po)) fun D σ H h => ?_
  obtain ⟨M, r, Pr, ev, rs, oa, R, o, rs', e, w⟩ := h
  rcases bnS_some e with ⟨c, rs1, e1, e2⟩ | ⟨x, j, e1, rfl⟩
  · refine ⟨_, r, ev, rs, R.e, .val c, rs1, e1, fun H' s w1 => ?_⟩
    have R' := R.stp s w1
    cases c with
    | true => rw [if_pos rfl] at e2; exact iteT ⟨M, r, Pr, ev, rs1, oa, R', o, rs', e2, w⟩
    | false => rw [if_neg (by decide)] at e2; exact iteF ⟨M, r, Pr, ev, rs1, oa, R', o, rs', e2, w⟩
  · exact ⟨_, r, ev, rs, R.e, .exc x j, rs', e1, fun cls dd H' s w1 a => w cls dd σ H' (R.stp s w1).prot (row_sub w1 fun b m => .inl m) a⟩
end
end DL
namespace DL
open PySem PySem.Spec PyProof.Rows L2
structure HasF (G : Gm) (x : Str) (st : Stmt) (ps : List Str) : Prop where
  ex : ∃ (f : Addr) (fd : FuncData), G.mg x = some (.ref f) ∧ Fun G.K x x st f fd ∧ Binds G.K fd ps []
section
variable {G : Gm} {k : Nat}
theorem fo_has {x : Str} {st : Stmt} {N ps : List Str} {den : Ev → Ms} (h : HasF G x st ps) (S : FnScope N ps (defScope st)) (b : SB G k ⟨defScope st, fun _ => true⟩ N (defBody st) den) : FO G (k + 1) x ps.length (dFun ps.length N.length den) := by
  obtain ⟨f, fd, h1, h2, h3⟩ := h.ex
  exact fo_of h1 h2 S h3 b
/-- nothing is said -/
theorem fo_zero {x : Str} {st : Stmt} {ps : List Str} {n : Nat} (h : HasF G x st ps) (hn : ps.length = n) : FO G k x n (fun _ _ => none) := by
  obtain ⟨f, fd, h1, h2, h3⟩ := h.ex
  have no : ∀ {vs H Q E}, ¬ spF G n (fun _ _ => none) vs H Q E := fun {vs H Q E} h => by
    obtain ⟨_, _, _, _, _, _, _, _, _, _, _, e, _⟩ := h
    cases e
  exact ⟨f, fd, ps, h1, h2.kp, h3, hn, ⟨fun vs H Q E q => absurd q no, fun A outer s H args us vs Q E _ _ _ _ q => absurd q no⟩⟩
end
mutual
inductive KDa (K : PySem.W.Frag) : Value → D → Prop
  | non : KDa K .none .none
  | bl (b : Bool) : KDa K (.bool b) (.bool b)
  | int (i : Int) (t : Tok) : KDa K (.int i t) (.int i)
  | str (x : Str) (t : Tok) : KDa K (.str x t) (.str x)
  | tup {a : Addr} {dd : Option Addr} {its : Array Value} {n : Nat} {sl : Array (Option Value)} {ds : List D} (h : K.lookup a = some ⟨.type "tuple", dd, .seq its n, sl⟩) (hs : its.size ≤ sizeLine) (t : KDaL K its.toList ds) : KDa K (.ref a) (.tuple ds)
inductive KDaL (K : PySem.W.Frag) : List Value → List D → Prop
  | nil : KDaL K [] []
  | cons {v : Value} {vs : List Value} {d : D} {ds : List D} (h : KDa K v d) (t : KDaL K vs ds) : KDaL K (v :: vs) (d :: ds)
end
mutual
theorem KDa.da {K : PySem.W.Frag} {M : Addr → Prop} {H : Hp} : ∀ {u : Value} {d : D}, KDa K u d → ∃ v, absV u = some v ∧ RelV v u ∧ Da K M H v d
  | _, _, .non => ⟨.non, rfl, rfl, .non⟩
  | _, _, .bl b => ⟨.bl b, rfl, rfl, .bl b⟩
  | _, _, .int i t => ⟨.int i, rfl, ⟨t, rfl⟩, .int i⟩
  | _, _, .str x t => ⟨.str x, rfl, ⟨t, rfl⟩, .str x⟩
  | _, _, .tup (a := a) h hs t => by
    obtain ⟨vs, r, q⟩ := KDaL.da (M := M) (H := H) t
    exact ⟨.ref a, rfl, rfl, .tup (.inr ⟨_, _, _, h, rfl, rfl, hs, r⟩) q⟩
theorem KDaL.da {K : PySem.W.Frag} {M : Addr → Prop} {H : Hp} : ∀ {us : List Value} {ds : List D}, KDaL K us ds → ∃ vs, Vals vs us ∧ DaL K M H vs ds
  | _, _, .nil => ⟨[], .nil, .nil⟩
  | _, _, .cons h t => by
    obtain ⟨v, _, r, q⟩ := KDa.da (M := M) (H := H) h
    obtain ⟨vs, rs, qs⟩ := KDaL.da (M := M) (H := H) t
    exact ⟨v :: vs, .cons r rs, .cons q qs⟩
end
theorem KDa.all {K : PySem.W.Frag} {u : Value} {d : D} (h : KDa K u d) : ∃ v, RelV v u ∧ ∀ M H, Da K M H v d := by
  obtain ⟨v, a, r, _⟩ := h.da (M := fun _ => False) (H := fun _ => none)
  refine ⟨v, r, fun M H => ?_⟩
  obtain ⟨v', a', _, q⟩ := h.da (M := M) (H := H)
  rw [a] at a'
  cases a'
  exact q
theorem GlD.mk' {G : Gm} {x : Str} {u : Value} {d : D} (h : G.mg x = some u) (q : KDa G.K u d) : GlD G x d := by
  obtain ⟨v, r, z⟩ := q.all
  exact ⟨u, v, h, r, z⟩
inductive KEs (K : PySem.W.Frag) : List DictEntry → KTab → Prop
  | nil : KEs K [] []
  | cons {h : Int} {x : Str} {t : Tok} {v : Value} {d : D} {es : List DictEntry} {tb : KTab} (hv : KDa K v d) (r : KEs K es tb) : KEs K (⟨h, .str x t, v⟩ :: es) ((x, d) :: tb)
theorem KEs.look {K : PySem.W.Frag} : ∀ {es : List DictEntry} {tb : KTab}, KEs K es tb → ∀ z : Str, (match List.lookup z tb with
    | some dd => ∃ e, es.find? (·.key.isStr z) = some e ∧ KDa K e.val dd
    | none => es.find? (·.key.isStr z) = none ∧ es.any (·.refKey) = false)
  | _, _, .nil, z => ⟨rfl, rfl⟩
  | _, _, .cons (h := h) (x := x) (t := t) (v := v) (d := d) (es := es) (tb := tb) hv r, z => by
    have ih := KEs.look r z
    have k1 : (⟨h, Value.str x t, v⟩ : DictEntry).key.isStr z = (x == z) := rfl
    have k2 : (⟨h, Value.str x t, v⟩ : DictEntry).refKey = false := rfl
    by_cases hz : z = x
    · subst hz
      have e1 : List.lookup z ((z, d) :: tb) = some d := by simp [List.lookup]
      rw [e1]
      exact ⟨⟨h, .str z t, v⟩, by rw [List.find?_cons, k1]; simp, hv⟩
    · have b1 : (z == x) = false := by simpa using hz
      have b2 : (x == z) = false := by simpa using Ne.symm hz
      have e1 : List.lookup z ((x, d) :: tb) = List.lookup z tb := by simp [List.lookup, b1]
      have e2 : (⟨h, Value.str x t, v⟩ :: es : List DictEntry).find? (·.key.isStr z) = es.find? (·.key.isStr z) := by rw [List.find?_cons, k1, b2]
      rw [e1, e2]
      cases q : List.lookup z tb with
      | some dd => rw [q] at ih; exact ih
      | none =>
        rw [q] at ih
        exact ⟨ih.1, by rw [List.any_cons, k2, ih.2]; rfl⟩
theorem GlK.mk' {G : Gm} {x : Str} {d : Addr} {es : Array DictEntry} {n : Nat} {tb : KTab} (h : G.mg x = some (.ref d)) (hl : G.K.lookup d = some ⟨.type "dict", none, .dict es n, #[]⟩) (lit : PySem.W.KeysLit G.w.params es.toList) (low : (d == sysModules) = false) (q : KEs G.K es.toList tb) : GlK G x tb := by
  refine ⟨d, es, n, h, ⟨hl, lit, low⟩, fun z => ?_⟩
  have q' := q.look z
  have un : PySem.W.nsIn G.K d z = (match es.toList.find? (·.key.isStr z) with
      | some e => some (some e.val)
      | none => if es.toList.any (·.refKey) then none else some none) := by
    unfold PySem.W.nsIn
    rw [hl]
    rfl
  cases hz : List.lookup z tb with
  | some dd =>
    rw [hz] at q'
    obtain ⟨e, e1, e2⟩ := q'
    obtain ⟨v, r, a⟩ := e2.all
    exact ⟨e.val, v, by rw [un, e1], r, a⟩
  | none =>
    rw [hz] at q'
    rw [un, q'.1, q'.2]
    rfl
theorem ExcF.mk' {G : Gm} {x : Str} {C : Addr} (h1 : G.mg x = some (.ref C)) (h2 : PySem.W.excIn G.K C [.type "ValueError", .type "Exception", .type "BaseException", .type "object"] "ValueError.__new__" = true) (h3 : PySem.W.keepIn G.K (.ref C) = true)
    (h4 : PySem.W.subIn G.K (.ref C) (.type "BaseException") = some true) (h5 : PySem.W.typeIn G.K (.ref C) = some (.type "type")) : ExcF G x := ⟨C, h1, h2, h3, h4, h5⟩
theorem HasF.mk' {G : Gm} {x : Str} {st : Stmt} {ps : List Str} {f : Addr} {oc kV doc pm cdv ct : Value} {od an : Option Addr} {osl : Array (Option Value)} (h1 : G.mg x = some (.ref f))
    (l : G.K.lookup f = some ⟨oc, od, .func (PySem.W.fnOf x x (defArgs st) (defBody st) (defScope st) .none kV doc pm an cdv ct), osl⟩) (c : PySem.W.codeIn G.K cdv x = true) (k : PySem.W.keepIn G.K (.ref f) = true)
    (b : ∀ (kV doc pm : Value) (an : Option Addr) (cdv ct : Value) (us : List Value), us.length = ps.length → bindArgs (PySem.W.fnOf x x (defArgs st) (defBody st) (defScope st) .none kV doc pm an cdv ct) ⟨us, []⟩ = pure (ps.zip us)) : HasF G x st ps := by
  have F := fun_mk (st := st) l c k
  exact ⟨f, _, h1, F, F.binds b⟩
end DL
namespace DL
open PySem PySem.Spec PyProof.Rows L2
def nxM (ev : Ev) : Ms := fun rs => some (.nx ev, rs)
def rtM (d : D) : Ms := fun rs => some (.ret d, rs)
def exM (x : Str) (i : Option Int) : Ms := fun rs => some (.exc x i, rs)
def exc {α : Type} (x : Str) (i : Option Int) : Mn α := fun rs => some (.exc x i, rs)
def stk {α : Type} : Mn α := fun _ => none
def stS : Ms := fun _ => none
def sq (m : Ms) (g : Ev → Ms) : Ms := fun rs => match m rs with
  | some (.nx ev', rs') => g ev' rs'
  | q => q
def fin (m : Ms) : Mn D := fun rs => match m rs with
  | some (.nx _, rs') => some (.val .none, rs')
  | some (.ret d, rs') => some (.val d, rs')
  | some (.exc x i, rs') => some (.exc x i, rs')
  | _ => none
section
variable {α β γ : Type} {ev : Ev} {f g : Ev → Ms}
@[simp] theorem bnd_pur (a : α) (k : α → Mn β) : bnd (pur a) k = k a := rfl
@[simp] theorem bnd_exc (x : Str) (i : Option Int) (k : α → Mn β) : bnd (exc x i) k = exc x i := rfl
@[simp] theorem bnd_stk (k : α → Mn β) : bnd stk k = stk := rfl
@[simp] theorem bnS_pur (a : α) (k : α → Ms) : bnS (pur a) k = k a := rfl
@[simp] theorem bnS_exc (x : Str) (i : Option Int) (k : α → Ms) : bnS (exc x i) k = exM x i := rfl
@[simp] theorem bnS_stk (k : α → Ms) : bnS stk k = stS := rfl
theorem bnd_bnd (m : Mn α) (k : α → Mn β) (h : β → Mn γ) : bnd (bnd m k) h = bnd m fun a => bnd (k a) h := by
  funext rs
  unfold bnd
  cases m rs with
  | none => rfl
  | some q =>
    obtain ⟨q1, q2⟩ := q
    cases q1 <;> rfl
theorem bnS_bnd (m : Mn α) (k : α → Mn β) (h : β → Ms) : bnS (bnd m k) h = bnS m fun a => bnS (k a) h := by
  funext rs
  unfold bnS bnd
  cases m rs with
  | none => rfl
  | some q =>
    obtain ⟨q1, q2⟩ := q
    cases q1 <;> rfl
@[simp] theorem lft_some' (a : α) : lft (some a) = pur a := rfl
@[simp] theorem lft_none : lft (none : Option α) = stk := rfl
@[simp] theorem bnd_ite (c : Prop) [Decidable c] (a b : Mn α) (k : α → Mn β) : bnd (if c then a else b) k = if c then bnd a k else bnd b k := by split <;> rfl
@[simp] theorem bnS_ite (c : Prop) [Decidable c] (a b : Mn α) (k : α → Ms) : bnS (if c then a else b) k = if c then bnS a k else bnS b k := by split <;> rfl
@[simp] theorem sq_nx (e : Ev) : sq (nxM e) g = g e := rfl
@[simp] theorem sq_rt (d : D) : sq (rtM d) g = rtM d := rfl
@[simp] theorem sq_ex (x : Str) (i : Option Int) : sq (exM x i) g = exM x i := rfl
@[simp] theorem sq_st : sq stS g = stS := rfl
@[simp] theorem sq_ite (c : Prop) [Decidable c] (a b : Ms) : sq (if c then a else b) g = if c then sq a g else sq b g := by split <;> rfl
theorem sq_bnS (m : Mn α) (k : α → Ms) : sq (bnS m k) g = bnS m fun a => sq (k a) g := by
  funext rs
  unfold sq bnS
  cases m rs with
  | none => rfl
  | some q =>
    obtain ⟨q1, q2⟩ := q
    cases q1 <;> rfl
@[simp] theorem fin_nx (e : Ev) : fin (nxM e) = pur .none := rfl
@[simp] theorem fin_rt (d : D) : fin (rtM d) = pur d := rfl
@[simp] theorem fin_ex (x : Str) (i : Option Int) : fin (exM x i) = exc x i := rfl
@[simp] theorem fin_st : fin stS = stk := rfl
@[simp] theorem fin_ite (c : Prop) [Decidable c] (a b : Ms) : fin (if c then a else b) = if c then fin a else fin b := by split <;> rfl
theorem fin_bnS (m : Mn α) (k : α → Ms) : fin (bnS m k) = bnd m fun a => fin (k a) := by
  funext rs
  unfold fin bnS bnd
  cases m rs with
  | none => rfl
  | some q =>
    obtain ⟨q1, q2⟩ := q
    cases q1 <;> rfl
theorem dFun_eq (n m : Nat) (f : Ev → Ms) (ss : List Slot) : dFun n m f ss = if ss.length = n then fin (f (ss ++ List.replicate (m - n) .hid)) else stk := by
  funext rs
  unfold dFun
  split
  · rfl
  · rfl
@[simp] theorem seqM_eq (f g : Ev → Ms) : seqM f g ev = sq (f ev) g := rfl
@[simp] theorem sNil_eq : sNil ev = nxM ev := rfl
@[simp] theorem pRet_eq (f : Ev → Mn D) : pRet f ev = bnS (f ev) rtM := rfl
@[simp] theorem sRet_eq (f : Ev → Mn D) : sRet f ev = bnS (f (lend ev)) rtM := rfl
@[simp] theorem sRetN_eq : sRetN ev = rtM .none := rfl
@[simp] theorem pSet_eq (i : Nat) (f : Ev → Mn D) : pSet i f ev = bnS (f ev) fun d => nxM (ev.set i (.dat d)) := rfl
@[simp] theorem pDrop_eq (f : Ev → Mn D) : pDrop f ev = bnS (f ev) fun _ => nxM ev := rfl
@[simp] theorem pIf_eq (t : Ev → Mn Bool) : pIf t f g ev = bnS (t ev) fun c => if c = true then f ev else g ev := rfl
@[simp] theorem sIf_eq (t : Ev → Mn Bool) : sIf t f g ev = bnS (t (lend ev)) fun c => if c = true then f ev else g ev := rfl
@[simp] theorem sRaise_eq (x : Str) : sRaise x ev = exM x none := rfl
@[simp] theorem pTgt_eq (t : Tgt) (f : Ev → Mn D) : pTgt t f ev = bnS (bnd (f ev) fun d => lft (t.of d)) fun ds => nxM (setE ev t.ix ds) := rfl
theorem pPar_eq (i j : Nat) (f : Ev → Mn (List Slot)) : pPar i j f ev = bnS (bnd (f ev) fun ss => lft (dats ss)) fun ds => match ds with
  | [d, e] => nxM ((ev.set i (.dat d)).set j (.dat e))
  | _ => stS := by
  unfold pPar
  congr 1
  funext ds
  rcases ds with _ | ⟨a, _ | ⟨b, _ | ⟨c, t⟩⟩⟩ <;> rfl
@[simp] theorem dVar_eq (i : Nat) : dVar i ev = lft (getE ev i) := rfl
@[simp] theorem dLit_eq (d : D) : dLit d ev = pur d := rfl
@[simp] theorem dNil_eq : dNil ev = pur [] := rfl
@[simp] theorem dCons_eq (f : Ev → Mn D) (g : Ev → Mn (List Slot)) : dCons f g ev = bnd (f ev) fun d => bnd (g ev) fun ss => pur (.dat d :: ss) := rfl
@[simp] theorem dRow_eq (i : Nat) (g : Ev → Mn (List Slot)) : dRow i g ev = if isRow ev[i]? = true then bnd (g ev) fun ss => pur (.row :: ss) else stk := rfl
@[simp] theorem dTup_eq (f : Ev → Mn (List Slot)) : dTup f ev = bnd (f ev) fun ss => lft (if ss.length ≤ sizeLine then (dats ss).map .tuple else none) := rfl
@[simp] theorem dLst_eq (f : Ev → Mn (List Slot)) : dLst f ev = bnd (f ev) fun ss => lft (if ss.length ≤ sizeLine then (dats ss).map .list else none) := rfl
@[simp] theorem dCl_eq (n : Nat) (φ : List Slot → Mn D) (f : Ev → Mn (List Slot)) : dCl n φ f ev = bnd (f ev) fun ss => if ss.length = n then φ ss else stk := rfl
@[simp] theorem dBin_eq (op : D → D → Option D) (fa fb : Ev → Mn D) : dBin op fa fb ev = bnd (fa ev) fun x => bnd (fb ev) fun y => lft (op x y) := rfl
@[simp] theorem dUn_eq (op : D → Option D) (fa : Ev → Mn D) : dUn op fa ev = bnd (fa ev) fun x => lft (op x) := rfl
@[simp] theorem dCmp_eq (op : D → D → Option Bool) (fa fb : Ev → Mn D) : dCmp op fa fb ev = bnd (fa ev) fun x => bnd (fb ev) fun y => lft (op x y) := rfl
@[simp] theorem dCmpE_eq (op : D → D → Option Bool) (fa fb : Ev → Mn D) : dCmpE op fa fb ev = bnd (fa ev) fun x => bnd (fb ev) fun y => lft ((op x y).map .bool) := rfl
@[simp] theorem dTru_eq (f : Ev → Mn D) : dTru f ev = bnd (f ev) fun x => lft (truD x) := rfl
@[simp] theorem dAnd_eq (fa fb : Ev → Mn Bool) : dAnd fa fb ev = bnd (fa ev) fun c => if c = true then fb ev else pur false := rfl
@[simp] theorem dOr_eq (fa fb : Ev → Mn Bool) : dOr fa fb ev = bnd (fa ev) fun c => if c = true then pur true else fb ev := rfl
@[simp] theorem dNot_eq (f : Ev → Mn Bool) : dNot f ev = bnd (f ev) fun c => pur (!c) := rfl
@[simp] theorem dAndV_eq (fa fb : Ev → Mn D) : dAndV fa fb ev = bnd (fa ev) fun x => bnd (lft (truD x)) fun c => if c = true then fb ev else pur x := rfl
@[simp] theorem dOrV_eq (fa fb : Ev → Mn D) : dOrV fa fb ev = bnd (fa ev) fun x => bnd (lft (truD x)) fun c => if c = true then pur x else fb ev := rfl
@[simp] theorem dNotV_eq (f : Ev → Mn D) : dNotV f ev = bnd (f ev) fun x => lft ((truD x).map fun c => .bool (!c)) := rfl
@[simp] theorem dIf_eq (t : Ev → Mn Bool) (fa fb : Ev → Mn D) : dIf t fa fb ev = bnd (t ev) fun c => if c = true then fa ev else fb ev := rfl
@[simp] theorem dChain_eq (p q : D → D → Option Bool) (fa fb fc : Ev → Mn D) : dChain p q fa fb fc ev = bnd (fa ev) fun x => bnd (fb ev) fun y => bnd (lft (p x y)) fun c => if c = true then bnd (fc ev) fun z => lft ((q y z).map .bool) else pur (.bool false) := rfl
@[simp] theorem dChainT_eq (p q : D → D → Option Bool) (fa fb fc : Ev → Mn D) : dChainT p q fa fb fc ev = bnd (fa ev) fun x => bnd (fb ev) fun y => bnd (lft (p x y)) fun c => if c = true then bnd (fc ev) fun z => lft (q y z) else pur false := rfl
@[simp] theorem dFn_eq (op : List D → Option D) (f : Ev → Mn (List Slot)) : dFn op f ev = bnd (f ev) fun ss => lft ((dats ss).bind op) := rfl
@[simp] theorem dIsi_eq (ts : List Ty) (f : Ev → Mn D) : dIsi ts f ev = bnd (f ev) fun d => pur (.bool (ts.any (isA d))) := rfl
@[simp] theorem dRng_eq (op : List D → Option (List D)) (f : Ev → Mn (List Slot)) : dRng op f ev = bnd (f ev) fun ss => lft ((dats ss).bind op) := rfl
@[simp] theorem dItm_eq (f : Ev → Mn D) : dItm f ev = bnd (f ev) fun x => lft (itmD x) := rfl
@[simp] theorem dKget_eq (t : KTab) (f : Ev → Mn D) : dKget t f ev = bnd (f ev) fun y => lft (kgetD t y) := rfl
@[simp] theorem dKin_eq (t : KTab) (f : Ev → Mn D) : dKin t f ev = bnd (f ev) fun y => lft (kinD t y) := rfl
@[simp] theorem dKnin_eq (t : KTab) (f : Ev → Mn D) : dKnin t f ev = bnd (f ev) fun y => lft ((kinD t y).map (!·)) := rfl
@[simp] theorem dYes_eq : dYes ev = pur true := rfl
@[simp] theorem dComp_eq (own : List Nat) (src : Ev → Mn (List D)) (t : Tgt) (c : Ev → Mn Bool) (e : Ev → Mn D) : dComp own src t c e ev = bnd (src ev) fun ds => bnd (compGo t c e (wipeE ev own) ds) fun out => lft (if out.length ≤ sizeLine then some (.list out) else none) := rfl
@[simp] theorem nox_pur (a : α) : nox (pur a) = pur a := rfl
@[simp] theorem nox_ite (c : Prop) [Decidable c] (a b : Mn α) : nox (if c then a else b) = if c then nox a else nox b := by split <;> rfl
@[simp] theorem nox_stk : nox (stk : Mn α) = stk := rfl
@[simp] theorem compGo_nil (t : Tgt) (c : Ev → Mn Bool) (e : Ev → Mn D) : compGo t c e ev [] = pur [] := rfl
@[simp] theorem compGo_cons (t : Tgt) (c : Ev → Mn Bool) (e : Ev → Mn D) (d : D) (ds : List D) : compGo t c e ev (d :: ds) = bnd (lft (t.of d)) fun es => bnd (nox (c (setE ev t.ix es))) fun b =>
    if b = true then bnd (nox (e (setE ev t.ix es))) fun x => bnd (compGo t c e ev ds) fun xs => pur (x :: xs) else compGo t c e ev ds := rfl
@[simp] theorem tgt_name (i : Nat) (d : D) : (Tgt.name i).of d = some [d] := rfl
@[simp] theorem tgt_tup (is : List Nat) (ds : List D) : (Tgt.tup is).of (.tuple ds) = if ds.length = is.length then some ds else none := rfl
@[simp] theorem tix_name (i : Nat) : (Tgt.name i).ix = [i] := rfl
@[simp] theorem tix_tup (is : List Nat) : (Tgt.tup is).ix = is := rfl
@[simp] theorem setE_nil (ds : List D) : setE ev [] ds = ev := rfl
@[simp] theorem setE_nil2 (is : List Nat) : setE ev is [] = ev := by cases is <;> rfl
@[simp] theorem setE_cons (i : Nat) (is : List Nat) (d : D) (ds : List D) : setE ev (i :: is) (d :: ds) = setE (ev.set i (.dat d)) is ds := rfl
@[simp] theorem wipe_nil : wipeE ev [] = ev := rfl
@[simp] theorem wipe_cons (v : Nat) (vs : List Nat) : wipeE ev (v :: vs) = (wipeE ev vs).set v .hid := rfl
@[simp] theorem getE_z (d : D) (r : Ev) : getE (.dat d :: r) 0 = some d := rfl
@[simp] theorem getE_s (s : Slot) (r : Ev) (i : Nat) : getE (s :: r) (i + 1) = getE r i := by unfold getE; rw [List.getElem?_cons_succ]
@[simp] theorem dats_nil : dats [] = some [] := rfl
@[simp] theorem dats_cons (d : D) (ss : List Slot) : dats (.dat d :: ss) = (dats ss).map (d :: ·) := rfl
@[simp] theorem isRow_row : isRow (some .row) = true := rfl
@[simp] theorem lend_nil : lend [] = [] := rfl
@[simp] theorem lend_cons (s : Slot) (r : Ev) : lend (s :: r) = lendS s :: lend r := rfl
@[simp] theorem lendS_d (d : D) : lendS (.dat d) = .dat d := rfl
@[simp] theorem lendS_h : lendS .hid = .hid := rfl
@[simp] theorem lendS_r : lendS .row = .row := rfl
@[simp] theorem lendS_o (ds : List D) : lendS (.own ds) = .dat (.list ds) := rfl
@[simp] theorem size_ok (n : Nat) (h : n ≤ 1000 := by decide) : n ≤ sizeLine := Nat.le_of_lt (small1000 h)
end
end DL
namespace DL
open PySem PySem.Spec PyProof.Rows L2
theorem ofString_inj {s t : String} (h : Str.ofString s = Str.ofString t) : s = t := by
  rw [Str.ofString_eq_toList, Str.ofString_eq_toList] at h
  have h1 : (s.toList.map Char.toNat).toArray = (t.toList.map Char.toNat).toArray := congrArg Str.cps h
  have h2 : s.toList.map Char.toNat = t.toList.map Char.toNat := by simpa using h1
  have inj : ∀ a b : Char, a.toNat = b.toNat → a = b := fun a b e => Char.ext (UInt32.toNat_inj.mp e)
  have go : ∀ {l m : List Char}, l.map Char.toNat = m.map Char.toNat → l = m := by
    intro l
    induction l with
    | nil => intro m h; cases m with
      | nil => rfl
      | cons b m => simp at h
    | cons a l ih => intro m h; cases m with
      | nil => simp at h
      | cons b m =>
        simp only [List.map_cons, List.cons.injEq] at h
        rw [inj a b h.1, ih h.2]
  exact String.ext (go h2)
@[simp] theorem beqS (s t : String) : (Str.ofString s == Str.ofString t) = (s == t) := by
  by_cases h : s = t
  · subst h; simp
  · have h2 : Str.ofString s ≠ Str.ofString t := fun e => h (ofString_inj e)
    have e1 : (s == t) = false := by simpa using h
    have e2 : (Str.ofString s == Str.ofString t) = false := by simpa using h2
    rw [e1, e2]
@[simp] theorem eqS (s t : String) : (Str.ofString s = Str.ofString t) = (s = t) := by
  apply propext
  exact ⟨ofString_inj, fun h => by rw [h]⟩
theorem strOk_of (s : String) : PyData.strOk (Str.ofString s) = true := by
  rw [Str.ofString_eq_toList]
  unfold PyData.strOk
  simp only [List.all_toArray, List.all_eq_true, List.mem_map, decide_eq_true_eq]
  rintro x ⟨c, _, rfl⟩
  have h : c.val.toNat.isValidChar := c.valid
  unfold Nat.isValidChar at h
  show c.val.toNat < 1114112
  omega
@[simp] theorem lay_str (s : String) : PyData.canLay0 (.str (Str.ofString s)) = true := by simp [PyData.canLay0, strOk_of]
theorem sh_none : SeqAt.shaped .none = true := by simp [SeqAt.shaped, PyData.canLay0, PyData.depth]
theorem sh_bool (b : Bool) : SeqAt.shaped (.bool b) = true := by simp [SeqAt.shaped, PyData.canLay0, PyData.depth]
theorem sh_int (i : Int) : SeqAt.shaped (.int i) = true := by simp [SeqAt.shaped, PyData.canLay0, PyData.depth]
@[simp] theorem eq_ss (s t : String) : eqD (.str (Str.ofString s)) (.str (Str.ofString t)) = some (s == t) := by simp [eqD, SeqAt.shaped, PyData.depth, PyData.eqv]
@[simp] theorem ne_ss (s t : String) : neD (.str (Str.ofString s)) (.str (Str.ofString t)) = some (!(s == t)) := by simp [neD, SeqAt.shaped, PyData.depth, PyData.eqv]
@[simp] theorem eq_ii (i j : Int) : eqD (.int i) (.int j) = some (i == j) := by simp [eqD, sh_int, PyData.eqv]
@[simp] theorem ne_ii (i j : Int) : neD (.int i) (.int j) = some (!(i == j)) := by simp [neD, sh_int, PyData.eqv]
@[simp] theorem eq_bb (i j : Bool) : eqD (.bool i) (.bool j) = some (i == j) := by simp [eqD, sh_bool, PyData.eqv]
@[simp] theorem ne_bb (i j : Bool) : neD (.bool i) (.bool j) = some (!(i == j)) := by simp [neD, sh_bool, PyData.eqv]
@[simp] theorem eq_nn : eqD .none .none = some true := by simp [eqD, sh_none, PyData.eqv]
@[simp] theorem eq_ni (j : Int) : eqD .none (.int j) = some false := by simp [eqD, sh_none, sh_int, PyData.eqv]
@[simp] theorem eq_in (j : Int) : eqD (.int j) .none = some false := by simp [eqD, sh_none, sh_int, PyData.eqv]
@[simp] theorem eq_nb (j : Bool) : eqD .none (.bool j) = some false := by simp [eqD, sh_none, sh_bool, PyData.eqv]
@[simp] theorem eq_bn (j : Bool) : eqD (.bool j) .none = some false := by simp [eqD, sh_none, sh_bool, PyData.eqv]
@[simp] theorem ev_ss (s t : String) : PyData.eqv (.str (Str.ofString s)) (.str (Str.ofString t)) = (s == t) := by simp [PyData.eqv]
@[simp] theorem ev_ii (i j : Int) : PyData.eqv (.int i) (.int j) = (i == j) := by simp [PyData.eqv]
@[simp] theorem ev_bb (i j : Bool) : PyData.eqv (.bool i) (.bool j) = (i == j) := by simp [PyData.eqv]
@[simp] theorem ev_nn : PyData.eqv .none .none = true := by simp [PyData.eqv]
@[simp] theorem ev_ns (t : Str) : PyData.eqv .none (.str t) = false := by simp [PyData.eqv]
@[simp] theorem ev_sn (t : Str) : PyData.eqv (.str t) .none = false := by simp [PyData.eqv]
@[simp] theorem ev_ni (t : Int) : PyData.eqv .none (.int t) = false := by simp [PyData.eqv]
@[simp] theorem ev_in (t : Int) : PyData.eqv (.int t) .none = false := by simp [PyData.eqv]
@[simp] theorem ev_is (i : Int) (t : Str) : PyData.eqv (.int i) (.str t) = false := by simp [PyData.eqv]
@[simp] theorem ev_si (i : Int) (t : Str) : PyData.eqv (.str t) (.int i) = false := by simp [PyData.eqv]
@[simp] theorem ev_nb (t : Bool) : PyData.eqv .none (.bool t) = false := by simp [PyData.eqv]
@[simp] theorem ev_bn (t : Bool) : PyData.eqv (.bool t) .none = false := by simp [PyData.eqv]
theorem in_tup (x : D) (ds : List D) (hx : inD.flatD x = true) (hd : ds.all inD.flatD = true) : inD x (.tuple ds) = some (ds.any fun z => PyData.eqv z x) := by simp [inD, hx, hd]
theorem atI_z (a : D) (l : List D) : atI (a :: l) 0 = some a := atI_nat (j := 0) rfl
theorem atI_1 (a b : D) (l : List D) : atI (a :: b :: l) 1 = some b := atI_nat (j := 1) rfl
theorem atI_2 (a b c : D) (l : List D) : atI (a :: b :: c :: l) 2 = some c := atI_nat (j := 2) rfl
theorem atI_3 (a b c d : D) (l : List D) : atI (a :: b :: c :: d :: l) 3 = some d := atI_nat (j := 3) rfl
theorem atI_4 (a b c d e : D) (l : List D) : atI (a :: b :: c :: d :: e :: l) 4 = some e := atI_nat (j := 4) rfl
@[simp] theorem ix_t0 (a : D) (l : List D) : ixD (.tuple (a :: l)) (.int 0) = some a := atI_z a l
@[simp] theorem ix_t1 (a b : D) (l : List D) : ixD (.tuple (a :: b :: l)) (.int 1) = some b := atI_1 a b l
@[simp] theorem ix_t2 (a b c : D) (l : List D) : ixD (.tuple (a :: b :: c :: l)) (.int 2) = some c := atI_2 a b c l
@[simp] theorem ix_t3 (a b c d : D) (l : List D) : ixD (.tuple (a :: b :: c :: d :: l)) (.int 3) = some d := atI_3 a b c d l
@[simp] theorem ix_t4 (a b c d e : D) (l : List D) : ixD (.tuple (a :: b :: c :: d :: e :: l)) (.int 4) = some e := atI_4 a b c d e l
@[simp] theorem ix_l0 (a : D) (l : List D) : ixD (.list (a :: l)) (.int 0) = some a := atI_z a l
@[simp] theorem ix_l1 (a b : D) (l : List D) : ixD (.list (a :: b :: l)) (.int 1) = some b := atI_1 a b l
@[simp] theorem ix_l2 (a b c : D) (l : List D) : ixD (.list (a :: b :: c :: l)) (.int 2) = some c := atI_2 a b c l
@[simp] theorem ix_l3 (a b c d : D) (l : List D) : ixD (.list (a :: b :: c :: d :: l)) (.int 3) = some d := atI_3 a b c d l
theorem cut_from (ds : List D) (k : Nat) : cutL ds (some (k : Int)) none = ds.drop k := by
  unfold cutL
  rw [HT.sIx_nat, HT.sIx_none]
  by_cases h : k ≤ ds.length
  · rw [Nat.min_eq_left h]
    apply List.take_of_length_le
    rw [List.length_drop]; exact Nat.le_refl _
  · have h' : ds.length ≤ k := by omega
    rw [Nat.min_eq_right h', List.drop_length, List.drop_eq_nil_of_le h']
    simp
@[simp] theorem sl_t1 (ds : List D) : slLo (.tuple ds) (.int 1) = some (.tuple (ds.drop 1)) := by
  show some (PyData.tuple (cutL ds (some ((1 : Nat) : Int)) none)) = _
  rw [cut_from]
@[simp] theorem sl_l1 (ds : List D) : slLo (.list ds) (.int 1) = some (.list (ds.drop 1)) := by
  show some (PyData.list (cutL ds (some ((1 : Nat) : Int)) none)) = _
  rw [cut_from]
end DL
namespace DL
open PySem PySem.Spec PyProof.Rows L2
def bkM (ev : Ev) : Ms := fun rs => some (.bk ev, rs)
def ctM (ev : Ev) : Ms := fun rs => some (.ct ev, rs)
/-- a turn's end, then the loop goes on -/
def wl (m : Ms) (k : Ev → Ms) : Ms := fun rs => match m rs with
  | some (.nx ev', rs') => k ev' rs'
  | some (.ct ev', rs') => k ev' rs'
  | some (.bk ev', rs') => some (.nx ev', rs')
  | some (.ret d, rs') => some (.ret d, rs')
  | some (.exc x i, rs') => some (.exc x i, rs')
  | none => none
def dynM (m n : Mn D) : Mn D := fun rs => match m rs with
  | some q => some q
  | none => match n rs with
    | some (.val d, rs') => if noL d = true then some (.val d, rs') else none
    | _ => none
section
variable {α β γ : Type} {ev : Ev} {f g : Ev → Ms} {k : Ev → Ms}
@[simp] theorem sq_bk (e : Ev) : sq (bkM e) g = bkM e := rfl
@[simp] theorem sq_ct (e : Ev) : sq (ctM e) g = ctM e := rfl
@[simp] theorem sBk_eq : sBk ev = bkM ev := rfl
@[simp] theorem sCt_eq : sCt ev = ctM ev := rfl
@[simp] theorem wl_nx (e : Ev) : wl (nxM e) k = k e := rfl
@[simp] theorem wl_ct (e : Ev) : wl (ctM e) k = k e := rfl
@[simp] theorem wl_bk (e : Ev) : wl (bkM e) k = nxM e := rfl
@[simp] theorem wl_rt (d : D) : wl (rtM d) k = rtM d := rfl
@[simp] theorem wl_ex (x : Str) (i : Option Int) : wl (exM x i) k = exM x i := rfl
@[simp] theorem wl_st : wl stS k = stS := rfl
@[simp] theorem wl_ite (c : Prop) [Decidable c] (a b : Ms) : wl (if c then a else b) k = if c then wl a k else wl b k := by split <;> rfl
@[simp] theorem forGo_nil (t : Tgt) (b : Ev → Ms) : forGo t b [] ev = nxM ev := rfl
@[simp] theorem forGo_cons (t : Tgt) (b : Ev → Ms) (d : D) (ds : List D) : forGo t b (d :: ds) ev = bnS (lft (t.of d)) fun es => wl (b (setE ev t.ix es)) (forGo t b ds) := by
  funext rs
  show (match t.of d with | none => none | some es => _) = _
  cases t.of d <;> rfl
theorem sFor_f (src : Ev → Mn (List D)) (t : Tgt) (b : Ev → Ms) : sFor false src t b ev = bnS (src ev) fun ds => forGo t b ds ev := rfl
@[simp] theorem dyn_eq (h : Ev → Mn D) : dyn h ev = dynM (h ev) (h (lend ev)) := rfl
@[simp] theorem dynM_pur (d : D) (n : Mn D) : dynM (pur d) n = pur d := rfl
@[simp] theorem dynM_stk (d : D) : dynM stk (pur d) = if noL d = true then pur d else stk := by
  funext rs
  show (if noL d = true then _ else _) = _
  split <;> rfl
@[simp] theorem sSet_eq (i : Nat) (h : Ev → Mn D) : sSet i h ev = bnS (dyn h ev) fun d => nxM (ev.set i (.dat d)) := rfl
@[simp] theorem sTgt_eq (t : Tgt) (h : Ev → Mn D) : sTgt t h ev = bnS (bnd (dyn h ev) fun d => lft (t.of d)) fun ds => nxM (setE ev t.ix ds) := rfl
@[simp] theorem sOwn_eq (i : Nat) (h : Ev → Mn (List Slot)) : sOwn i h ev = bnS (bnd (h ev) fun ss => lft (if ss.length ≤ sizeLine then dats ss else none)) fun ds => nxM (ev.set i (.own ds)) := rfl
@[simp] theorem sDrop_eq (h : Ev → Mn D) : sDrop h ev = bnS (h (lend ev)) fun _ => nxM ev := rfl
@[simp] theorem sApp_eq (i : Nat) (h : Ev → Mn D) : sApp i h ev = bnS (bnd (lft (getO ev i)) fun ds => bnd (dyn h ev) fun d => lft (if ds.length < sizeLine then some (ds ++ [d]) else none)) fun es => nxM (ev.set i (.own es)) := rfl
@[simp] theorem sExt_eq (i : Nat) (h : Ev → Mn D) : sExt i h ev = bnS (bnd (lft (getO ev i)) fun ds => bnd (h ev) fun d => lft ((lstD d).bind fun es => if ds.length + es.length ≤ sizeLine then some (ds ++ es) else none)) fun es => nxM (ev.set i (.own es)) := rfl
@[simp] theorem sPop_eq (j i : Nat) : sPop j i ev = bnS (lft ((getO ev i).bind fun ds => (ds[ds.length - 1]?).map fun d => (ds.dropLast, d))) fun q => nxM ((ev.set i (.own q.1)).set j (.dat q.2)) := rfl
def augD (op : Int → Int → Int) (a b : D) : Option D := match a, b with
  | .int x, .int y => some (PyData.int (op x y))
  | _, _ => none
@[simp] theorem sAug_eq (i : Nat) (h : Ev → Mn D) (op : Int → Int → Int) : sAug i h op ev = bnS (bnd (lft (getE ev i)) fun a => bnd (h (lend ev)) fun b => lft (augD op a b)) fun d => nxM (ev.set i (.dat d)) := rfl
@[simp] theorem augD_i (op : Int → Int → Int) (x y : Int) : augD op (.int x) (.int y) = some (.int (op x y)) := rfl
@[simp] theorem getO_z (ds : List D) (r : Ev) : getO (.own ds :: r) 0 = some ds := rfl
@[simp] theorem getO_s (s : Slot) (r : Ev) (i : Nat) : getO (s :: r) (i + 1) = getO r i := by unfold getO; rw [List.getElem?_cons_succ]
@[simp] theorem getE_own (ds : List D) (r : Ev) : getE (.own ds :: r) 0 = none := rfl
@[simp] theorem lstD_l (ds : List D) : lstD (.list ds) = some ds := rfl
end
end DL
namespace DL
open PySem PySem.Spec PyProof.Rows L2
def tk (m : Int) (rs : RS) : Int × RS :=
  if 0 < rs.c then (rs.c % m, { rs with c := rs.c / m })
  else if rs.ns.length ≤ rs.a then
    let b := (rs.b * 48271 + 11) % 2147483647
    ((b / 7) % m, { rs with a := rs.a + 1, b := b })
  else
    let cell := rs.ns.getD rs.a 0
    let b := (rs.b * 48271 + cell + 11) % 2147483647
    (cell % m, { rs with a := rs.a + 1, b := b, c := if 10 ^ 18 ≤ cell then cell / m else rs.c })
def tkF : List Slot → Mn D := fun ss rs => match ss with
  | [.row, .dat (.int m)] => if 0 < m ∧ m < 1073741824 then some (.val (.int (tk m rs).1), (tk m rs).2) else none
  | _ => none
theorem tk_range (m : Int) (rs : RS) (h : 0 < m) : 0 ≤ (tk m rs).1 ∧ (tk m rs).1 < m := by
  unfold tk
  split
  · exact ⟨Int.emod_nonneg _ (by omega), Int.emod_lt_of_pos _ h⟩
  · split
    · exact ⟨Int.emod_nonneg _ (by omega), Int.emod_lt_of_pos _ h⟩
    · exact ⟨Int.emod_nonneg _ (by omega), Int.emod_lt_of_pos _ h⟩
/-- the row's heap, written -/
def rowV (r : Rw) (rs : RS) : List V := [.ref r.sc, .int (rs.a : Int), .int rs.b, .int rs.c]
theorem row_put {K : PySem.W.Frag} {M : Addr → Prop} {H H' : Hp} {r : Rw} {rs rs' : RS} (mr : M r.a) (h : RowAt K M H r rs) (hs : Stp r H H') (e : H' r.a = some (.lst (rowV r rs'))) (en : rs'.ns = rs.ns) : RowAt K M H' r rs' :=
  ⟨⟨e, en.trans h.1.2⟩, sqlm_kp h.2 (hs.kp mr)⟩
theorem stp_upd {r : Rw} {H : Hp} {o : HO} : Stp r H (upd H r.a o) := fun b u n e => by rw [upd_ne n]; exact e
end DL
namespace DL
open PySem PySem.Spec PyProof.Rows L2
section
variable {G : Gm} {k : Nat} {sc : Sx} {N : List Str} {X : Cx}
def isTup1 : D → Bool
  | .tuple (_ :: _) => true
  | _ => false
def noTN : D → Bool
  | .none => false
  | .tuple _ => false
  | _ => true
def okSort (ds : List D) : Bool := ((ds.all fun d => ds.all fun e => PySem.W.alike d e) && (ds.all isTup1 || ds.all noTN) && ds.all fun d => decide (d.depth ≤ 60)) && PyData.plainAll ds
theorem okSort_un {ds : List D} (h : okSort ds = true) : PySem.W.AllAlike ds ∧ PySem.W.Sortable ds ∧ ∀ d ∈ ds, d.depth ≤ 60 := by
  unfold okSort at h
  simp only [Bool.and_eq_true, Bool.or_eq_true, List.all_eq_true, decide_eq_true_eq] at h
  obtain ⟨⟨⟨h1, h2⟩, h3⟩, _⟩ := h
  refine ⟨fun d hd e he => h1 d hd e he, ?_, h3⟩
  rcases h2 with h2 | h2
  · refine .inl fun d hd => ?_
    have q := h2 d hd
    cases d with
    | tuple xs => cases xs with
      | nil => cases q
      | cons x r => exact ⟨x, r, rfl⟩
    | _ => cases q
  · refine .inr fun d hd => ?_
    have q := h2 d hd
    cases d with
    | none => cases q
    | tuple xs => cases q
    | _ => exact ⟨(fun z => by cases z), (fun xs z => by cases z)⟩
def srtD (ds : List D) : List D := ds.mergeSort (PySem.W.dataLe false fun d : D => d)
end
end DL
namespace DL
open PySem PySem.Spec PyProof.Rows L2
section
variable {G : Gm} {k : Nat} {sc : Sx} {N : List Str} {X : Cx}
def isLst : D → Bool
  | .list _ => true
  | _ => false
def dMtL (op : D → D → Option D) (fo fe : Ev → Mn D) (ev : Ev) : Mn D := bnd (fo ev) fun x => if isLst x = true then bnd (fe ev) fun y => lft (op x y) else fun _ => none
@[simp] theorem dMtL_eq (op : D → D → Option D) (fo fe : Ev → Mn D) (ev : Ev) : dMtL op fo fe ev = bnd (fo ev) fun x => if isLst x = true then bnd (fe ev) fun y => lft (op x y) else stk := rfl
section
end
end
end DL
namespace DL
open PySem PySem.Spec PyProof.Rows L2
section
variable {K : PySem.W.Frag} {M : Addr → Prop} {H H' : Hp} {r : Rw} {rs : RS}
def lookL : List (Str × D) → Str → Option D
  | [], _ => none
  | (x, d) :: ps, z => if x = z then some d else lookL ps z
end
def dDisp : List (Str × (Ev → Mn D)) → Ev → Mn (List (Str × D))
  | [], _ => pur []
  | (x, f) :: r, ev => bnd (f ev) fun d => bnd (dDisp r ev) fun ps => pur ((x, d) :: ps)
def dDGet (kfs : List (Str × (Ev → Mn D))) (fw : Ev → Mn D) (ev : Ev) : Mn D := bnd (dDisp kfs ev) fun ps => bnd (fw ev) fun w => lft (match w with
  | .str z => lookL ps z
  | _ => none)
@[simp] theorem dDisp_nil (ev : Ev) : dDisp [] ev = pur [] := rfl
@[simp] theorem dDisp_cons (x : Str) (f : Ev → Mn D) (r : List (Str × (Ev → Mn D))) (ev : Ev) : dDisp ((x, f) :: r) ev = bnd (f ev) fun d => bnd (dDisp r ev) fun ps => pur ((x, d) :: ps) := rfl
section
variable {G : Gm} {k : Nat} {sc : Sx} {N : List Str}
inductive SPr (G : Gm) (k : Nat) (sc : Sx) (N : List Str) : List (Option Expr) → List Expr → List (Str × (Ev → Mn D)) → Prop
  | nil : SPr G k sc N [] [] []
  | cons {x : Str} {j : Nat} {p : Pos} {ks : List (Option Expr)} {v : Expr} {vs : List Expr} {f : Ev → Mn D} {r : List (Str × (Ev → Mn D))} : SE G k sc N v f → SPr G k sc N ks vs r → SPr G k sc N (some (.Constant (.str x) j p) :: ks) (v :: vs) ((x, f) :: r)
theorem SPr.len : ∀ {ks : List (Option Expr)} {vs : List Expr} {r : List (Str × (Ev → Mn D))}, SPr G k sc N ks vs r → ks.length = r.length ∧ vs.length = r.length ∧ ks.all (·.isSome) = true
  | _, _, _, .nil => ⟨rfl, rfl, rfl⟩
  | _, _, _, .cons h t => ⟨congrArg (· + 1) t.len.1, congrArg (· + 1) t.len.2.1, by simp [t.len.2.2]⟩
end
end DL
namespace DL
open PySem PySem.Spec PyProof.Rows L2
section
variable {G : Gm} {k : Nat} {sc : Sx} {N : List Str}
def dStuck (_ : Ev) : Mn D := fun _ => none
def sStuck (_ : Ev) : Ms := fun _ => none
@[simp] theorem dStuck_eq (ev : Ev) : dStuck ev = stk := rfl
@[simp] theorem sStuck_eq (ev : Ev) : sStuck ev = stS := rfl
end
end DL
namespace DL
open PySem PySem.Spec PyProof.Rows L2
section
variable {G : Gm} {k : Nat} {sc : Sx} {N : List Str}
def nestD (n : Nat) : D → Option (List D)
  | .tuple [d, .tuple es] => if es.length = n then some (d :: es) else none
  | _ => none
def pTgN (i : Nat) (js : List Nat) (f : Ev → Mn D) (ev : Ev) : Ms := bnS (bnd (f ev) fun d => lft (nestD js.length d)) fun ds rs => some (.nx (setE ev (i :: js) ds), rs)
@[simp] theorem pTgN_eq (i : Nat) (js : List Nat) (f : Ev → Mn D) (ev : Ev) : pTgN i js f ev = bnS (bnd (f ev) fun d => lft (nestD js.length d)) fun ds => nxM (setE ev (i :: js) ds) := rfl
end
end DL
namespace DL
open PySem PySem.Spec PyProof.Rows L2
abbrev NoX : Value → Shared → Prop := fun _ _ => False
abbrev Go := (Shared → Prop) → Shared → Prop
/-- the loop at the k-th clause; go: the rest of a turn, behind the store and the tests -/
def LoopRule (p : Program) (w : World) (A : Around) (e : Expr) (k : Nat) (tg : Expr) (ifs : List Expr) (env : Env) (acc : Value) (go : Go) : Prop :=
  ∀ (it : Value) (R : Result → Shared → Prop) (I : Nat → Shared → Prop),
    (∀ n s, I n s → wpAny (model p w) A (pyNext it) (fun x s1 => match x with
      | none => R (.ok .next) s1
      | some v => wpAny (model p w) A (letOwnedTupleGo tg it v) (fun _ s2 => wpAny (model p w) A (assign tg env v) (fun _ s3 =>
          wpAny (model p w) A (forIn ifs true fun c b => if b = true then do let ok ← isTrue c env (eval c env); pure (ForInStep.yield ok) else pure (ForInStep.yield b))
            (fun ok s4 => if ok = true then go (fun s5 => ∃ m, m < n ∧ I m s5) s4 else ∃ m, m < n ∧ I m s4) NoX s3) NoX s2) NoX s1) NoX s) →
    ∀ n s, I n s → codeAny (model p w) A (.compLoop e k it acc env) R s
def goIn (p : Program) (w : World) (A : Around) (elt : Expr) (env : Env) (acc : Value) : Go := fun Rr s =>
  wpAny (model p w) A (eval elt env) (fun x s1 => wpAny (model p w) A (call (.builtin "list.append") [acc, x]) (fun _ s2 => Rr s2) NoX s1) NoX s
def goOut (p : Program) (w : World) (A : Around) (e : Expr) (k : Nat) (iter : Expr) (env : Env) (acc : Value) : Go := fun Rr s =>
  wpAny (model p w) A (eval iter env) (fun x s1 => wpAny (model p w) A (pyIter x) (fun it s2 => codeAny (model p w) A (.compStart e k it acc env) (fun y s3 => match y with
    | .ok _ => Rr s3
    | .error _ => False) s2) NoX s1) NoX s
def StartRule (p : Program) (w : World) (A : Around) (e : Expr) (k : Nat) (env : Env) (acc : Value) : Prop :=
  ∀ (it : Value) (R : Result → Shared → Prop) (s : Shared), codeAny (model p w) A (.compLoop e k it acc env) R s →
    wpAny (model p w) A (pyIter it) (fun it2 s2 => codeAny (model p w) A (.compLoop e k it2 acc env) R s2) NoX s → codeAny (model p w) A (.compStart e k it acc env) R s
section
variable {p : Program} {w : World} {A : Around} {elt t0 i0 : Expr} {ifs0 : List Expr} {k : Nat} {env : Env} {acc : Value} {gs : List Comprehension} {scope : Scope} {pos : Pos}
def turnIn (t0 i0 : Expr) (ifs0 : List Expr) (elt e : Expr) (k : Nat) (it acc : Value) (env : Env) : Sem PySem.Fin := do
  standAt i0.pos
  match ← pyNext it with
  | none => pure (.done .next)
  | some v =>
    letOwnedTupleGo t0 it v
    assign t0 env v
    let mut ok := true
    for c in ifs0 do
      if ok then ok ← isTrue c env (eval c env)
    if ok then
      (do let _ ← call (.builtin "list.append") [acc, ← eval elt env])
    again (.compLoop e k it acc env)
def turnOut (t0 i0 i1 : Expr) (ifs0 : List Expr) (e : Expr) (k : Nat) (it acc : Value) (env : Env) : Sem PySem.Fin := do
  standAt i0.pos
  match ← pyNext it with
  | none => pure (.done .next)
  | some v =>
    letOwnedTupleGo t0 it v
    assign t0 env v
    let mut ok := true
    for c in ifs0 do
      if ok then ok ← isTrue c env (eval c env)
    if ok then
      let x ← eval i1 env
      standAt i1.pos
      let x ← foldedSetIterable i1 env x
      let _ ← runOwn (.compStart e (k + 1) (← holding [x] (pyIter x)) acc env) env
    again (.compLoop e k it acc env)
theorem nox_mono {α : Type} {t : Sem α} {Q Q' : α → Shared → Prop} {E : Value → Shared → Prop} {s : Shared} (h : wpAny (model p w) A t Q NoX s) (hQ : ∀ a s, Q a s → Q' a s) : wpAny (model p w) A t Q' E s := wpAny_mono h hQ fun _ _ z => z.elim
theorem rule_in (h : ∀ it, compTurn (.ListComp elt gs scope pos) k it acc env = turnIn t0 i0 ifs0 elt (.ListComp elt gs scope pos) k it acc env) : LoopRule p w A (.ListComp elt gs scope pos) k t0 ifs0 env acc (goIn p w A elt env acc) := by
  intro it R I turn n s hI
  refine codeAny_loop rfl I (fun n s hI => ?_) n hI
  show wpAny _ A ((compTurn (.ListComp elt gs scope pos) k it acc env).onRaise (fun x => do noteFrame x env; theTreesLotGoes x)) _ _ s
  refine wpAny_noted ?_
  rw [h]
  refine wpAny_bind (wpAny_standAt (wpAny_bind (nox_mono (turn n s hI) fun x s1 h1 => ?_)))
  cases x with
  | none => exact wpAny_pure h1
  | some v =>
    refine wpAny_bind (nox_mono h1 fun _ s2 h2 => wpAny_bind (nox_mono h2 fun _ s3 h3 => wpAny_bind (nox_mono h3 fun ok s4 h4 => ?_)))
    cases ok with
    | false => exact wpAny_pure ⟨rfl, h4⟩
    | true => exact wpAny_bind (wpAny_bind (nox_mono h4 fun x s5 h5 => wpAny_bind (nox_mono h5 fun _ s6 h6 => wpAny_pure (wpAny_pure ⟨rfl, h6⟩))))
theorem rule_out {i1 : Expr} (h : ∀ it, compTurn (.ListComp elt gs scope pos) k it acc env = turnOut t0 i0 i1 ifs0 (.ListComp elt gs scope pos) k it acc env) (hs : ∀ x, foldedSetIterable i1 env x = pure x) : LoopRule p w A (.ListComp elt gs scope pos) k t0 ifs0 env acc (goOut p w A (.ListComp elt gs scope pos) (k + 1) i1 env acc) := by
  intro it R I turn n s hI
  refine codeAny_loop rfl I (fun n s hI => ?_) n hI
  show wpAny _ A ((compTurn (.ListComp elt gs scope pos) k it acc env).onRaise (fun x => do noteFrame x env; theTreesLotGoes x)) _ _ s
  refine wpAny_noted ?_
  rw [h]
  refine wpAny_bind (wpAny_standAt (wpAny_bind (nox_mono (turn n s hI) fun x s1 h1 => ?_)))
  cases x with
  | none => exact wpAny_pure h1
  | some v =>
    refine wpAny_bind (nox_mono h1 fun _ s2 h2 => wpAny_bind (nox_mono h2 fun _ s3 h3 => wpAny_bind (nox_mono h3 fun ok s4 h4 => ?_)))
    cases ok with
    | false => exact wpAny_pure ⟨rfl, h4⟩
    | true =>
      refine wpAny_bind (nox_mono h4 fun x s5 h5 => wpAny_bind (wpAny_standAt (wpAny_bind (wpAny_of_eq (hs x) (wpAny_bind (wpAny_holding (nox_mono h5 fun it1 s6 h6 => ?_)))))))
      refine wpAny_bind (wpAny_runOwn ?_)
      rw [Around.mark_none]
      refine codeAny_mono h6 fun y s7 hy => ?_
      cases y with
      | ok f =>
        first
          | exact wpAny_pure ⟨rfl, hy⟩
          | exact wpAny_bind (wpAny_pure (wpAny_pure ⟨rfl, hy⟩))
      | error e => exact hy.elim
end
section
variable {p : Program} {w : World} {A : Around} {elt : Expr} {scope : Scope} {pos : Pos} {env : Env} {acc : Value} {g0 g1 g2 : Comprehension} {t i i' : Expr} {ifs ifs' : List Expr} {t' : Expr} {gs : List Comprehension}
theorem out0 (it : Value) : compTurn (.ListComp elt (⟨t, i, ifs, 0⟩ :: ⟨t', i', ifs', 0⟩ :: gs) scope pos) 0 it acc env = turnOut t i i' ifs (.ListComp elt (⟨t, i, ifs, 0⟩ :: ⟨t', i', ifs', 0⟩ :: gs) scope pos) 0 it acc env := by rfl
theorem in1 (it : Value) : compTurn (.ListComp elt [g0, ⟨t, i, ifs, 0⟩] scope pos) 1 it acc env = turnIn t i ifs elt (.ListComp elt [g0, ⟨t, i, ifs, 0⟩] scope pos) 1 it acc env := by rfl
theorem start1 : StartRule p w A (.ListComp elt (g0 :: ⟨t, i, ifs, 0⟩ :: gs) scope pos) 1 env acc := by
  intro it R s h0 h
  refine codeAny_of_tree ?_
  show wpAny _ _ ((compStart (.ListComp elt (g0 :: ⟨t, i, ifs, 0⟩ :: gs) scope pos) 1 it acc env).onRaise (fun x => do noteFrame x env; standAt theWindowsPlace)) _ _ s
  refine wpAny_notedAt ?_
  unfold compStart
  show wpAny _ _ (ask >>= _) _ _ s
  refine wpAny_bind (wpAny_askSetting (wpAny_ite ?_))
  split
  · first
      | exact wpAny_bind (wpAny_pure (wpAny_pure ⟨rfl, h0⟩))
      | exact wpAny_pure ⟨rfl, h0⟩
  · refine wpAny_bind (wpAny_rule ?_)
    show wpAny _ _ (standAt i.pos >>= _) _ _ s
    exact wpAny_bind (wpAny_standAt (wpAny_bind (nox_mono h fun it2 s2 h2 => wpAny_pure ⟨rfl, h2⟩)))
end
end DL
namespace DL
open PySem PySem.Spec PyProof.Rows L2
def gnGo (rest : Ev → Mn (List D)) (t : Tgt) (cond : Ev → Mn Bool) (ev : Ev) : List D → Mn (List D)
  | [] => pur []
  | d :: ds => bnd (lft (t.of d)) fun es => bnd (nox (cond (setE ev t.ix es))) fun c =>
      bnd (if c = true then nox (rest (setE ev t.ix es)) else pur []) fun xs => bnd (nox (gnGo rest t cond ev ds)) fun ys => pur (xs ++ ys)
def dLast (elt : Ev → Mn D) (ev : Ev) : Mn (List D) := bnd (nox (elt ev)) fun x => pur [x]
def dMid (src : Ev → Mn (List D)) (vs : List Nat) (rest : Ev → Mn (List D)) (t : Tgt) (cond : Ev → Mn Bool) (ev : Ev) : Mn (List D) := bnd (nox (src ev)) fun ds => gnGo rest t cond (wipeE ev vs) ds
def dCompN (own : List Nat) (src : Ev → Mn (List D)) (rest : Ev → Mn (List D)) (t : Tgt) (cond : Ev → Mn Bool) (ev : Ev) : Mn D :=
  bnd (src ev) fun ds => bnd (gnGo rest t cond (wipeE ev own) ds) fun out => lft (if out.length ≤ sizeLine then some (.list out) else none)
theorem gnGo_val {rest : Ev → Mn (List D)} {t : Tgt} {cond : Ev → Mn Bool} {ev : Ev} : ∀ {ds : List D} {rs rs' : RS} {o : Out (List D)}, gnGo rest t cond ev ds rs = some (o, rs') → ∃ xs, o = .val xs
  | [], _, _, _, h => by cases h; exact ⟨_, rfl⟩
  | d :: ds, rs, rs', o, h => by
    obtain ⟨es, _, h⟩ := bnd_lft h
    obtain ⟨c, rs1, _, h⟩ := bnd_nox h
    have go : ∀ {m : Mn (List D)} {rs1 : RS}, (∀ o r, m rs1 = some (o, r) → ∃ xs, o = .val xs) → bnd m (fun xs => bnd (nox (gnGo rest t cond ev ds)) fun ys => pur (xs ++ ys)) rs1 = some (o, rs') → ∃ xs, o = .val xs := by
      intro m rs1 hm q
      rcases bnd_some q with ⟨a, rs3, e1, e2⟩ | ⟨x, i, e1, _⟩
      · obtain ⟨b, rs4, _, e4⟩ := bnd_nox e2
        cases e4
        exact ⟨_, rfl⟩
      · obtain ⟨xs, e⟩ := hm _ _ e1
        cases e
    refine go (fun o r q => ?_) h
    split at q
    · obtain ⟨a, e, _⟩ := nox_some q
      exact ⟨a, e⟩
    · cases q
      exact ⟨_, rfl⟩
section
variable {G : Gm} {k : Nat} {sc : Sx} {N : List Str}
/-- within the loops: the list that grows stands at P -/
structure Lp (Y : Cx) (G : Gm) (M : Addr → Prop) (r : Rw) (P : Addr) (pins : List (Addr × Obj)) (σ : L2.St) (ev : Ev) (H : Hp) (rs : RS) (got : List D) (s : Shared) : Prop where
  inv : Inv Y pins σ H s
  rel : RelE G.K (And1 M P) r σ H ev rs
  acc : ∃ xs, H P = some (.lst xs) ∧ DaL G.K (And1 M P) H xs got
/-- the rest of a turn keeps to what it gives -/
def Body (Y : Cx) (G : Gm) (M : Addr → Prop) (r : Rw) (P : Addr) (den : Ev → Mn (List D)) (vs : List Nat) (go : Go) : Prop :=
  ∀ pins σ ev H rs got s xs rs' (Rr : Shared → Prop), Lp Y G M r P pins σ ev H rs got s → den ev rs = some (.val xs, rs') → got.length + xs.length ≤ sizeLine →
    (∀ s' H', Lp Y G M r P pins (wipe σ vs) (wipeE ev vs) H' rs' (got ++ xs) s' → Same' r P H H' → Rr s') → go Rr s
theorem same'_refl {r : Rw} {P : Addr} (H : Hp) : Same' r P H H := fun _ _ _ _ h => h
theorem same'_trans {r : Rw} {P : Addr} {H H1 H2 : Hp} (a : Same' r P H H1) (b : Same' r P H1 H2) : Same' r P H H2 := fun c o n m h => b c o n m (a c o n m h)
theorem same'_kp {M : Addr → Prop} {r : Rw} {P : Addr} {H H' : Hp} (mr : M r.a) (a : Same' r P H H') : Kp (And1 M P) H H' := fun b o n h => a b o (fun z => n (.inr z)) (fun z => n (.inl (z ▸ mr))) h
variable {Y : Cx} {M : Addr → Prop} {r : Rw} {P : Addr}
theorem body_in {elt : Expr} {fe : Ev → Mn D} (he : PE Y elt (tE G.K G.mg W0 fe)) (hx : Y.xe = NoX) (hP : P ≠ r.a) (mr : M r.a) : Body Y G M r P (dLast fe) [] (goIn Y.prog Y.w Y.A elt Y.env (.ref P)) := by
  intro pins σ ev H rs got s xs rs' Rr L h hz hR
  obtain ⟨y, rs1, e1, h⟩ := bnd_nox h
  cases h
  obtain ⟨acc, hA, hD⟩ := L.acc
  have z := he.run pins s σ H (fun v H5 => Da G.K (And1 M P) H5 v y ∧ Stp r H H5 ∧ RowAt G.K (And1 M P) H5 r rs') L.inv ⟨_, r, ev, rs, L.rel, .val y, rs', e1, fun H5 s5 w5 v dv => ⟨dv, s5, w5⟩⟩
  rw [hx] at z
  refine nox_mono z fun u s1 q => ?_
  obtain ⟨v, H5, I5, rv, dv, s5, w5⟩ := q
  have m1 : And1 M P r.a := .inl mr
  have ml5 : Ml (And1 M P) H5 := L.rel.ml.stp m1 s5 w5
  have hA5 : H5 P = some (.lst acc) := s5 _ _ hP hA
  have acc5 : DaL G.K (And1 M P) H5 acc got := hD.kp L.rel.ml (s5.kp m1)
  have la : acc.length < sizeLine := by
    rw [acc5.length]
    simp only [List.length_cons, List.length_nil] at hz
    omega
  refine app_ok (X := Y) I5 hA5 la rv fun s6 I6 => ?_
  have k6 : Kp (And1 M P) H5 (upd H5 P (.lst (acc ++ [v]))) := fun b o n e => by rw [upd_ne fun q => n (.inr q)]; exact e
  have t6 : ∀ b o, b ≠ P → H5 b = some o → (upd H5 P (.lst (acc ++ [v]))) b = some o := fun b o n e => by rw [upd_ne n]; exact e
  have row6 : RowAt G.K (And1 M P) (upd H5 P (.lst (acc ++ [v]))) r rs' := by
    obtain ⟨⟨e1, e1'⟩, e2⟩ := w5
    exact ⟨⟨t6 _ _ hP.symm e1, e1'⟩, sqlm_kp e2 k6⟩
  refine hR s6 _ ⟨I6, ?_, acc ++ [v], upd_same, ?_⟩ fun b o n m e => t6 b o n (s5 b o m e)
  · have R5 : RelE G.K (And1 M P) r σ H5 ev rs' := L.rel.stp s5 w5
    refine ⟨R5.mr, fun b q => ?_, row6, fun j t e => (R5.slots j t e).kp ml5 k6, R5.len⟩
    by_cases hb : b = P
    · exact ⟨.lst _, by rw [hb]; exact upd_same, trivial⟩
    · obtain ⟨ys, e, mu⟩ := R5.ml b q
      exact ⟨ys, t6 _ _ hb e, mu⟩
  · exact DaL.kp ml5 k6 (acc5.append (.cons dv .nil))
/-- the loop at a clause -/
theorem loop_go {tg e : Expr} {ifs : List Expr} {lv : Nat} {t : Tgt} {cond : Ev → Mn Bool} {den : Ev → Mn (List D)} {vs vs1 : List Nat} {go : Go} {u : TG} (hc : Y.calm = true) (rule : LoopRule Y.prog Y.w Y.A e lv tg ifs Y.env (.ref P) go) (hx : Y.xe = NoX) (mr : M r.a) (hPr : P ≠ r.a)
    (pg : PG Y tg u) (hu : ∀ M (σ : L2.St) H v d ds Q, Da G.K M H v d → t.of d = some ds → (∀ vs, DaL G.K M H vs ds → Q (setV σ t.ix vs) H) → u v σ H Q) (pt : PTs Y ifs (tT G.K G.mg W0 cond)) (body : Body Y G M r P den vs1 go) (hvs : ∀ i ∈ vs1, i ∈ vs) (hix : ∀ i ∈ t.ix, i ∈ vs)
    {pins : List (Addr × Obj)} {σ : L2.St} {ev : Ev} {H1 H : Hp} {rs rs' : RS} {got out : List D} {s : Shared} {ds : List D} {J : It} {it : Addr} {fp : List Addr} {tn : Nat → Heap → Prop} {R : Result → Shared → Prop} {MJ : Addr → Prop}
    (L : Lp Y G M r P pins σ ev H rs got s) (T : Turn Y.prog Y.w Y.K tg J fp it tn) (st : tn 0 s.heap) (ff : ∀ (H' : Hp) (s' : Shared) (σ' : L2.St), Inv Y pins σ' H' s' → (∀ b ∈ fp, H' b = none) → ∀ b ∈ fp, FpOk Y pins H' b) (nf : ∀ b ∈ fp, H b = none) (jok : JOk G.K MJ J H1 ds)
    (hm : ∀ b, And1 M P b → MJ b ∨ H1 b = none) (hk : ∀ H', Same' r P H H' → Kp MJ H1 H')
    (h : gnGo den t cond (wipeE ev vs) ds rs = some (.val out, rs')) (hz : got.length + out.length ≤ sizeLine) (hR : ∀ s' H', Lp Y G M r P pins (wipe σ vs) (wipeE ev vs) H' rs' (got ++ out) s' → Same' r P H H' → R (.ok .next) s') :
    codeAny (model Y.prog Y.w) Y.A (.compLoop e lv (.ref it) (.ref P) Y.env) R s := by
  refine rule (.ref it) R (fun n s' => ∃ i H' rsi gi rest, n = ds.length - i ∧ i ≤ ds.length ∧ Lp Y G M r P pins (wipe σ vs) (wipeE ev vs) H' rsi gi s' ∧ tn i s'.heap ∧ (∀ b ∈ fp, H' b = none) ∧ Same' r P H H' ∧ gnGo den t cond (wipeE ev vs) (ds.drop i) rsi = some (.val rest, rs') ∧ gi ++ rest = got ++ out) ?_ ds.length s
    ⟨0, H, rs, got, out, rfl, Nat.zero_le _, ⟨L.inv.weak (wipe_length _ _) fun j v e => (wipe_some e).1, L.rel.wiped vs, L.acc⟩, st, nf, same'_refl H, h, rfl⟩
  rintro n s5 ⟨i, H5, rsi, gi, rest, rfl, hil, L5, st5, n5, sm5, h5, hap⟩
  have kp5 : Kp MJ H1 H5 := hk H5 sm5
  have f5 := ff H5 s5 _ L5.inv n5
  by_cases hlt : i < ds.length
  · have hd := List.getElem?_eq_getElem hlt
    have ti := T.item Y rfl rfl rfl hc i pins s5 _ H5 NoX L5.inv f5 st5 (jok.go H5 kp5 i _ hd)
    refine nox_mono ti fun x s6 ⟨v, hv, h6⟩ => ?_
    subst hv
    refine nox_mono h6 fun _ s7 ⟨x, H7, I7, r7, y7, st7, n7⟩ => ?_
    obtain ⟨sm7, dx⟩ := jok.yld (And1 M P) H5 kp5 hm i _ x H7 hd y7
    rw [List.drop_eq_getElem_cons hlt] at h5
    obtain ⟨es, ht1, h5⟩ := bnd_lft h5
    obtain ⟨c, rs2, hc1, h5⟩ := bnd_nox h5
    have f7 := ff H7 s7 _ I7 n7
    have I7' := I7.pinned f7 (T.obj _ _ st7)
    have z := pg.run (pins ++ pinsAt fp s7.heap) s7 (wipe σ vs) H7 x v (fun σ8 H8 => ∃ vs', DaL G.K (And1 M P) H7 vs' es ∧ σ8 = setV (wipe σ vs) t.ix vs' ∧ H8 = H7) I7' r7 (hu _ _ _ _ _ _ _ dx ht1 fun vs' hvs' => ⟨vs', hvs', rfl, rfl⟩)
    rw [hx] at z
    refine nox_mono z fun _ s8 ⟨σ8, H8, I8, vs', hvs', e8, e8'⟩ => ?_
    subst e8 e8'
    have R7 : RelE G.K (And1 M P) r (wipe σ vs) H8 (wipeE ev vs) rsi := L5.rel.stp (.of_same sm7) (row_same L5.rel.row sm7)
    have R8 := R7.setL (is := t.ix) hvs'
    have z9 := pt.run (pins ++ pinsAt fp s7.heap) s8 _ H8 (fun b H9 => b = c ∧ Stp r H8 H9 ∧ RowAt G.K (And1 M P) H9 r rs2) I8 ⟨_, _, _, rsi, R8, .val c, rs2, hc1, fun H9 q9 w9 => ⟨rfl, q9, w9⟩⟩
    rw [hx] at z9
    refine nox_mono z9 fun b s9 ⟨H9, I9, hb, q9, w9⟩ => ?_
    subst hb
    have R9 := R8.stp q9 w9
    obtain ⟨acc, hA, hD⟩ := L5.acc
    have m1 : And1 M P r.a := .inl mr
    have hA9 : H9 P = some (.lst acc) := q9 _ _ hPr (sm7 _ _ hA)
    have hD9 : DaL G.K (And1 M P) H9 acc gi := (hD.kp L5.rel.ml (.of_same sm7)).kp R7.ml (q9.kp m1)
    have L9 : Lp Y G M r P (pins ++ pinsAt fp s7.heap) (setV (wipe σ vs) t.ix vs') (setE (wipeE ev vs) t.ix es) H9 rs2 gi s9 := ⟨I9, R9, acc, hA9, hD9⟩
    have sm9 : Same' r P H H9 := fun b o n m e => q9 b o m (sm7 b o (sm5 b o n m e))
    have sm59 : Same' r P H5 H9 := fun b o n m e => q9 b o m (sm7 b o e)
    have fin : ∀ {σ' : L2.St} {ev' : Ev} {s' : Shared} {H' : Hp} {rs3 : RS} {g' ys : List D}, Lp Y G M r P (pins ++ pinsAt fp s7.heap) σ' ev' H' rs3 g' s' → (wipe σ vs).length = σ'.length → (∀ (j : Nat) v, (wipe σ vs)[j]? = some (some v) → σ'[j]? = some (some v)) → Same' r P H9 H' →
        gnGo den t cond (wipeE ev vs) (ds.drop (i + 1)) rs3 = some (.val ys, rs') → g' ++ ys = got ++ out →
        ∃ m, m < ds.length - i ∧ ∃ i H' rsi gi rest, m = ds.length - i ∧ i ≤ ds.length ∧ Lp Y G M r P pins (wipe σ vs) (wipeE ev vs) H' rsi gi s' ∧ tn i s'.heap ∧ (∀ b ∈ fp, H' b = none) ∧ Same' r P H H' ∧ gnGo den t cond (wipeE ev vs) (ds.drop i) rsi = some (.val rest, rs') ∧ gi ++ rest = got ++ out := by
      intro σ' ev' s' H' rs3 g' ys L' hl hkn sm' hg hgo
      have pin' : ∀ b ∈ fp, ∀ o, s7.heap.get? b = some o → s'.heap.get? b = some o ∧ H' b = none := fun b hb o e =>
        let z := L'.inv.pin (b, o) (List.mem_append_right _ (List.mem_append_right _ (mem_pinsAt hb e)))
        ⟨z.1, z.2.1⟩
      refine ⟨ds.length - (i + 1), by omega, i + 1, H', rs3, g', ys, rfl, hlt, ⟨L'.inv.unpinned.weak hl hkn, ⟨L'.rel.mr, L'.rel.ml, L'.rel.row, fun j s e => (L5.rel.slots j s e).kp L5.rel.ml (same'_kp mr (same'_trans sm59 sm')), L5.rel.len⟩, L'.acc⟩,
        T.keep _ _ _ st7 fun b hb o e => (pin' b hb o e).1, fun b hb => ?_, same'_trans sm9 sm', hg, hgo⟩
      obtain ⟨o, e, _⟩ := T.obj _ _ st7 b hb
      exact (pin' b hb o e).2
    have hl9 : (wipe σ vs).length = (setV (wipe σ vs) t.ix vs').length := by rw [setV_length]
    have hk9 : ∀ (j : Nat) v, (wipe σ vs)[j]? = some (some v) → (setV (wipe σ vs) t.ix vs')[j]? = some (some v) := fun j v e => by
      rw [setV_out fun q => (wipe_some e).2 (hix j q)]
      exact e
    cases b with
    | false =>
      rw [if_neg (by decide)] at h5
      have h5 : bnd (nox (gnGo den t cond (wipeE ev vs) (ds.drop (i + 1)))) (fun ys => pur ([] ++ ys)) rs2 = some (.val rest, rs') := h5
      obtain ⟨ys, rs3, e3, h5⟩ := bnd_nox h5
      cases h5
      rw [if_neg (by decide)]
      exact fin L9 hl9 hk9 (same'_refl H9) e3 hap
    | true =>
      rw [if_pos rfl] at h5
      obtain ⟨xs, rs3, e3, h5⟩ := bnd_nox h5
      obtain ⟨ys, rs4, e4, h5⟩ := bnd_nox h5
      cases h5
      rw [if_pos rfl]
      have hz' : gi.length + xs.length ≤ sizeLine := by
        have e := congrArg List.length hap
        simp only [List.length_append] at e
        omega
      refine body _ _ _ _ _ _ _ _ _ _ L9 e3 hz' fun s10 H10 L10 sm10 => ?_
      refine fin L10 (hl9.trans (wipe_length _ _).symm) (fun j v e => ?_) sm10 e4 (by rw [List.append_assoc]; exact hap)
      have nj : j ∉ vs := (wipe_some e).2
      rw [wipe_get fun q => nj (hvs j q)]
      exact hk9 j v e
  · have ei : i = ds.length := by omega
    subst ei
    have td := T.done Y rfl rfl rfl hc ds.length pins s5 _ H5 NoX L5.inv f5 st5 (jok.stop H5 kp5)
    refine nox_mono td fun x s6 ⟨hx6, I6⟩ => ?_
    subst hx6
    rw [List.drop_length] at h5
    cases h5
    rw [List.append_nil] at hap
    subst hap
    exact hR s6 H5 ⟨I6, L5.rel, L5.acc⟩ sm5
/-- a clause within: its source, then its loop -/
theorem body_out {tg iter elt : Expr} {gs : List Comprehension} {scope : Scope} {pos : Pos} {ifs : List Expr} {lv : Nat} {t : Tgt} {src : Ev → Mn (List D)} {cond : Ev → Mn Bool} {den : Ev → Mn (List D)} {vs vs1 : List Nat} {go : Go} {u : TG} (hc : Y.calm = true) (start : StartRule Y.prog Y.w Y.A (.ListComp elt gs scope pos) lv Y.env (.ref P)) (rule : LoopRule Y.prog Y.w Y.A (.ListComp elt gs scope pos) lv tg ifs Y.env (.ref P) go) (hx : Y.xe = NoX) (mr : M r.a)
    (hPr : P ≠ r.a) (pi : PI Y tg iter (tI G.K G.mg W0 src)) (pg : PG Y tg u) (hu : ∀ M (σ : L2.St) H v d ds Q, Da G.K M H v d → t.of d = some ds → (∀ vs, DaL G.K M H vs ds → Q (setV σ t.ix vs) H) → u v σ H Q) (pt : PTs Y ifs (tT G.K G.mg W0 cond)) (body : Body Y G M r P den vs1 go)
    (hvs : ∀ i ∈ vs1, i ∈ vs) (hix : ∀ i ∈ t.ix, i ∈ vs) : Body Y G M r P (dMid src vs den t cond) vs (goOut Y.prog Y.w Y.A (.ListComp elt gs scope pos) lv iter Y.env (.ref P)) := by
  intro pins σ ev H rs got s xs rs' Rr L h hz hR
  obtain ⟨ds, rs1, e1, h⟩ := bnd_nox h
  obtain ⟨acc, hA, hD⟩ := L.acc
  have m1 : And1 M P r.a := .inl mr
  have z := pi.run pins s σ H (fun J H2 => JOk G.K (And1 M P) J H2 ds ∧ Stp r H H2 ∧ RowAt G.K (And1 M P) H2 r rs1) L.inv ⟨_, r, ev, rs, L.rel, .val ds, rs1, e1, fun H2 s2 w2 _ J j => ⟨j, s2, w2⟩⟩
  rw [hx] at z
  refine nox_mono z fun x s1 h1 => nox_mono h1 fun itv s2 h2 => ?_
  obtain ⟨it, fp, tn, J, H2, ei, I2, T, st2, f2, j2, q2, w2⟩ := h2
  subst ei
  have ml2 : Ml (And1 M P) H2 := L.rel.ml.stp m1 q2 w2
  have L2' : Lp Y G M r P pins σ ev H2 rs1 got s2 := ⟨I2, L.rel.stp q2 w2, acc, q2 _ _ hPr hA, hD.kp L.rel.ml (q2.kp m1)⟩
  have stat : ∀ (H' : Hp) (s' : Shared) (σ' : L2.St), Inv Y pins σ' H' s' → (∀ b ∈ fp, H' b = none) → ∀ b ∈ fp, FpOk Y pins H' b := fun H' s' σ' _ hn b hb => ⟨hn b hb, (f2 b hb).2⟩
  have loop : codeAny (model Y.prog Y.w) Y.A (.compLoop (.ListComp elt gs scope pos) lv (.ref it) (.ref P) Y.env) (fun y s3 => match y with
      | .ok _ => Rr s3
      | .error _ => False) s2 :=
    loop_go hc rule hx mr hPr pg hu pt body hvs hix (H1 := H2) (MJ := And1 M P) L2' T st2 stat (fun b hb => (f2 b hb).1) j2 (fun b z => .inl z) (fun H' sm => same'_kp mr sm) h hz fun s' H' L' sm' => hR s' H' L' fun b o n m e => sm' b o n m (q2 b o m e)
  exact start _ _ _ loop (T.self Y.A 0 _ _ _ st2 loop)
end
end DL
namespace DL
open PySem PySem.Spec PyProof.Rows L2
theorem wipeE_len (ev : Ev) : ∀ vs : List Nat, (wipeE ev vs).length = ev.length
  | [] => rfl
  | v :: vs => by
    show ((wipeE ev vs).set v .hid).length = _
    rw [List.length_set, wipeE_len ev vs]
theorem wipeE_out {ev : Ev} {j : Nat} : ∀ {vs : List Nat}, j ∉ vs → (wipeE ev vs)[j]? = ev[j]?
  | [], _ => rfl
  | v :: vs, h => by
    simp only [List.mem_cons, not_or] at h
    show ((wipeE ev vs).set v .hid)[j]? = _
    rw [List.getElem?_set_ne (Ne.symm h.1), wipeE_out h.2]
theorem wipeE_in {ev : Ev} {j : Nat} : ∀ {vs : List Nat}, j ∈ vs → j < ev.length → (wipeE ev vs)[j]? = some .hid
  | v :: vs, h, hl => by
    show ((wipeE ev vs).set v .hid)[j]? = _
    by_cases e : v = j
    · subst e
      exact List.getElem?_set_self (by rw [wipeE_len]; exact hl)
    · rw [List.getElem?_set_ne e]
      refine wipeE_in ?_ hl
      rcases List.mem_cons.mp h with q | q
      · exact absurd q.symm e
      · exact q
theorem wipeE_twice (ev : Ev) (vs : List Nat) : wipeE (wipeE ev vs) vs = wipeE ev vs := by
  apply List.ext_getElem?
  intro j
  by_cases hj : j ∈ vs
  · by_cases hlt : j < ev.length
    · rw [wipeE_in hj (by rw [wipeE_len]; exact hlt), wipeE_in hj hlt]
    · rw [List.getElem?_eq_none (by rw [wipeE_len, wipeE_len]; omega), List.getElem?_eq_none (by rw [wipeE_len]; omega)]
  · rw [wipeE_out hj]
section
end
end DL
namespace DL
open PySem PySem.Spec PyProof.Rows L2
section
end
end DL
noncomputable section
namespace HM
open PySem PySem.W PySem.Calls PyProof.Rows HandSHeadRun
abbrev Fr : Type := Ctx × (Result → Sem Fin) × Pos
def mk (den : Code → Sem Fin) (stg : Setting) : Nat → List Fr → Ctx → Sem Fin → SharedT → Pos → Option (Flow × SharedT × Pos)
  | 0, _, _, _, _, _ => none
  | n + 1, fs, Γ, t, s, p => match t with
    | .pure (.done f) => (match fs with
      | [] => some (f, s, p)
      | g :: r => mk den stg n r g.1 (g.2.1 (.ok f)) s g.2.2)
    | .pure (.again c) => (match fs with
      | [] => none
      | _ :: _ => (match c.quiet with
        | true => mk den stg n fs (Γ.goto c) (den c) s p
        | false => none))
    | .raise e => (match fs with
      | [] => none
      | g :: r => mk den stg n r g.1 (g.2.1 (.error e)) s g.2.2)
    | .rule _ k => mk den stg n fs Γ (k ()) s p
    | .at p' k => mk den stg n fs Γ (k ()) s p'
    | .load a _ k => (match getT s a with
      | some o => mk den stg n fs Γ (k o) s p
      | none => none)
    | .update a _ f k => (match Nat.blt a s.n with
      | true => (match s.tree.get a with
        | some o => (match alive o with
          | some _ => mk den stg n fs Γ (k ()) ⟨s.tree.set a f, s.n, s.life, s.gens, s.drawn, s.toks, s.os⟩ p
          | none => none)
        | none => none)
      | false => none)
    | .loadIfAlive a k => mk den stg n fs Γ (k (getT s a)) s p
    | .point _ k => mk den stg n fs Γ (k ()) s p
    | .alloc o k => (match ((s.tree.ins s.n o).get s.n).isSome with
      | true => frS ⟨s.tree.ins s.n o, s.n + 1, s.life, s.gens, s.drawn, s.toks, s.os⟩ fun s' => mk den stg n fs Γ (k s.n) s' p
      | false => none)
    | .fresh k => frS ⟨s.tree, s.n, s.life, s.gens, s.drawn, s.toks + 1, s.os⟩ fun s' => mk den stg n fs Γ (k s.toks) s' p
    | .ask k => mk den stg n fs Γ (k stg) s p
    | .call c h _ _ k => mk den stg n ((Γ, k, p) :: fs) (Γ.enter c h p) (den c) s p
    | .handled own k => mk den stg n fs Γ (k (match own with
      | true => Γ.own
      | false => Γ.handled)) s p
    | .stack k => mk den stg n fs Γ (k ((Γ.code, p) :: Γ.below)) s p
    | .thread k => mk den stg n fs Γ (k 0) s p
    | _ => none
section
variable {M : Model} {Q : Fin → Pos → Shared → Prop} {E : Value → Pos → Shared → Prop}
/-- what the tree and the calls on the list come to -/
def Wf (M : Model) (Q : Fin → Pos → Shared → Prop) (E : Value → Pos → Shared → Prop) : List Fr → Ctx → Sem Fin → Pos → Shared → Prop
  | [], Γ, t, p, s => Sem.wp M Γ t Q E p s
  | g :: r, Γ, t, p, s => Sem.wp M Γ t (Sem.finPost M Γ fun x s' => Wf M Q E r g.1 (g.2.1 x) g.2.2 s') (fun e _ s' => Wf M Q E r g.1 (g.2.1 (.error e)) g.2.2 s') p s
theorem Wf.call {fs : List Fr} {Γ : Ctx} {c : Code} {hd : Option Value} {gd : Bool} {l : List Value} {k : Result → Sem Fin} {p : Pos} {s : Shared}
    (x : Wf M Q E ((Γ, k, p) :: fs) (Γ.enter c hd p) (M.den c) p s) : Wf M Q E fs Γ (.call c hd gd l k) p s := by
  cases fs with
  | nil =>
    show Sem.wp M Γ (.call c hd gd l k) Q E p s
    rw [Sem.wp_call, wpCode_iff_wp]
    exact x
  | cons g r =>
    show Sem.wp M Γ (.call c hd gd l k) _ _ p s
    rw [Sem.wp_call, wpCode_iff_wp]
    exact x
/-- a tree of values, of flows as a tree of ends -/
def asV (t : Sem Value) : Sem Fin := t.bind fun v => .pure (.done (.ret v))
def asF (t : Sem Flow) : Sem Fin := t.bind fun f => .pure (.done f)
end
end HM
noncomputable section
namespace HM
open PySem PySem.W PySem.Calls PyProof.Rows HandSHeadRun
abbrev Γ0 : Ctx := ⟨.builtin "claim.caller" {}, none, none, [], none⟩
end HM
noncomputable section
namespace HM
open PySem PySem.W PySem.Calls PyProof.Rows HandSHeadRun
abbrev tk (p : Program) (w : World) : HeapKind p w (List L2.Key) := tupleKind (L2.mixKind p w)
abbrev sks (ks : List Str) : List L2.Key := ks.map Sum.inr
section
end
def strsB : List Str → List Value → Bool
  | [], [] => true
  | x :: xs, .str y _ :: vs => decide (x = y) && strsB xs vs
  | _, _ => false
def keyB (s : SharedT) (ks : List Str) (a : Addr) : Bool := match getT s a with
  | some ⟨.type T, _, .seq its _, _⟩ => (match decide (T = "tuple") with
    | true => strsB ks its.toList
    | false => false)
  | _ => false
def put (s : SharedT) (d : Addr) (e : DictEntry) (n : Nat) : SharedT := ⟨s.tree.set d (Obj.mapDictKeys fun l => l.push e), s.n, s.life, s.gens, s.drawn, s.toks + n, s.os⟩
abbrev Xs : Type := List (List Str × Addr × Value)
abbrev Ob2 : Type := Option Obj × Option Obj
def dicO (hh : List L2.Key → Int) (xs : Xs) (ep : Nat) : Obj := ⟨.type "dict", none, .dict (xs.map fun x => (⟨hh (sks x.1), .ref x.2.1, x.2.2⟩ : DictEntry)).toArray ep, #[]⟩
/-- what the rounds do; on the way what they lean on: the dict as it stands beside what it should be, the keys' tuples, a new key -/
def rounds (den : Code → Sem PySem.Fin) (stg : Setting) (Γ : Ctx) (hh : List L2.Key → Int) (d : Addr) : List (Sem Value × Sem Value × List Str) → Xs → SharedT → List Ob2 → Bool → Option (SharedT × Xs × List Ob2 × Bool)
  | [], xs, s, ob, b => some (s, xs, ob, b)
  | x :: r, xs, s, ob, b => (match mk den stg 200 [] Γ (asV x.1) s default with
    | some (.ret (.ref a), s1, p1) => (match mk den stg 200 [] Γ (asV x.2.1) s1 p1 with
      | some (.ret v, s2, _) => frS (put s2 d ⟨hh (sks x.2.2), .ref a, v⟩ (x.2.2.length + 1)) fun s3 =>
          rounds den stg Γ hh d r (xs ++ [(x.2.2, a, v)]) s3 ((s2.tree.get d, some (dicO hh xs xs.length)) :: ob)
            (b && (keyB s2 x.2.2 a && ((xs.all fun y => keyB s2 y.1 y.2.1) && (Nat.blt d s2.n && !(xs.any fun y => decide (y.1 = x.2.2))))))
      | _ => none)
    | _ => none)
/-- the position is of no matter to a tree that begins by standing somewhere -/
def Stands (t : Sem Value) : Prop := ∃ q k, t = .at q k
theorem Stands.wp {t : Sem Value} (h : Stands t) {M : Model} {Γ : Ctx} {Q : Value → Pos → Shared → Prop} {E : Value → Pos → Shared → Prop} {p p' : Pos} {s : Shared} (x : Sem.wp M Γ t Q E p' s) : Sem.wp M Γ t Q E p s := by
  obtain ⟨q, k, rfl⟩ := h
  rw [Sem.wp_at] at x ⊢
  exact x
section
end
end HM
noncomputable section
namespace HM
open PySem PySem.W PySem.Calls PyProof.Rows HandSHeadRun
end HM
noncomputable section
namespace HM
open PySem PySem.W PySem.Calls PyProof.Rows HandSHeadRun
section
end
abbrev envOf (p : Program) (cv : Value) (fa : Addr) : Env := { scope := p.main.scope, locals := mainNs, globals := mainNs, cells := [], code := cv, frame := some fa }
abbrev dNew : Obj := ⟨.type "dict", none, .dict #[] 0, #[]⟩
/-- the top's pieces as trees -/
structure Parts where
  code : Sem Value
  frame : Value → Sem Value
  start : Env → Sem Flow
  ahead : Env → Sem Flow
  pairs : Env → List (Sem Value × Sem Value × List Str)
  behind : Env → Addr → Sem Flow
def full (den : Code → Sem PySem.Fin) (p : Program) (w : World) (hh : List L2.Key → Int) (T : Parts) (N : Nat) (s0 : SharedT) (pX : Pos) : Option (SharedT × List Ob2 × Bool) :=
  match mk den ⟨p, w.params⟩ N [] Γ0 (asV T.code) s0 default with
  | some (.ret cv, s1, p1) => (match mk den ⟨p, w.params⟩ N [] Γ0 (asV (T.frame cv)) s1 p1 with
    | some (.ret (.ref fa), s2, p2) => (match mk den ⟨p, w.params⟩ N [] (Γ0.enter (.body (behindTheImports p) (envOf p cv fa)) none p2) (asF (T.start (envOf p cv fa))) s2 p2 with
      | some (.next, s3, p3) => (match mk den ⟨p, w.params⟩ N [] (Γ0.enter (.body (behindTheImports p) (envOf p cv fa)) none p2) (asF (T.ahead (envOf p cv fa))) s3 p3 with
        | some (.next, s4, p4) => (match ((s4.tree.ins s4.n dNew).get s4.n).isSome with
          | true => frS ⟨s4.tree.ins s4.n dNew, s4.n + 1, s4.life, s4.gens, s4.drawn, s4.toks, s4.os⟩ fun s5 =>
            (match rounds den ⟨p, w.params⟩ (Γ0.enter (.body (behindTheImports p) (envOf p cv fa)) none p2) hh s4.n (T.pairs (envOf p cv fa)) [] s5 [] true with
            | some (s6, xs, ob, b) => (match mk den ⟨p, w.params⟩ N [] (Γ0.enter (.body (behindTheImports p) (envOf p cv fa)) none p2) (asF (T.behind (envOf p cv fa) s4.n)) s6 pX with
              | some (.next, s7, _) => some (s7, ob, b)
              | _ => none)
            | none => none)
          | false => none)
        | _ => none)
      | _ => none)
    | _ => none)
  | _ => none
abbrev A1 : Around := { handled := none, depth := 100000, frames := none, guards := none, units := 1000 }
end HM
noncomputable section
namespace HM
open PySem PySem.W PySem.Calls PyProof.Rows HandSHeadRun
/-- the texts of a tuple that is written out -/
def strsOf : PySem.Expr → List Str
  | .Tuple es _ _ => es.filterMap fun e => match e with
    | .Constant (.str x) _ _ => some x
    | _ => none
  | _ => []
end HM
noncomputable section
namespace HM
open PySem PySem.W PySem.Calls PyProof.Rows HandSHeadRun DL
inductive Fc where
  | no (x : Str)
  | ex (x : Str)
  | con (x : Str) (d : D)
  | fn (x : Str)
def all2 {α β : Type} (f : α → β → Bool) : List α → List β → Bool
  | [], [] => true
  | a :: r, b :: t => f a b && all2 f r t
  | _, _ => false
def kdaB (K : PySem.W.Frag) : Nat → Value → D → Bool
  | 0, _, _ => false
  | n + 1, u, d => match u, d with
    | .none, .none => true
    | .bool b, .bool c => decide (b = c)
    | .int i _, .int j => decide (i = j)
    | .str x _, .str y => decide (x = y)
    | .ref a, .tuple ds => (match K.lookup a with
      | some ⟨.type T, _, .seq its _, _⟩ => decide (T = "tuple") && (Nat.ble its.size 1000 && all2 (kdaB K n) its.toList ds)
      | _ => false)
    | _, _ => false
theorem kda_ok {K : PySem.W.Frag} : ∀ {n : Nat} {u : Value} {d : D}, kdaB K n u d = true → KDa K u d
  | 0, _, _, h => by cases h
  | n + 1, u, d, h => by
    have all : ∀ {us : List Value} {ds : List D}, all2 (kdaB K n) us ds = true → KDaL K us ds := by
      intro us
      induction us with
      | nil =>
        intro ds q
        cases ds with
        | nil => exact .nil
        | cons _ _ => cases q
      | cons u us ih =>
        intro ds q
        cases ds with
        | nil => cases q
        | cons d ds =>
          obtain ⟨q1, q2⟩ := Bool.and_eq_true_iff.mp (show (kdaB K n u d && all2 (kdaB K n) us ds) = true from q)
          exact .cons (kda_ok q1) (ih q2)
    unfold kdaB at h
    split at h
    · exact .non
    · have e := of_decide_eq_true h
      subst e
      exact .bl _
    · have e := of_decide_eq_true h
      subst e
      exact .int _ _
    · have e := of_decide_eq_true h
      subst e
      exact .str _ _
    · split at h
      · rename_i T dd its m sl e
        obtain ⟨h1, h2⟩ := Bool.and_eq_true_iff.mp h
        obtain ⟨h2, h3⟩ := Bool.and_eq_true_iff.mp h2
        have eT : T = "tuple" := of_decide_eq_true h1
        subst eT
        have hz : its.size ≤ sizeLine := by
          have := Nat.le_of_ble_eq_true h2
          rw [sizeLine_eq]
          omega
        exact .tup e hz (all h3)
      · cases h
    · cases h
def Fc.ok (K : PySem.W.Frag) : Fc → Bool
  | .no x => He.eqO (PySem.W.nsIn K mainGlobals x) (some none)
  | .ex x => (He.Fa.glo x).ok K && (He.Fa.exc x).ok K
  | .con x d => (match PySem.W.nsIn K mainGlobals x with
    | some (some u) => kdaB K 9 u d
    | _ => false)
  | .fn x => (He.Fa.glo x).ok K && ((He.Fa.keep x).ok K && (He.Fa.code (x, none) x).ok K)
/-- a dict whose keys are tuples of texts, as it was written -/
def KTab2 : Type := List (List Str × D)
def ketB (K : PySem.W.Frag) : List DictEntry → KTab2 → Bool := all2 fun e q => (match e.key with
  | .ref a => (match K.lookup a with
    | some ⟨.type T, _, .seq its _, _⟩ => decide (T = "tuple") && (Nat.ble its.size 1000 && (strsB q.1 its.toList && kdaB K 9 e.val q.2))
    | _ => false)
  | _ => false)
def kesB (K : PySem.W.Frag) : List DictEntry → KTab → Bool := all2 fun e q => (match e.key with
  | .str x _ => decide (x = q.1) && kdaB K 9 e.val q.2
  | _ => false)
theorem kes_ok {K : PySem.W.Frag} : ∀ {es : List DictEntry} {tb : KTab}, kesB K es tb = true → KEs K es tb
  | [], [], _ => .nil
  | [], _ :: _, h => by cases h
  | _ :: _, [], h => by cases h
  | ⟨hh, key, v⟩ :: es, (y, d) :: tb, h => by
    obtain ⟨h1, h2⟩ := Bool.and_eq_true_iff.mp h
    cases key with
    | str x t =>
      obtain ⟨h3, h4⟩ := Bool.and_eq_true_iff.mp h1
      have e : x = y := of_decide_eq_true h3
      subst e
      exact .cons (kda_ok h4) (kes_ok h2)
    | _ => cases h1
def dicAt (K : PySem.W.Frag) (x : Str) : Option (Array DictEntry) := match K.lookup (He.ga K x) with
  | some ⟨.type T, none, .dict es _, sl⟩ => (match decide (T = "dict") && (sl.isEmpty && !((He.ga K x) == sysModules)) with
    | true => some es
    | false => none)
  | _ => none
/-- a dict of the module whose values are its functions -/
def kefB (K : PySem.W.Frag) : List DictEntry → List (Str × Str) → Bool := all2 fun e q => (match e.key with
  | .str x _ => decide (x = q.1) && ((He.Fa.glo q.2).ok K && (match e.val with
    | .ref a => a == He.ga K q.2
    | _ => false))
  | _ => false)
/-- what is looked at -/
structure Spec1 where
  facts : List Fc
  fns : List He.FnD
  tds : List (Str × KTab)
  tts : List (Str × KTab2)
  tfs : List (Str × List (Str × Str))
abbrev Al1 : Type := Bool × List He.FnV × List (Option (List (Option (Str × Int)))) × List (Option (List Int))
def obsK (F : Spec1) (K : PySem.W.Frag) : Al1 :=
  (F.facts.all (Fc.ok K) && (F.tds.all (fun q => (He.Fa.glo q.1).ok K && (match dicAt K q.1 with
    | some es => kesB K es.toList q.2
    | none => false)) && F.tts.all (fun q => (He.Fa.glo q.1).ok K && (match dicAt K q.1 with
    | some es => ketB K es.toList q.2
    | none => false)) && F.tfs.all (fun q => (He.Fa.glo q.1).ok K && (match dicAt K q.1 with
    | some es => kefB K es.toList q.2
    | none => false))),
   F.fns.map (fun d => He.fnObs K d.at_), F.tds.map (fun q => (dicAt K q.1).map fun es => es.toList.map He.keyOf) ++ F.tfs.map (fun q => (dicAt K q.1).map fun es => es.toList.map He.keyOf), F.tts.map fun q => (dicAt K q.1).map fun es => es.toList.map (·.hash))
def valK (F : Spec1) (p : Program) (w : World) : Al1 :=
  (true, F.fns.map He.FnD.val, F.tds.map (fun q => some (He.keysIn w.params (q.2.map (·.1)))) ++ F.tfs.map (fun q => some (He.keysIn w.params (q.2.map (·.1)))), F.tts.map fun q => some (q.2.map fun z => (tk p w).hash (sks z.1)))
def addrs (n0 n : Nat) : List Addr := mainGlobals :: List.range' n0 (n - n0)
end HM
noncomputable section
namespace DL
open PySem PySem.Spec PyProof.Rows L2
abbrev KTab3 : Type := List (List Str × D)
def strsOf : List D → Option (List Str)
  | [] => some []
  | .str x :: r => (strsOf r).map (x :: ·)
  | _ => none
def tgetD (t : KTab3) : D → Option D
  | .tuple ds => (strsOf ds).bind fun ks => t.lookup ks
  | _ => none
def tninD (t : KTab3) : D → Option Bool
  | .tuple ds => (strsOf ds).map fun ks => !(t.lookup ks).isSome
  | _ => none
def dTget (t : KTab3) (fb : Ev → Mn D) (ev : Ev) : Mn D := bnd (fb ev) fun y => lft (tgetD t y)
def dTnin (t : KTab3) (fb : Ev → Mn D) (ev : Ev) : Mn Bool := bnd (fb ev) fun y => lft (tninD t y)
variable {G : Gm} {k : Nat} {sc : Sx} {N : List Str}
end DL
noncomputable section
namespace DL
open PySem PySem.Spec PyProof.Rows L2
variable {G : Gm} {k : Nat} {sc : Sx} {N : List Str}
/-- a, b = x.pop(): the last item, a tuple, in two names -/
def popT (t : Tgt) (i : Nat) (ev : Ev) : Option (List D × List D) := (getO ev i).bind fun ds => (ds[ds.length - 1]?).bind fun d => (t.of d).map fun es => (ds.dropLast, es)
def sPopT (t : Tgt) (i : Nat) (ev : Ev) : Ms := bnS (lft (popT t i ev)) fun q rs => some (.nx (setE (ev.set i (.own q.1)) t.ix q.2), rs)
end DL
namespace DL
open PySem PySem.Spec PyProof.Rows L2
section
end
end DL
namespace DL
open PySem PySem.Spec PyProof.Rows L2
end DL
namespace DL
open PySem PySem.Spec PyProof.Rows L2
section
variable {ev : Ev}
@[simp] theorem dTget_eq (t : KTab3) (f : Ev → Mn D) : dTget t f ev = bnd (f ev) fun y => lft (tgetD t y) := rfl
@[simp] theorem dTnin_eq (t : KTab3) (f : Ev → Mn D) : dTnin t f ev = bnd (f ev) fun y => lft (tninD t y) := rfl
@[simp] theorem sPopT_eq (t : Tgt) (i : Nat) : sPopT t i ev = bnS (lft (popT t i ev)) fun q => nxM (setE (ev.set i (.own q.1)) t.ix q.2) := rfl
@[simp] theorem dLast_eq (e : Ev → Mn D) : dLast e ev = bnd (nox (e ev)) fun x => pur [x] := rfl
@[simp] theorem dMid_eq (src : Ev → Mn (List D)) (vs : List Nat) (rest : Ev → Mn (List D)) (t : Tgt) (c : Ev → Mn Bool) : dMid src vs rest t c ev = bnd (nox (src ev)) fun ds => gnGo rest t c (wipeE ev vs) ds := rfl
@[simp] theorem dCompN_eq (own : List Nat) (src rest : Ev → Mn (List D)) (t : Tgt) (c : Ev → Mn Bool) : dCompN own src rest t c ev = bnd (src ev) fun ds => bnd (gnGo rest t c (wipeE ev own) ds) fun out => lft (if out.length ≤ sizeLine then some (.list out) else none) := rfl
@[simp] theorem gnGo_nil (rest : Ev → Mn (List D)) (t : Tgt) (c : Ev → Mn Bool) : gnGo rest t c ev [] = pur [] := rfl
end
end DL
namespace DL
open PySem PySem.Spec PyProof.Rows L2
section
variable {G : Gm} {k : Nat} {sc : Sx} {N : List Str}
/-- x = [.. for ..] on one line, x a plain local -/
theorem P_setLc (i : Nat) {x : Str} {elt tg iter : Expr} {ifs : List Expr} {scope : Scope} {pos p p' : Pos} {fi : Ev → Mn (List D)} {t : Tgt} {fc : Ev → Mn Bool} {fe : Ev → Mn D} (own : List (Str × Nat)) (hi0 : SI G k sc N tg iter fi) (ht : PGt G k (sc.blk scope) N tg t) (hc : SP1 G k (sc.blk scope) N ifs fc) (he : SE G k (sc.blk scope) N elt fe)
    (hb : blkC N sc.sc scope own = true := by decide +kernel) (hix : ∀ i ∈ t.ix, i ∈ own.map (·.2) := by decide) (hi : N[i]? = some x := by rfl) (hl : plocB sc x = true := by rfl) (hkind : sc.sc.kind = .function := by rfl) (hline : (p'.line == pos.line) = true := by rfl) (hno : (scope.names.any fun (n, k) => n == x && (k == .local || k == .cell)) = false := by decide +kernel)
    (hs : ∀ env x, foldedSetIterable iter env x = pure x := by intro _ _; rfl) :
    SS G k sc N (.Assign [.Name x p'] (.ListComp elt [⟨tg, iter, ifs, 0⟩] scope pos) p) (pSet i (dComp (own.map (·.2)) fi t fc fe)) := fun X W g tk po => by
  have ok : BlkOk X.N X.env.scope scope own := by
    rw [g.hN, g.hsc]
    exact blkOk_by hb
  have nd : X.N.Nodup := by rw [g.hN]; exact g.nd
  obtain ⟨u, hu1, hu2⟩ := ht
  have pl : X.env.scope.names.lookup x = some .local := ploc_of g hl
  refine ps_imp (ps_setLc (i := i) (own := own) g.calm nd (by rw [g.hN]; exact hi) pl (sw_true (by rw [g.hsc]; exact hkind) pl hline hno) (hi0 X W g tk) ok (fun s H C cl fp => hu1 _ (g.blk s H scope cl C fp)) (fun s H C cl fp => hc _ W0 (g.blk s H scope cl C fp) L2.takes0) (fun s H C cl fp => he _ W0 (g.blk s H scope cl C fp) L2.takes0) (hs _)) fun D σ H h => ?_
  refine lc_imp (W := W) g hu2 hix _ _ _ ?_
  obtain ⟨M, r, Pr, ev, rs, oa, R, o, rs', e, w⟩ := h
  rcases bnS_some e with ⟨d, rs1, e1, e2⟩ | ⟨x, j, e1, rfl⟩
  · cases e2
    exact R.evE R.e (fun b m => .inl m) e1 (fun d' ed v H' R' s dv => by cases ed; exact w _ _ oa (R'.set1 dv)) fun _ _ ed => by cases ed
  · exact R.evE R.e (fun b m => .inl m) e1 (fun _ ed => by cases ed) fun y j ed => by cases ed; exact w
end
end DL
namespace DL
open PySem PySem.Spec PyProof.Rows L2
section
end
section
end
end DL
namespace DL
open PySem PySem.Spec PyProof.Rows L2
section
end
end DL
namespace DL
open PySem PySem.Spec PyProof.Rows L2
section
end
section
end
end DL
namespace DL
open PySem PySem.Spec PyProof.Rows L2
section
end
/-- what the data say of a dict -/
def IsDc (K : PySem.W.Frag) (H : Hp) (a : Addr) (ps : List Rk) : Prop := H a = some (dctO a ps) ∧ (∀ p ∈ ps, SqT K H p.2.1 (p.1.map lfV) ∧ p.1.all lfN = true) ∧ (ps.map (·.1)).Nodup
section
end
section
end
/-- the leaves of a flat tuple without texts -/
def lvs : List D → Option (List Leaf)
  | [] => some []
  | .none :: ds => (lvs ds).map (.none :: ·)
  | .int i :: ds => (lvs ds).map (.num i :: ·)
  | _ :: _ => none
/-- the keys of a dict, its values -/
def kvP : List (D × D) → Option (List (List Leaf × Int))
  | [] => some []
  | (.tuple ds, .int i) :: r => (lvs ds).bind fun ks => (kvP r).map ((ks, i) :: ·)
  | _ :: _ => none
def getKv (kv : List (List Leaf × Int)) (ks : List Leaf) : Option Int := (kv.find? fun p => decide (p.1 = ks)).map (·.2)
def getKD (x y z : D) : Option D := match x, y with
  | .dict kvs, .tuple ds => (kvP kvs).bind fun kv => (lvs ds).map fun ks => ((getKv kv ks).map PyData.int).getD z
  | _, _ => none
def isDct : D → Bool
  | .dict ((.str _, _) :: _) => false
  | .dict ((_, .none) :: _) => false
  | .dict _ => true
  | _ => false
def dGetK (fo fe ff : Ev → Mn D) (ev : Ev) : Mn D := bnd (fo ev) fun x => if isDct x = true then bnd (fe ev) fun y => bnd (ff ev) fun z => lft (getKD x y z) else fun _ => none
section
end
end DL
namespace DL
open PySem PySem.Spec PyProof.Rows L2
section
end
section
end
end DL
namespace DL
open PySem PySem.Spec PyProof.Rows L2
abbrev Kc := List Leaf × Int
def stK (kv : List Kc) (k : List Leaf) (i : Int) : List Kc := if (getKv kv k).isSome then kv.map (fun p => if p.1 = k then (p.1, i) else p) else kv ++ [(k, i)]
def addK (kv : List Kc) (k : List Leaf) : List Kc := stK kv k ((getKv kv k).getD 0 + 1)
def cntK (rows : List (List Leaf)) : List Kc := rows.foldl addK []
def strip (p : Rk) : Kc := (p.1, p.2.2)
def kcD (p : Kc) : D × D := (.tuple (p.1.map lfD), .int p.2)
end DL
namespace DL
open PySem PySem.Spec PyProof.Rows L2
section
variable {G : Gm} {k : Nat} {sc : Sx}
/-- the loop's state: i rows are counted -/
structure CntAt (K : PySem.W.Frag) (H0 : Hp) (a : Addr) (rows : List (List Leaf)) (i : Nat) (σ : L2.St) (H : Hp) (ps : List Rk) : Prop where
  same : Same H0 H
  at_ : H a = some (dctO a ps)
  keys : ∀ p ∈ ps, SqT K H0 p.2.1 (p.1.map lfV) ∧ p.1.all lfN = true
  nd : (ps.map (·.1)).Nodup
  is : ps.map strip = cntK (rows.take i)
  len : ps.length ≤ i
  var : σ[1]? = some (some (.ref a))
  sz : 2 < σ.length
theorem CntAt.dc {K : PySem.W.Frag} {H0 : Hp} {a : Addr} {rows : List (List Leaf)} {i : Nat} {σ : L2.St} {H : Hp} {ps : List Rk} (c : CntAt K H0 a rows i σ H ps) : IsDc K H a ps :=
  ⟨c.at_, fun p hp => ⟨sqt_same c.same (c.keys p hp).1, (c.keys p hp).2⟩, c.nd⟩
theorem CntAt.da {K : PySem.W.Frag} {M : Addr → Prop} {H0 : Hp} {a : Addr} {rows : List (List Leaf)} {σ : L2.St} {H : Hp} {ps : List Rk} (c : CntAt K H0 a rows rows.length σ H ps) : Da K M H (.ref a) (.dict ((cntK rows).map kcD)) := by
  have e : (cntK rows).map kcD = ps.map rkD := by
    rw [← List.take_length (l := rows), ← c.is, List.map_map]
    rfl
  rw [e]
  exact .dct c.at_ c.dc.2.1 c.nd
end
end DL
namespace DL
open PySem PySem.Spec PyProof.Rows L2
section
variable {G : Gm} {k : Nat} {sc : Sx} {N : List Str}
theorem lcN_core {tg iter elt : Expr} {ifs : List Expr} {gs : List Comprehension} {scope : Scope} {pos : Pos} {fi : Ev → Mn (List D)} {t : Tgt} {fc : Ev → Mn Bool} {den : Ev → Mn (List D)} {vs1 : List Nat} (own : List (Str × Nat)) (go : Cx → Addr → Go) (hi : SI G k sc N tg iter fi) (ht : PGt G k (sc.blk scope) N tg t) (hc : SP1 G k (sc.blk scope) N ifs fc)
    (rule : ∀ (Y : Cx) (P : Addr), LoopRule Y.prog Y.w Y.A (.ListComp elt (⟨tg, iter, ifs, 0⟩ :: gs) scope pos) 0 tg ifs Y.env (.ref P) (go Y P))
    (body : ∀ (Y : Cx) (M : Addr → Prop) (r : Rw) (P : Addr), Gd G k (sc.blk scope) N Y → Y.xe = NoX → M r.a → P ≠ r.a → Body Y G M r P den vs1 (go Y P))
    (hb : blkC N sc.sc scope own = true := by decide +kernel) (hix : ∀ i ∈ t.ix, i ∈ own.map (·.2) := by decide) (hv1 : ∀ i ∈ vs1, i ∈ own.map (·.2) := by decide) (hs : ∀ env x, foldedSetIterable iter env x = pure x := by intro _ _; rfl)
    {X : Cx} {W : WX} (g : Gd G k sc N X) (tk : Takes X W) {pins : List (Addr × Obj)} {s : Shared} {σ : L2.St} {H : Hp} {Q : VK} {pos' : Pos} {use : Option (Value → Sem Unit)} {Qf : Value → Shared → Prop} (I : Inv X pins σ H s) (h : tE G.K G.mg W (dCompN (own.map (·.2)) fi den t fc) σ H Q)
    (hRR : ∀ D C s' m H', Inv X pins σ H' s' → Q (.ref D) H' → s'.heap.Ns C m → FpOk X pins H' C → compPost (model X.prog X.w) X.A X.xe use Qf (.ref D) C (.ok .next) s') :
    wpAny (model X.prog X.w) X.A (comprehension (.ListComp elt (⟨tg, iter, ifs, 0⟩ :: gs) scope pos) scope X.env pos' (newList []) false (eval iter X.env) use) Qf X.xe s := by
  have ok : BlkOk X.N X.env.scope scope own := by
    rw [g.hN, g.hsc]
    exact blkOk_by hb
  have nd : X.N.Nodup := by rw [g.hN]; exact g.nd
  obtain ⟨u, hu1, hu2⟩ := ht
  have hfree : ∀ y ∈ scope.names, y.2 = .free → ∃ c, X.env.cells.lookup y.1 = some c := fun y hy e => (ok.free y hy e).elim (fun q => I.ok.has _ (.inl q)) fun q => I.ok.has _ (.inr q)
  obtain ⟨M, r, ev, rs, R, o, rs', e, w⟩ := h
  -- the source's way
  have src : tI G.K G.mg W fi σ H fun J H1 => ∃ ds rs1, RelE G.K M r σ H1 ev rs1 ∧ Stp r H H1 ∧ JOk G.K M J H1 ds ∧ ∃ out, gnGo den t fc (wipeE ev (own.map (·.2))) ds rs1 = some (.val out, rs') ∧ o = .val (.list out) ∧ out.length ≤ sizeLine ∧ Wan G.K G.mg M r H1 rs' (fun cls dd H' => W cls dd σ H') (fun d H' => ∀ v, Da G.K M H' v d → Q v H') o := by
    refine tI_bnd R e w fun ds rs1 H1 J R1 s1 jok e1 w1 => ⟨ds, rs1, R1, s1, jok, ?_⟩
    rcases bnd_some e1 with ⟨a, rs2, q1, q2⟩ | ⟨x, i, q1, _⟩
    · obtain ⟨d, q3, rfl, rfl⟩ := lft_some q2
      split at q3
      · rename_i hl
        cases q3
        exact ⟨a, q1, rfl, hl, w1⟩
      · cases q3
    · obtain ⟨xs, q⟩ := gnGo_val q1
      cases q
  refine wpAny_comprehension_free (use := use) rfl (hs _) (closure_ok hfree) ok.kind (fun y hy e => by rw [ok.uniq y hy, e]) (thn ((hi X W g tk).run pins s σ H _ I src) fun xv s1 hx => thn hx fun itv s2 h2 => ?_)
  obtain ⟨it, fp, tn, J, H2, ei, I2, T, st2, f2, ds, rs1, R1, sp1, jok, out, hgo, rfl, hlen, w1⟩ := h2
  subst ei
  refine wpAny_newObj_type (newEnv_comp ?_) (by show 0 ≤ sizeLine; decide)
  generalize hD : s2.heap.objs.size = P
  have hPn : H2 P = none := I2.hok.fresh (Nat.le_of_eq hD)
  generalize hs3 : ({ s2 with heap := s2.heap.push { cls := .type "list", data := .seq ([] : List Value).toArray } } : Shared) = s3
  have I3 : Inv X pins σ (upd H2 P (.lst [])) s3 := by
    rw [← hs3]
    refine I2.laid (t' := s2.toks) (fun b o e => Heap.get?_push_of_some _ e) (Nat.le_of_eq hD) ⟨Nat.zero_le _, [], 0, .nil, ?_⟩
    rw [← hD]
    exact Heap.get?_push_size _ rfl
  have h3 : s3.heap = s2.heap.push { cls := .type "list", data := .seq ([] : List Value).toArray } := by rw [← hs3]
  have f3 : ∀ b ∈ fp, FpOk X pins (upd H2 P (.lst [])) b ∧ b < s3.heap.objs.size := fun b hb => by
    have hlt : b < s2.heap.objs.size := let ⟨o, e, _⟩ := T.obj _ _ st2 b hb; Heap.lt_size e
    refine ⟨⟨?_, (f2 b hb).2⟩, by rw [h3, Heap.size_push]; exact Nat.lt_succ_of_lt hlt⟩
    rw [upd_ne (by rw [← hD]; exact Nat.ne_of_lt hlt)]
    exact (f2 b hb).1
  have st3 : tn 0 s3.heap := T.keep _ _ _ st2 fun b _ o e => by rw [h3]; exact Heap.get?_push_of_some _ e
  have I4 := block_start I3 ok nd f3
  generalize hce : compEnvC scope (cellsFrom (s3.heap.objs.size + 1) scope.names (cloFrom X.env.cells scope.names [])) s3.heap.objs.size X.env = ce at I4
  have gY : Gd G k (sc.blk scope) N (X.blk s3 (upd H2 P (.lst [])) scope ce fp) := by
    rw [← hce]
    exact g.blk s3 _ scope _ _ fp
  have cL : ce.locals = s3.heap.objs.size := by subst hce; rfl
  show codeAny _ _ (.compStart (.ListComp elt (⟨tg, iter, ifs, 0⟩ :: gs) scope pos) 0 (.ref it) (.ref P) (compEnvC scope (cellsFrom (s3.heap.objs.size + 1) scope.names (cloFrom X.env.cells scope.names [])) s3.heap.objs.size X.env)) (compPost (model X.prog X.w) X.A X.xe use Qf (.ref P) s3.heap.objs.size) { s3 with heap := pushCells (s3.heap.push { cls := .type "dict", data := .dict #[] }) scope.names }
  rw [hce]
  generalize hs4 : ({ s3 with heap := pushCells (s3.heap.push { cls := .type "dict", data := .dict #[] }) scope.names } : Shared) = s4 at I4
  have st4 : tn 0 s4.heap := T.keep _ _ _ st3 fun b _ o e => by rw [← hs4]; exact pushCells_keeps _ _ _ _ (Heap.get?_push_of_some _ e)
  generalize hH3 : upd H2 P (.lst []) = H3 at I3 I4 gY f3
  have hP3 : H3 P = some (.lst []) := by rw [← hH3]; exact upd_same
  have sm3 : Same H2 H3 := by rw [← hH3]; exact same_upd hPn
  have mr : M r.a := R1.mr
  have hPr : P ≠ r.a := fun z => by
    obtain ⟨⟨e1, _⟩, _⟩ := R1.row
    rw [← z, hPn] at e1
    cases e1
  have R3 : RelE G.K (And1 M P) r σ H3 ev rs1 := by
    refine ⟨.inl mr, fun b q => ?_, ?_, fun i s e => ?_, R1.len⟩
    · rcases q with q | q
      · obtain ⟨ys, e, mu⟩ := R1.ml b q
        exact ⟨ys, sm3 _ _ e, mu⟩
      · exact ⟨.lst [], by rw [q]; exact hP3, trivial⟩
    · obtain ⟨⟨e1, e1'⟩, e2⟩ := R1.row
      refine ⟨⟨sm3 _ _ e1, e1'⟩, ?_⟩
      rcases e2 with ⟨q, n⟩ | q
      · refine .inl ⟨?_, fun z => ?_⟩
        · rcases q with q | ⟨o, q⟩
          · exact .inl (sm3 _ _ q)
          · exact .inr ⟨o, sm3 _ _ q⟩
        · rcases z with z | z
          · exact n z
          · rcases q with q | ⟨o, q⟩
            · rw [z, hPn] at q; cases q
            · rw [z, hPn] at q; cases q
      · exact .inr q
    · have q := (R1.slots i s e).kp R1.ml (.of_same sm3)
      cases s with
      | hid => trivial
      | own _ => trivial
      | row => exact q
      | dat d =>
        obtain ⟨v, e1, dv⟩ := R1.slots i _ e
        exact ⟨v, e1, dv.on R1.ml (fun b z => z.elim .inl fun e => .inr (by rw [e]; exact hPn)) (.of_same sm3)⟩
  have nfp : ∀ b ∈ fp, H3 b = none := fun b hb => (f3 b hb).1.1
  have stat : ∀ (H' : Hp) (s' : Shared) (σ' : L2.St), Inv (X.blk s3 H3 scope ce fp) [] σ' H' s' → (∀ b ∈ fp, H' b = none) → ∀ b ∈ fp, FpOk (X.blk s3 H3 scope ce fp) [] H' b := fun H' s' σ' I' hn b hb =>
    ⟨hn b hb, (I'.ok.exf b hb).1, I'.ok.exfs b hb, .inl hb, fun x c e => (I'.ok.exf b hb).2 x c e, fun p hp => absurd (show p ∈ ([] : List (Addr × Obj)) ++ [] from hp) (by simp)⟩
  have hb3 := body (X.blk s3 H3 scope ce fp) M r P gY rfl mr hPr
  have loop := loop_go (Y := X.blk s3 H3 scope ce fp) (R := compPost (model X.prog X.w) X.A X.xe use Qf (.ref P) s3.heap.objs.size) g.calm (rule (X.blk s3 H3 scope ce fp) P) rfl mr hPr (hu1 _ gY) hu2 (hc _ W0 gY L2.takes0) hb3 hv1 hix (H1 := H2) (MJ := M)
    (rs' := rs') (pins := []) (σ := wipe σ (own.map (·.2))) (ev := wipeE ev (own.map (·.2))) (got := []) (out := out) (ds := ds) (it := it) (fp := fp) (tn := tn) (J := J)
    ⟨I4, R3.wiped _, [], hP3, .nil⟩ T st4 stat nfp jok (fun b z => z.elim .inl fun e => .inr (by rw [e]; exact hPn)) (fun H' sm => ?_) ?_ (by simpa using hlen) fun s' H' L' sm' => ?_
  · exact codeAny_compStart_list loop (T.self X.A 0 _ _ _ st4 loop)
  · intro b o nb e
    have hbP : b ≠ P := fun z => by rw [z, hPn] at e; cases e
    exact sm b o hbP (fun z => nb (z ▸ mr)) (sm3 b o e)
  · rw [wipeE_twice]
    exact hgo
  · have I6 := L'.inv
    have I7 : Inv X pins σ H' s' := I3.call' (ch := fp) I6.os I6.base I6.hok I6.bare fun b hb => ⟨(f3 b hb).1.2.2.2.1, (f3 b hb).1.2.1, (f3 b hb).1.2.2.2.2.1, (f3 b hb).1.2.2.2.2.2⟩
    have nC : H' s3.heap.objs.size = none := by
      have z : H' ce.locals = none := I6.free
      rw [cL] at z
      exact z
    obtain ⟨m, hn, _⟩ := I6.loc
    have hn : s'.heap.Ns ce.locals m := hn
    rw [cL] at hn
    obtain ⟨xs, hX, dX⟩ := L'.acc
    have s12 : Stp r H2 H' := fun b o n e => by
      have hbP : b ≠ P := fun z => by rw [z, hPn] at e; cases e
      exact sm' b o hbP n (sm3 b o e)
    exact hRR P _ s' m H' I7 (w1 H' s12 (row_sub L'.rel.row fun b m => .inl m) _ (.lst hX (R1.ml.fresh hPn) (dX.sub fun b m => .inl m))) hn (I3.fpOk (Nat.le_refl _) nC)
/-- x = [.. for .. for ..] on one line, x a plain local -/
theorem P_setLc2 (i : Nat) {x : Str} {tg iter tg1 iter1 elt : Expr} {ifs ifs1 : List Expr} {scope : Scope} {pos p p' : Pos} {fi fi1 : Ev → Mn (List D)} {t t1 : Tgt} {fc fc1 : Ev → Mn Bool} {fe : Ev → Mn D} (own : List (Str × Nat)) (vs1 : List Nat)
    (hi0 : SI G k sc N tg iter fi) (ht : PGt G k (sc.blk scope) N tg t) (hc : SP1 G k (sc.blk scope) N ifs fc) (hi1 : SI G k (sc.blk scope) N tg1 iter1 fi1) (ht1 : PGt G k (sc.blk scope) N tg1 t1) (hc1 : SP1 G k (sc.blk scope) N ifs1 fc1) (he : SE G k (sc.blk scope) N elt fe)
    (hb : blkC N sc.sc scope own = true := by decide +kernel) (hix : ∀ i ∈ t.ix, i ∈ own.map (·.2) := by decide) (hv1 : ∀ i ∈ vs1, i ∈ own.map (·.2) := by decide) (hix1 : ∀ i ∈ t1.ix, i ∈ vs1 := by decide)
    (hi : N[i]? = some x := by rfl) (hl : plocB sc x = true := by rfl) (hkind : sc.sc.kind = .function := by rfl) (hline : (p'.line == pos.line) = true := by rfl) (hno : (scope.names.any fun (n, k) => n == x && (k == .local || k == .cell)) = false := by decide +kernel)
    (hs : ∀ env x, foldedSetIterable iter env x = pure x := by intro _ _; rfl) (hs1 : ∀ env x, foldedSetIterable iter1 env x = pure x := by intro _ _; rfl) :
    SS G k sc N (.Assign [.Name x p'] (.ListComp elt [⟨tg, iter, ifs, 0⟩, ⟨tg1, iter1, ifs1, 0⟩] scope pos) p) (pSet i (dCompN (own.map (·.2)) fi (dMid fi1 vs1 (dLast fe) t1 fc1) t fc)) := fun X W g tk po => by
  obtain ⟨u1, hu1, hu1'⟩ := ht1
  have nd : X.N.Nodup := by rw [g.hN]; exact g.nd
  have pl : X.env.scope.names.lookup x = some .local := ploc_of g hl
  refine ⟨fun pins s σ H D I h => ?_⟩
  obtain ⟨M, r, Pr, ev, rs, oa, R, o, rs', e, w⟩ := h
  have h : tE G.K G.mg W (dCompN (own.map (·.2)) fi (dMid fi1 vs1 (dLast fe) t1 fc1) t fc) σ H (fun v H1 => gName i v σ H1 D.nx) := by
    rcases bnS_some e with ⟨d, rs1, e1, e2⟩ | ⟨x, j, e1, rfl⟩
    · cases e2
      exact R.evE R.e (fun b m => .inl m) e1 (fun d' ed v H' R' s dv => by cases ed; exact w _ _ oa (R'.set1 dv)) fun _ _ ed => by cases ed
    · exact R.evE R.e (fun b m => .inl m) e1 (fun _ ed => by cases ed) fun y j ed => by cases ed; exact w
  rw [exec_Assign_Name_used _ _ _ _ (sw_true (by rw [g.hsc]; exact hkind) pl hline hno)]
  refine wpAny_bind (wpAny_standAt (wpAny_bind ?_))
  show wpAny _ X.A (do let _ ← comprehension (.ListComp elt [⟨tg, iter, ifs, 0⟩, ⟨tg1, iter1, ifs1, 0⟩] scope pos) scope X.env (firstIterPos [⟨tg, iter, ifs, 0⟩, ⟨tg1, iter1, ifs1, 0⟩] pos) (newList []) false (eval iter X.env) (some (assign (.Name x p') X.env))) _ _ s
  refine wpAny_bind (thn (lcN_core (Qf := fun _ s' => SP X pins D .next s') own (fun Y P => goOut Y.prog Y.w Y.A _ 1 iter1 Y.env (.ref P)) hi0 ht hc (fun Y P => rule_out out0 (hs1 _)) (fun Y M r P g hx mr hP => ?_) hb hix hv1 hs g tk I h fun L C s' m H' I' q hn f => ?_) fun _ s' hq => wpAny_pure (wpAny_pure hq))
  · exact body_out g.calm start1 (rule_in in1) hx mr hP (hi1 Y W0 g L2.takes0) (hu1 Y g) hu1' (hc1 Y W0 g L2.takes0) (body_in (he Y W0 g L2.takes0) hx hP mr) (fun i m => (nomatch m)) hix1
  show wpAny _ _ (assign (.Name x p') X.env (.ref L)) _ _ _
  refine wpAny_assign_Name (store_ok2 (v := V.ref L) I' nd (by rw [g.hN]; exact hi) (.inl pl) rfl (fun s2 I2 ⟨a, sb, ha⟩ => ?_) (.inr pl))
  obtain ⟨f0, f1, f2, f3, f4, f5⟩ := f
  have haC : C ≠ a := by
    rcases ha with z | z
    · rw [z]; exact f1
    · exact fun e => f4 x a z e.symm
  refine ⟨m, hn.sameBut sb haC, fun h3 sb3 => ?_⟩
  exact ⟨_, H', I2.turned (t' := s2.toks) (fun b o hb e => (sb3.2 b hb).trans e) f0 f1 f3 f4 f5, q⟩
end
end DL
namespace DL
open PySem PySem.Spec PyProof.Rows L2
section
variable {G : Gm} {k : Nat} {sc : Sx} {N : List Str}
def dStar (f : Ev → Mn D) (g : Ev → Mn (List Slot)) (ev : Ev) : Mn (List Slot) := bnd (f ev) fun x => bnd (lft (itmD x)) fun ds => bnd (g ev) fun ss => pur (ds.map .dat ++ ss)
theorem argl_app {K : PySem.W.Frag} {M : Addr → Prop} {r : Rw} {H : Hp} : ∀ {xs vs : List V} {ds : List D} {ss : List Slot}, DaL K M H xs ds → ArgL K M r H vs ss → ArgL K M r H (xs ++ vs) (ds.map .dat ++ ss)
  | _, _, _, _, .nil, q => q
  | _, _, _, _, .cons h t, q => .dat h (argl_app t q)
theorem a_star {e : Expr} {es : List Expr} {p : Pos} {f : Ev → Mn D} {g : Ev → Mn (List Slot)} (h : SE G k sc N e f) (ht : SA G k sc N es g) (hs : ∀ env, starEach (.Starred e p :: es) env = (true, eval e env) :: starEach es env := by intro _; rfl) : SA G k sc N (.Starred e p :: es) (dStar f g) := fun X W gd tk => by
  refine pa_imp (StX.pa_star (h X W gd tk) (ht X W gd tk) (hs _)) fun σ H Q h => ?_
  obtain ⟨M, r, ev, rs, R, o, rs', e, w⟩ := h
  refine tE_bnd R e w fun x rs1 H1 v R1 s1 d1 e1 w1 => ?_
  rcases bnd_some e1 with ⟨ds, rs2, e2, e3⟩ | ⟨y, j, e2, rfl⟩
  · obtain ⟨ds', e4, e5, rfl⟩ := lft_some e2
    cases e5
    have go : ∀ {xs : List V}, DaL G.K M H1 xs ds → tAr G.K G.mg W g σ H1 fun ys H2 => Q (xs ++ ys) H2 := fun {xs} t => by
      refine tAr_bnd R1 e3 w1 fun ss rs3 H3 vs R3 s3 d3 e6 w3 => ?_
      cases e6
      exact w3 H3 (.refl _) R3.row _ (argl_app (t.kp R1.ml (s3.kp R.mr)) d3)
    cases d1 with
    | lst h n t => cases e4; exact ⟨_, _, rfl, .inr (by rw [gd.hK]; exact .of h), go t⟩
    | tup h t => cases e4; exact ⟨_, _, rfl, .inl (by rw [gd.hK]; exact h), go t⟩
    | _ => cases e4
  · obtain ⟨_, _, e5, _⟩ := lft_some e2
    cases e5
end
end DL
namespace DL
open PySem PySem.Spec PyProof.Rows L2
section
end
end DL
namespace DL
open PySem PySem.Spec PyProof.Rows L2
theorem paired_get {α β : Type} {F : α → β → Prop} : ∀ {l : List α} {m : List β}, Paired F l m → ∀ (i : Nat) b, m[i]? = some b → ∃ a, l[i]? = some a ∧ F a b
  | _, _, .nil, i, b, e => by simp at e
  | _, _, .cons r t, 0, b, e => by simp at e; subst e; exact ⟨_, rfl, r⟩
  | _, _, .cons r t, i + 1, b, e => by
    obtain ⟨a, h1, h2⟩ := paired_get t i b (by simpa using e)
    exact ⟨a, by simpa using h1, h2⟩
abbrev Tr := Addr × Str × V
def trK (tr : List Tr) : List (Key × V) := tr.map fun t => (.inr t.2.1, t.2.2)
theorem tk_tr : ∀ tr : List Tr, tkV (tr.map (·.2.1)) (tr.map (·.2.2)) = trK tr
  | [] => rfl
  | t :: tr => by
    show _ :: tkV (tr.map (·.2.1)) (tr.map (·.2.2)) = _
    rw [tk_tr tr]
    rfl
def rDictL (X : Cx) : List V → Hp → VK → Prop := fun vs H Q => ∃ (a : Addr) (tr : List Tr), vs = [.ref a] ∧ SqL X.K H a (tr.map fun t => V.ref t.1) ∧ (∀ t ∈ tr, SqT X.K H t.1 [.str t.2.1, t.2.2]) ∧ (tr.map (·.2.1)).Nodup ∧ ∀ p, H p = none → Q (.ref p) (upd H p (.dK (tkV (tr.map (·.2.1)) (tr.map (·.2.2)))))
section
variable {X : Cx} {pins : List (Addr × Obj)} {σ : L2.St} {H : Hp} {s : Shared}
def TrV (h : Heap) (t : Tr) (p : Value × Value) : Prop := RelV (.str t.2.1) p.1 ∧ RelV t.2.2 p.2 ∧ h.IsTuple t.1 #[p.1, p.2]
theorem tr_vals (I : Inv X pins σ H s) : ∀ {tr : List Tr}, (∀ t ∈ tr, SqT X.K H t.1 [.str t.2.1, t.2.2]) → ∃ ps : List (Value × Value), Paired (TrV s.heap) tr ps
  | [], _ => ⟨[], .nil⟩
  | t :: tr, h => by
    obtain ⟨ps, r⟩ := tr_vals I fun t ht => h t (List.mem_cons_of_mem _ ht)
    obtain ⟨its, rv, it, _⟩ := I.tuple (h t List.mem_cons_self)
    obtain ⟨u, v, rfl, r1, r2⟩ := Vals.two rv
    exact ⟨(u, v) :: ps, .cons ⟨r1, r2, it⟩ r⟩
theorem refs_vals : ∀ {tr : List Tr} {us : List Value}, Vals (tr.map fun t => V.ref t.1) us → us = tr.map fun t => Value.ref t.1
  | [], _, r => by rw [List.map_nil] at r; cases r; rfl
  | t :: tr, _, r => by
    rw [List.map_cons] at r
    cases r with
    | cons h q => rw [refs_vals q]; cases h; rfl
def kvsOf : List Tr → List (Value × Value) → List (Key × Value)
  | t :: tr, p :: ps => (.inr t.2.1, p.2) :: kvsOf tr ps
  | _, _ => []
theorem kvs_kv {h : Heap} : ∀ {tr : List Tr} {ps : List (Value × Value)}, Paired (TrV h) tr ps → KV (trK tr) (kvsOf tr ps)
  | _, _, .nil => .nil
  | _, _, .cons r t => .cons ⟨rfl, r.2.1⟩ (kvs_kv t)
theorem kvs_keys {h : Heap} : ∀ {tr : List Tr} {ps : List (Value × Value)}, Paired (TrV h) tr ps → (kvsOf tr ps).map (·.1) = (tr.map (·.2.1)).map Sum.inr
  | _, _, .nil => rfl
  | _, _, .cons r t => congrArg _ (kvs_keys t)
theorem kvs_get {h : Heap} {P : Program} {w : World} : ∀ {tr : List Tr} {ps : List (Value × Value)}, Paired (TrV h) tr ps → ∀ (i : Nat) k v, ps[i]? = some (k, v) → ∃ x : Key, (kvsOf tr ps)[i]? = some (x, v) ∧ (mixKind P w).is x k = true
  | _, _, .nil, i, k, v, e => by simp at e
  | _, _, .cons r t, 0, k, v, e => by
    simp at e
    subst e
    exact ⟨_, rfl, kV_is (k := .inr _) r.1⟩
  | _, _, .cons r t, i + 1, k, v, e => by
    obtain ⟨x, h1, h2⟩ := kvs_get t i k v (by simpa using e)
    exact ⟨x, h1, h2⟩
theorem cr_dictL (hc : X.calm = true) : CallR X (.type "dict") (rDictL X) := by
  intro pins s σ H vs us Q I r h
  obtain ⟨a, tr, rfl, hl, ht, hn, q⟩ := h
  rw [Vals.ref1 r]
  obtain ⟨its, rv, pl, hz⟩ := I.list hl
  have ei := refs_vals rv
  subst ei
  obtain ⟨ps, rp⟩ := tr_vals I ht
  have l1 : tr.length = ps.length := Paired.length rp
  have l2 : (kvsOf tr ps).length = ps.length := by
    have := congrArg List.length (kvs_keys rp)
    simpa [l1] using this
  obtain ⟨o, n, g1, g2, g3, g4⟩ := pl
  refine call_dict_pairs (knd := mixKind X.prog X.w) (kvs := kvsOf tr ps) (PairArg.list a _ (fun j => ((tr[j]?).map (·.1)).getD 0) ps) (I.ok.hd hc) ⟨⟨o, n, g1, g2, g3, g4⟩, by simp [l1], fun j k v e => ?_⟩ ⟨l2, fun i key v e => ?_⟩ (by rw [← l1]; simpa using hz) fun h' tk hd hk => ?_
  · obtain ⟨t, e1, r1, r2, r3⟩ := paired_get rp j (k, v) e
    dsimp only
    rw [e1]
    refine ⟨?_, .inl r3⟩
    simp [e1]
  · exact kvs_get rp i key v e
  · have hm : (s.heap.objs.size == sysModules) = false := beq_eq_false_iff_ne.mpr (Nat.ne_of_gt I.big)
    have nd : ((kvsOf tr ps).map (·.1)).Nodup := by
      rw [kvs_keys rp]
      exact List.Pairwise.map _ (fun a b n z => n (Sum.inr.inj z)) hn
    rw [merged_nil_of_nodup _ nd] at hd
    have hz' : tr.length ≤ sizeLine := by simpa using hz
    exact ⟨.ref _, _, I.laid (t' := tk) (fun b u e => hk b u (by simp) e) (Nat.le_refl _) (show ObjOk X.prog X.w _ h' _ (.dK (tkV (tr.map (·.2.1)) (tr.map (·.2.2)))) from by rw [tk_tr]; exact ⟨by unfold trK; rw [List.length_map]; exact hz', hm, _, kvs_kv rp, hd⟩), rfl, q _ (I.hok.fresh (Nat.le_refl _))⟩
end
end DL
namespace DL
open PySem PySem.Spec PyProof.Rows L2
section
variable {G : Gm} {k : Nat} {sc : Sx} {N : List Str}
def lookS : List (D × D) → Str → Option D
  | (.str x, d) :: r, z => if x = z then some d else lookS r z
  | _ :: r, z => lookS r z
  | [], _ => none
def gixD : D → D → Option D
  | .dict kvs, .str z => lookS kvs z
  | _, _ => none
theorem lookS_rk (z : Str) : ∀ ps : List Rk, lookS (ps.map rkD) z = none
  | [] => rfl
  | p :: ps => lookS_rk z ps
theorem look_da {K : PySem.W.Frag} {M : Addr → Prop} {H : Hp} {z : Str} {d : D} : ∀ {kvs : List (Str × D)} {xs : List V}, DaL K M H xs (kvs.map (·.2)) → lookS (kvs.map skD) z = some d → ∃ v, valV (tkV (kvs.map (·.1)) xs) (.inr z : Key) = some v ∧ Da K M H v d
  | [], _, _, e => by cases e
  | p :: kvs, _, .cons (v := v) h t, e => by
    replace e : (if p.1 = z then some p.2 else lookS (kvs.map skD) z) = some d := e
    split at e
    · rename_i hz
      cases e
      subst hz
      exact ⟨v, by show valV ((Sum.inr p.1, v) :: _) _ = _; unfold valV; rw [List.find?_cons_of_pos (by simp)]; rfl, h⟩
    · rename_i hz
      obtain ⟨u, h1, h2⟩ := look_da t e
      refine ⟨u, ?_, h2⟩
      show valV ((Sum.inr p.1, v) :: tkV (kvs.map (·.1)) _) _ = _
      unfold valV at h1 ⊢
      rw [List.find?_cons_of_neg (by simpa using fun q => hz q)]
      exact h1
theorem e_gix (hk : 1 ≤ k) {a b : Expr} {fa fb : Ev → Mn D} {p : Pos} (ha : SE G k sc N a fa) (hb : SE G k sc N b fb) (hs : NoSl b := by intro _ _; rfl) : SE G k sc N (.Subscript a b p) (dBin gixD fa fb) := by
  refine e_bin (rl := fun X x y H Q => ∃ a v, x = .ref a ∧ DGet H a y (some v) ∧ Q v H) ha hb (fun X ta tb g h1 h2 => pe_dget (by have := units65 g hk; omega) h1 h2 hs) fun X M H x y dx dy d Q g ml hx hy e hq => ?_
  cases hy with
  | str z =>
    cases hx with
    | txd h n l t =>
      obtain ⟨v, h1, h2⟩ := look_da t e
      exact ⟨_, v, rfl, by rw [← h1]; exact DGet.k (k := (Sum.inr z : Key)) h, hq v H (.refl _) h2⟩
    | dct h t n =>
      rename_i ps
      replace e : lookS (ps.map rkD) z = some d := e
      rw [lookS_rk] at e
      cases e
    | _ => cases e
  | _ => cases hx <;> cases e
def pairsL : List D → Option (List (Str × D))
  | [] => some []
  | .tuple [.str z, d] :: r => (pairsL r).map ((z, d) :: ·)
  | _ => none
def pairsD : D → Option (List (Str × D))
  | .list ds => (pairsL ds).bind fun kvs => if (kvs.map (·.1)).Nodup then some kvs else none
  | _ => none
theorem pairs_da {K : PySem.W.Frag} {M : Addr → Prop} {H : Hp} : ∀ {ds : List D} {kvs : List (Str × D)} {vs : List V}, pairsL ds = some kvs → DaL K M H vs ds →
    ∃ tr : List Tr, vs = tr.map (fun t => V.ref t.1) ∧ (∀ t ∈ tr, SqT K H t.1 [.str t.2.1, t.2.2]) ∧ tr.map (·.2.1) = kvs.map (·.1) ∧ DaL K M H (tr.map (·.2.2)) (kvs.map (·.2))
  | [], kvs, vs, e, h => by cases h; cases e; exact ⟨[], rfl, (fun t h => nomatch h), rfl, .nil⟩
  | d :: ds, kvs, _, e, .cons h t => by
    unfold pairsL at e
    split at e
    · rename_i e0; cases e0
    · rename_i z d' r e0
      cases e0
      obtain ⟨k2, e2, rfl⟩ := Option.map_eq_some_iff.mp e
      obtain ⟨tr, h1, h2, h3, h4⟩ := pairs_da e2 t
      cases h with
      | tup g1 g2 =>
        cases g2 with
        | cons q1 q2 =>
          cases q1
          cases q2 with
          | cons q3 q4 =>
            cases q4
            rename_i a v
            refine ⟨(a, z, v) :: tr, by rw [h1]; rfl, fun t ht => ?_, by rw [List.map_cons, List.map_cons, h3], .cons q3 h4⟩
            rcases List.mem_cons.mp ht with rfl | ht
            · exact g1
            · exact h2 t ht
    · cases e
def sOwnD (i : Nat) (f : Ev → Mn D) (ev : Ev) : Ms := bnS (bnd (f ev) fun d => lft (pairsD d)) fun kvs rs => some (.nx (ev.set i (.own (.d kvs))), rs)
theorem s_ownD (i : Nat) {x : Str} {e : Expr} {p p1 p2 p3 : Pos} {f : Ev → Mn D} (h : SE G k sc N e f) (hm : Mg0 G "dict") (hg : glB sc "dict" = true := by rfl) (hi : N[i]? = some x := by rfl) (hl : locB sc x = true := by rfl)
    (he : ∀ env, starEach [e] env = (false, eval e env) :: starEach [] env := by intro _; rfl) (hpl : ∀ env, (backTo p2 (starEach [] env)).any (·.1) = false := by intro _; rfl)
    (hs : ∀ env, env.scope = sc.sc → swapsWith (.Call (.Name "dict" p1) [e] [] p2) (some (.Name x p)) p3.line env = pure false := by intro env h; first | rfl | (cases env; cases h; rfl)) :
    SS G k sc N (.Assign [.Name x p] (.Call (.Name "dict" p1) [e] [] p2) p3) (sOwnD i f) := fun X W g tk po => by
  refine ps_imp (ps_set (i := i) (by rw [g.hN]; exact g.nd) (by rw [g.hN]; exact hi) (loc_of g hl).1 (pe_callTy (cr_dictL g.calm) (gl_of g hg) (by rw [g.hmg]; exact hm) PyProof.Rows.boot_dict (pa_cons (h X W g tk) pa_nil (he _)) (by decide) (by decide) (he _) (hpl _)) (hs _ g.hsc) (loc_of g hl).2) fun D σ H h => ?_
  obtain ⟨M, r, Pr, ev, rs, oa, R, o, rs', e, w⟩ := h
  rcases bnS_some e with ⟨kvs, rs1, e1, e2⟩ | ⟨x, j, e1, rfl⟩
  · cases e2
    rcases bnd_some e1 with ⟨d, rs2, e3, e4⟩ | ⟨_, _, _, e4⟩
    · obtain ⟨k2, e5, e6, rfl⟩ := lft_some e4
      cases e6
      refine R.evE R.e (fun b m => .inl m) e3 (fun d' ed v H' R' s dv => ?_) fun _ _ ed => by cases ed
      cases ed
      cases dv with
      | lst l1 n1 t1 =>
        rename_i ds
        obtain ⟨k3, e6, e7⟩ := Option.bind_eq_some_iff.mp (show (pairsL ds).bind _ = some kvs from e5)
        split at e7
        case isFalse => cases e7
        rename_i nd
        cases e7
        obtain ⟨tr, h1, h2, h3, h4⟩ := pairs_da e6 t1
        subst h1
        refine ⟨_, tr, rfl, .inl (.of l1), by rw [g.hK]; exact h2, by rw [h3]; exact nd, fun p hp => ?_⟩
        rw [h3]
        exact w _ _ _ (R'.newOwn (ds := .d kvs) hp h4)
      | _ => cases e5
    · cases e4
  · rcases bnd_some e1 with ⟨d, rs2, e3, e4⟩ | ⟨y, j', e3, e4⟩
    · obtain ⟨ds', e5, e6, rfl⟩ := lft_some e4
      cases e6
    · cases e4
      exact R.evE R.e (fun b m => .inl m) e3 (fun _ ed => by cases ed) fun y j ed => by cases ed; exact w
def putS (kvs : List (Str × D)) (z : Str) (d : D) : List (Str × D) := if z ∈ kvs.map (·.1) then kvs.map (fun p => if p.1 = z then (p.1, d) else p) else kvs ++ [(z, d)]
def getOD (ev : Ev) (i : Nat) : Option (List (Str × D)) := match ev[i]? with
  | some (.own (.d kvs)) => some kvs
  | _ => none
theorem getOD_some {ev : Ev} {i : Nat} {kvs : List (Str × D)} (h : getOD ev i = some kvs) : ev[i]? = some (.own (.d kvs)) := by
  unfold getOD at h
  split at h
  · rename_i e; cases h; exact e
  · cases h
def putO (ev : Ev) (i : Nat) : D → D → Option (List (Str × D))
  | .str z, d => (getOD ev i).bind fun kvs => if kvs.length < 1000 then some (putS kvs z d) else none
  | _, _ => none
def putsM (i : Nat) : List (Ev → Mn D) → List D → Ev → Ms
  | [], [], ev => nxM ev
  | fk :: fks, d :: ds, ev => bnS (bnd (nox (fk ev)) fun y => lft (putO ev i y d)) fun kvs => putsM i fks ds (ev.set i (.own (.d kvs)))
  | _, _, _ => stS
theorem any_tk {z : Str} : ∀ {ks : List Str} {xs : List V}, ks.length = xs.length → ((tkV ks xs).any fun kv => decide (kv.1 = (Sum.inr z : Key))) = decide (z ∈ ks)
  | [], [], _ => by simp [tkV]
  | [], _ :: _, e => nomatch e
  | _ :: _, [], e => nomatch e
  | y :: ks, x :: xs, e => by
    have ih := any_tk (z := z) (ks := ks) (xs := xs) (Nat.succ.inj e)
    show (decide ((Sum.inr y : Key) = Sum.inr z) || (tkV ks xs).any _) = _
    rw [ih]
    by_cases h : y = z
    · subst h; simp
    · have h1 : ¬ (Sum.inr y : Key) = Sum.inr z := fun q => h (Sum.inr.inj q)
      have h2 : ¬ z = y := fun q => h q.symm
      simp [h1, h2]
theorem tk_app : ∀ {ks : List Str} {xs : List V} {z : Str} {v : V}, ks.length = xs.length → tkV ks xs ++ [(.inr z, v)] = tkV (ks ++ [z]) (xs ++ [v])
  | [], [], _, _, _ => rfl
  | [], _ :: _, _, _, e => nomatch e
  | _ :: _, [], _, _, e => nomatch e
  | y :: ks, x :: xs, z, v, e => congrArg _ (tk_app (ks := ks) (xs := xs) (Nat.succ.inj e))
theorem tk_len : ∀ {ks : List Str} {xs : List V}, (tkV ks xs).length ≤ ks.length
  | [], _ => by simp [tkV]
  | _ :: _, [] => by simp [tkV]
  | _ :: ks, _ :: xs => by
    have := tk_len (ks := ks) (xs := xs)
    simp only [tkV, List.length_cons]
    omega
theorem put_map {K : PySem.W.Frag} {M : Addr → Prop} {H : Hp} {z : Str} {v : V} {d : D} (hv : Da K M H v d) : ∀ {kvs : List (Str × D)} {xs : List V}, DaL K M H xs (kvs.map (·.2)) →
    ∃ ys, (tkV (kvs.map (·.1)) xs).map (fun kv => if kv.1 = (Sum.inr z : Key) then (kv.1, v) else kv) = tkV ((kvs.map fun p => if p.1 = z then (p.1, d) else p).map (·.1)) ys ∧ DaL K M H ys ((kvs.map fun p => if p.1 = z then (p.1, d) else p).map (·.2))
  | [], _, .nil => ⟨[], rfl, .nil⟩
  | p :: kvs, _, .cons (v := u) h t => by
    obtain ⟨ys, h1, h2⟩ := put_map hv t
    by_cases hz : p.1 = z
    · refine ⟨v :: ys, ?_, ?_⟩
      · show (if (Sum.inr p.1 : Key) = Sum.inr z then _ else _) :: _ = _
        rw [if_pos (by rw [hz])]
        show _ = tkV ((if p.1 = z then (p.1, d) else p).1 :: _) (v :: ys)
        rw [if_pos hz]
        show _ = (Sum.inr p.1, v) :: tkV _ ys
        rw [← h1]
      · show DaL K M H (v :: ys) ((if p.1 = z then (p.1, d) else p).2 :: _)
        rw [if_pos hz]
        exact .cons hv h2
    · refine ⟨u :: ys, ?_, ?_⟩
      · show (if (Sum.inr p.1 : Key) = Sum.inr z then _ else _) :: _ = _
        rw [if_neg fun q => hz (Sum.inr.inj q)]
        show _ = tkV ((if p.1 = z then (p.1, d) else p).1 :: _) (u :: ys)
        rw [if_neg hz]
        show _ = (Sum.inr p.1, u) :: tkV _ ys
        rw [← h1]
      · show DaL K M H (u :: ys) ((if p.1 = z then (p.1, d) else p).2 :: _)
        rw [if_neg hz]
        exact .cons h h2
theorem put_da {K : PySem.W.Frag} {M : Addr → Prop} {H : Hp} {z : Str} {v : V} {d : D} {kvs : List (Str × D)} {xs : List V} (hv : Da K M H v d) (t : DaL K M H xs (kvs.map (·.2))) :
    ∃ ys, putK (tkV (kvs.map (·.1)) xs) (.inr z : Key) v = tkV ((putS kvs z d).map (·.1)) ys ∧ DaL K M H ys ((putS kvs z d).map (·.2)) := by
  have hl : (kvs.map (·.1)).length = xs.length := by
    have := t.length
    simpa using this.symm
  unfold putK putS
  rw [any_tk hl]
  by_cases hz : z ∈ kvs.map (·.1)
  · rw [if_pos (by simpa using hz), if_pos hz]
    exact put_map hv t
  · rw [if_neg (by simpa using hz), if_neg hz]
    refine ⟨xs ++ [v], ?_, ?_⟩
    · rw [tk_app hl, List.map_append]
      rfl
    · rw [List.map_append]
      exact t.append (.cons hv .nil)
variable {K : PySem.W.Frag} {mg : Str → Option Value} {M : Addr → Prop} {H H' H1 : Hp} {r : Rw} {σ σ' : L2.St} {ev ev' : Ev} {rs rs' : RS} {W : WX} {Pr : Addr → HO → Prop} {oa : Nat → Addr}
/-- beside an own thing that changes, data stay -/
theorem RelS.mutDa (R : RelS K M r Pr σ H ev rs oa) {i : Nat} {ds es : Ow} {u : HO} (hi : ev[i]? = some (.own ds)) {vs : List V} {zs : List D} (h : DaL K (Av M ev oa) H vs zs) : DaL K (Av M (ev.set i (.own es)) oa) (upd H (oa i) u) vs zs := by
  have io : isOwn ev i := ⟨ds, hi⟩
  have kp : Kp (Av M ev oa) H (upd H (oa i) u) := fun b o n e => by rw [upd_ne fun z => n (.inr ⟨i, io, z⟩)]; exact e
  refine (h.kp R.e.ml kp).sub fun b m => m.elim .inl fun ⟨j, ⟨fs, o⟩, e⟩ => ?_
  by_cases hj : i = j
  · subst hj; exact .inr ⟨i, io, e⟩
  · rw [List.getElem?_set_ne hj] at o; exact .inr ⟨j, ⟨fs, o⟩, e⟩
def gPuts (i : Nat) : List TE → TGs
  | [] => gNil
  | t :: ts => gCons (gSub (tVar i) t rSetD) (gPuts i ts)
theorem put1_go {i : Nat} {Q : L2.St → Hp → Prop} {fk : Ev → Mn D} {d : D} {v : V} {kvs' : List (Str × D)} {rs1 : RS} (R : RelS K M r Pr σ H ev rs oa) (dv : Da K (Av M ev oa) H v d) (e1 : bnd (nox (fk ev)) (fun y => lft (putO ev i y d)) rs = some (.val kvs', rs1))
    (hq : ∀ H3, RelS K M r Pr σ H3 (ev.set i (.own (.d kvs'))) rs1 oa → (∀ vs zs, DaL K (Av M ev oa) H vs zs → DaL K (Av M (ev.set i (.own (.d kvs'))) oa) H3 vs zs) → Q σ H3) : gSub (tVar i) (tE K mg W fk) rSetD v σ H Q := by
  obtain ⟨y, rs2, e3, e4⟩ := bnd_nox e1
  obtain ⟨k2, e5, e6, rfl⟩ := lft_some e4
  cases e6
  cases y with
  | str z =>
    obtain ⟨kvs, e7, e8⟩ := Option.bind_eq_some_iff.mp (show (getOD ev i).bind _ = some kvs' from e5)
    split at e8
    case isFalse => cases e8
    rename_i hlt
    cases e8
    obtain ⟨xs, a1, _, _, _, _⟩ := R.own i _ (getOD_some e7)
    refine ⟨_, a1, ?_⟩
    refine R.evE R.e (fun b m => .inl m) e3 (fun d' ed u H2 R2 s2 du => ?_) fun _ _ ed => by cases ed
    cases ed
    cases du
    obtain ⟨xs2, b1, b2, b3, _, _⟩ := R2.own i _ (getOD_some e7)
    obtain ⟨ys, q1, q2⟩ := put_da (z := z) (dv.kp R.e.ml (s2.kp R.e.mr)) b3
    have lk : (tkV (kvs.map (·.1)) xs2).length < sizeLine := by
      have h2 := tk_len (ks := kvs.map (·.1)) (xs := xs2)
      rw [List.length_map] at h2
      have h3 : kvs.length + 1 ≤ sizeLine := size_ok _ (by omega)
      omega
    refine ⟨_, _, rfl, DPut.k (k := (Sum.inr z : Key)) b2 lk, ?_⟩
    rw [q1]
    exact hq _ (R2.mut (ds := .d kvs) (es := .d (putS kvs z d)) (getOD_some e7) q2) fun vs zs t => R2.mutDa (getOD_some e7) (t.kp R.e.ml (s2.kp R.e.mr))
  | _ => cases e5
theorem puts_go {i : Nat} {Q : L2.St → Hp → Prop} : ∀ {fks : List (Ev → Mn D)} {ds : List D} {vs : List V} {σ : L2.St} {H : Hp} {ev : Ev} {rs rs' : RS} {o : Res}, RelS K M r Pr σ H ev rs oa → DaL K (Av M ev oa) H vs ds → putsM i fks ds ev rs = some (o, rs') →
    (∀ ev', o = .nx ev' → ∀ σ H oa, RelS K M r Pr σ H ev' rs' oa → Q σ H) → gPuts i (fks.map (tE K mg W)) vs σ H Q
  | [], [], _, σ, H, ev, rs, rs', o, R, .nil, e, cv => by
    cases e
    exact ⟨rfl, cv _ rfl _ _ _ R⟩
  | [], _ :: _, _, _, _, _, _, _, _, _, _, e, _ => by cases e
  | _ :: _, [], _, _, _, _, _, _, _, _, _, e, _ => by cases e
  | fk :: fks, d :: ds, _, σ, H, ev, rs, rs', o, R, .cons (v := v) (vs := vs) dv t, e, cv => by
    rcases bnS_some e with ⟨kvs', rs1, e1, e2⟩ | ⟨y, j, e1, rfl⟩
    · exact ⟨v, vs, rfl, put1_go R dv e1 fun H3 R3 keep => puts_go R3 (keep _ _ t) e2 cv⟩
    · obtain ⟨y', rs2, e3, e4⟩ := bnd_nox e1
      obtain ⟨ds', e5, e6, rfl⟩ := lft_some e4
      cases e6
end
end DL
namespace DL
open PySem PySem.Spec PyProof.Rows L2
section
variable {G : Gm} {k : Nat} {sc : Sx} {N : List Str}
def sPut (i : Nat) (fk fv : Ev → Mn D) (ev : Ev) : Ms := bnS (dyn fv ev) fun d => bnS (bnd (nox (fk ev)) fun y => lft (putO ev i y d)) fun kvs => nxM (ev.set i (.own (.d kvs)))
theorem s_put (hk : 1 ≤ k) (i : Nat) {x : Str} {ke ve : Expr} {p1 p2 p3 : Pos} {fk fv : Ev → Mn D} (h1 : SE G k sc N ke fk) (h2 : SE G k sc N ve fv) (hi : N[i]? = some x := by rfl) (hv : visB sc x = true := by rfl) (hd : (x == ("__debug__" : Str)) = false := by decide) (hcd : (x == ("__classdict__" : Str)) = false := by decide)
    (ha : ∀ env v, assign (.Subscript (.Name x p1) ke p2) env v = (do
      let ov ← holding [v] (eval (.Name x p1) env); let iv ← holding [v, ov] (eval ke env); standAt p2; holding [v, ov, iv] (setItem ov iv v); release [v, ov, iv] []) := by intro _ _; rfl)
    (hs : ∀ env, swapsWithSole [.Subscript (.Name x p1) ke p2] ve p3.line env = pure false := by intro _; rfl) (hw : ∀ env, env.scope = sc.sc → swappedStores [.Subscript (.Name x p1) ke p2] ve env = pure none := by intro env h; first | rfl | (cases env; cases h; rfl))
    (hae : ∀ env, (assignEach [.Subscript (.Name x p1) ke p2] env).map (·.2) = [assign (.Subscript (.Name x p1) ke p2) env] := by intro _; rfl) :
    SS G k sc N (.Assign [.Subscript (.Name x p1) ke p2] ve p3) (sPut i fk fv) := fun X W g tk po => by
  refine ps_imp (ps_asg (h2 X W g tk) (pg_sub (pe_at g hi hv hd hcd) (h1 X W g tk) (set_dict (by have := units65 g hk; omega)) (ha _)) (hs _) (hw _ g.hsc) (hae _)) fun D σ H h => ?_
  obtain ⟨M, r, Pr, ev, rs, oa, R, o, rs', e, w⟩ := h
  rcases bnS_some e with ⟨d, rs1, e1, e2⟩ | ⟨y, j, e1, rfl⟩
  · refine R.dynE e1 (fun d' ed v H' R' s dv => ?_) fun _ _ ed => by cases ed
    cases ed
    rcases bnS_some e2 with ⟨kvs', rs2, e3, e4⟩ | ⟨y, j, e3, rfl⟩
    · cases e4
      exact put1_go R' dv e3 fun H3 R3 _ => w _ _ _ R3
    · obtain ⟨y', rs3, e5, e6⟩ := bnd_nox e3
      obtain ⟨ds', e7, e8, rfl⟩ := lft_some e6
      cases e8
  · exact R.dynE e1 (fun _ ed => by cases ed) fun y j ed => by cases ed; exact w
/-- the targets x[..], x[..] -/
inductive PTs (G : Gm) (k : Nat) (sc : Sx) (N : List Str) (x : Str) : List Expr → List (Ev → Mn D) → Prop
  | nil : PTs G k sc N x [] []
  | cons {ke : Expr} {p1 p2 : Pos} {fk : Ev → Mn D} {es : List Expr} {fks : List (Ev → Mn D)} (h : SE G k sc N ke fk) (t : PTs G k sc N x es fks)
    (ha : ∀ env v, assign (.Subscript (.Name x p1) ke p2) env v = (do
      let ov ← holding [v] (eval (.Name x p1) env); let iv ← holding [v, ov] (eval ke env); standAt p2; holding [v, ov, iv] (setItem ov iv v); release [v, ov, iv] []) := by intro _ _; rfl)
    (hs : ∀ env, (assignEach (.Subscript (.Name x p1) ke p2 :: es) env).map (·.2) = assign (.Subscript (.Name x p1) ke p2) env :: (assignEach es env).map (·.2) := by intro _; rfl) : PTs G k sc N x (.Subscript (.Name x p1) ke p2 :: es) (fk :: fks)
theorem PTs.pgs {X : Cx} {W : WX} {x : Str} {i : Nat} (g : Gd G k sc N X) (tk : Takes X W) (hk : 1 ≤ k) (hi : N[i]? = some x) (hv : visB sc x = true) (hd : (x == ("__debug__" : Str)) = false) (hcd : (x == ("__classdict__" : Str)) = false) : ∀ {es : List Expr} {fks : List (Ev → Mn D)}, PTs G k sc N x es fks → PGs X es (gPuts i (fks.map (tE G.K G.mg W)))
  | _, _, .nil => pgs_nil
  | _, _, .cons h t ha hs => pgs_cons (pg_sub (pe_at g hi hv hd hcd) (h X W g tk) (set_dict (by have := units65 g hk; omega)) (ha _)) (PTs.pgs g tk hk hi hv hd hcd t) (hs _)
def sPuts (i n : Nat) (fks : List (Ev → Mn D)) (f : Ev → Mn (List Slot)) (ev : Ev) : Ms := bnS (bnd (f ev) fun ss => lft (if ss.length ≤ sizeLine ∧ ss.length = n then dats ss else none)) fun ds => putsM i fks ds ev
theorem s_puts (hk : 1 ≤ k) (i n : Nat) {x : Str} {es vs : List Expr} {k1 k2 : Nat} {p1 p2 p3 : Pos} {fks : List (Ev → Mn D)} {f : Ev → Mn (List Slot)} (h1 : PTs G k sc N x es fks) (h2 : SA G k sc N vs f) (hi : N[i]? = some x := by rfl) (hv : visB sc x = true := by rfl) (hd : (x == ("__debug__" : Str)) = false := by decide) (hcd : (x == ("__classdict__" : Str)) = false := by decide)
    (hn : ∀ env, (assignEach es env).length = n := by intro _; rfl) (hst : ∀ env, (assignEach es env).findIdx? (·.1) = none := by intro _; rfl)
    (hs : ∀ env, swapsWithSole [.Tuple es k1 p1] (.Tuple vs k2 p2) p3.line env = pure false := by intro _; rfl) (hw : ∀ env, env.scope = sc.sc → swappedStores [.Tuple es k1 p1] (.Tuple vs k2 p2) env = pure none := by intro env h; first | rfl | (cases env; cases h; rfl))
    (hae : ∀ env, (assignEach [.Tuple es k1 p1] env).map (·.2) = [assign (.Tuple es k1 p1) env] := by intro _; rfl) :
    SS G k sc N (.Assign [.Tuple es k1 p1] (.Tuple vs k2 p2) p3) (sPuts i n fks f) := fun X W g tk po => by
  refine ps_imp (ps_asg (pe_tup (h2 X W g tk)) (pg_tup g.calm (h1.pgs g tk hk hi hv hd hcd) (hn _) (hst _)) (hs _) (hw _ g.hsc) (hae _)) fun D σ H h => ?_
  obtain ⟨M, r, Pr, ev, rs, oa, R, o, rs', e, w⟩ := h
  show tAr G.K G.mg W f σ H _
  rcases bnS_some e with ⟨ds, rs1, e1, e2⟩ | ⟨x, j, e1, rfl⟩
  · rcases bnd_some e1 with ⟨ss, rs2, e3, e4⟩ | ⟨_, _, _, e4⟩
    · obtain ⟨ds', e5, e6, rfl⟩ := lft_some e4
      cases e6
      split at e5
      case isFalse => cases e5
      rename_i hl
      refine ⟨_, r, ev, rs, R.e, .val ss, _, e3, fun H1 s1 w1 vs hvs => ⟨by rw [hvs.length]; exact hl.1, fun q hq => ?_⟩⟩
      have R1 := R.stp s1 w1
      have sm : Stp r H1 (upd H1 q (.tup vs)) := .of_same (same_upd hq)
      have R2 := R1.stp (M' := Av M ev oa) sm (row_same R1.e.row (same_upd hq))
      refine ⟨q, vs, rfl, .inl (.inl upd_same), by rw [hvs.length]; exact hl.2, ?_⟩
      have dv := (hvs.dats e5).kp R1.e.ml (sm.kp R1.e.mr)
      exact puts_go R2 dv e2 (fun ev' eo σ' H' oa' R' => by subst eo; exact w σ' H' oa' R')
    · cases e4
  · rcases bnd_some e1 with ⟨d, rs2, e3, e4⟩ | ⟨y, j', e3, e4⟩
    · obtain ⟨ds', e5, e6, rfl⟩ := lft_some e4
      cases e6
    · cases e4
      refine ⟨_, r, ev, rs, R.e, .exc x j, rs', e3, fun cls dd H' s w1 a => w cls dd σ H' (R.stp s w1).prot (row_sub w1 fun b m => .inl m) a⟩
def dKinE (t : KTab) (fb : Ev → Mn D) (ev : Ev) : Mn D := bnd (fb ev) fun y => lft ((kinD t y).map .bool)
theorem E_kin {x : Str} {t : KTab} {b : Expr} {fb : Ev → Mn D} {p p2 : Pos} (h : GlK G x t) (hb : SE G k sc N b fb) (hg : glB sc x = true := by rfl) (hdb : (x == ("__debug__" : Str)) = false := by decide) (hm : behindInMarks .In (.Name x p) = false := by rfl) :
    SE G k sc N (.Compare b [.In] [.Name x p] p2) (dKinE t fb) := fun X W g tk => by
  obtain ⟨d, es, n, h1, h2, h3⟩ := h.ex
  refine pe_imp (pe_cmpR (op_in_kd (by rw [g.hK, g.hw]; exact h2)) (hb X W g tk) (pe_glob (v := .ref d) (gl_of g hg) (by rw [g.hmg]; exact h1) rfl hdb) hm) fun σ H Q h => ?_
  obtain ⟨M, r, ev, rs, R, o, rs', e, w⟩ := h
  refine tE_bnd R e w fun y rs1 H1 v R1 s1 d1 e1 w1 => ?_
  obtain ⟨c, e3, rfl, rfl⟩ := lft_some e1
  rw [g.hK]
  cases d1 with
  | str z =>
    cases e3
    have q := h3 z
    cases hz : t.lookup z with
    | none =>
      rw [hz] at q
      exact ⟨z, _, rfl, rfl, q, by have := w1 H1 (.refl _) R1.row _ (.bl _); rwa [hz] at this⟩
    | some dd =>
      rw [hz] at q
      obtain ⟨u, v, q1, q2, q3⟩ := q
      exact ⟨z, _, rfl, rfl, q1, by have := w1 H1 (.refl _) R1.row _ (.bl _); rwa [hz] at this⟩
  | _ => cases e3
end
def ktK : KTab → List Str := fun t => List.map Prod.fst t
structure GlKo (G : Gm) (x : Str) (t : KTab) : Prop where
  ex : ∃ d es n, G.mg x = some (.ref d) ∧ G.K.lookup d = some ⟨.type "dict", none, .dict es n, #[]⟩ ∧ (d == sysModules) = false ∧ KEs G.K es.toList t ∧ (ktK t).length ≤ 1000
theorem meets_tupD (d : Addr) (es : Array DictEntry) (ep : Nat) (lo : (d == sysModules) = false) (hz : es.size ≤ sizeLine) :
    Meets (Builtin.«tuple.__new__» ⟨[.type "tuple", .ref d], []⟩) (fun A R s => (s.heap.DictRaw d es ep ∧ A.handled = none) ∧ ∀ (h' : Heap) (tk : Nat) (acc : Array Value), (∀ b o', s.heap.get? b = some o' → h'.get? b = some o') → ItemsOf (fun i v => ∃ hi : i < es.size, v = es[i].key) acc es.size →
      R (.ok (.ret (.ref h'.objs.size))) { s with heap := h'.push { cls := .type "tuple", data := .seq acc }, toks := tk }) :=
  .of_wp fun prog w A R s h => by
    obtain ⟨hp, g, dw, tk, os⟩ := s; obtain ⟨⟨hd, hA⟩, h⟩ := h
    have q1 := sub_tuple_self; have q2 := init_tuple_lookup; have q3 := madeHere_tuple
    have hT : Shared.TypeIs ⟨hp, g, dw, tk, os⟩ (.ref d) "dict" := by obtain ⟨o, e, x, _⟩ := hd; exact ⟨o, e, x.1⟩
    have q4 : ∀ {A' : Around} {E : Value → Shared → Prop} {Q : List Value → Shared → Prop}, A'.handled = none → (∀ (h' : Heap) (tk' : Nat) (acc : Array Value), (∀ b o, hp.get? b = some o → h'.get? b = some o) → ItemsOf (fun i v => ∃ hi : i < es.size, v = es[i].key) acc es.size → Q acc.toList ⟨h', g, dw, tk', os⟩) → wpAny (model prog w) A' (collect (.ref d)) Q E ⟨hp, g, dw, tk, os⟩ :=
      fun a b => PySem.W.kdu_collect (s := ⟨hp, g, dw, tk, os⟩) (KdlSrc.rawDict lo) a hd hz b
    wp_walk using wpAny_typeOf hT, q4
    · exact hA
    · intro h1 tk1 acc hk hacc
      have e : acc.toList.toArray = acc := by simp
      (show wpAny _ _ (Builtin.Tuple.tupleExact acc.toList.toArray >>= fun v => ret v) _ _ _); rw [e]; unfold Builtin.Tuple.tupleExact
      exact wpAny_bind (wpAny_newObj_type (wpAny_pure ⟨_, rfl, h h1 tk1 acc hk hacc⟩) (by show acc.size ≤ sizeLine; rw [hacc.1]; exact hz))
theorem call_tupD {prog : Program} {w : World} {A : Around} {E : Value → Shared → Prop} {s : Shared} {Q : Value → Shared → Prop} {d : Addr} {es : Array DictEntry} {ep : Nat} (lo : (d == sysModules) = false) (hz : es.size ≤ sizeLine) (hd : s.heap.DictRaw d es ep) (hA : A.handled = none)
    (h : ∀ (h' : Heap) (tk : Nat) (acc : Array Value), (∀ b o', s.heap.get? b = some o' → h'.get? b = some o') → ItemsOf (fun i v => ∃ hi : i < es.size, v = es[i].key) acc es.size → Q (.ref h'.objs.size) { s with heap := h'.push { cls := .type "tuple", data := .seq acc }, toks := tk }) : wpAny (model prog w) A (call (.type "tuple") [.ref d]) Q E s :=
  callType_new F.called_tuple (by decide) (F.typeCall_tuple_1 _) (F.newCall_tuple_1 _) (fun obj => F.args_object_init_2 obj _) F.entry_tuple_new (meets_tupD d es ep lo hz) ⟨⟨hd, hA⟩, fun h' tk acc hk ha => ⟨⟨_, Heap.get?_push_size _ rfl, rfl⟩, h h' tk acc hk ha⟩⟩
theorem kes_keys {K : PySem.W.Frag} : ∀ {es : List DictEntry} {t : KTab}, KEs K es t → ∀ (i : Nat) e, es[i]? = some e → ∃ x u, (ktK t)[i]? = some x ∧ e.key = .str x u
  | _, _, .nil, i, e, h => by simp at h
  | _, _, .cons (x := x) (t := t) hv r, 0, e, h => by simp at h; subst h; exact ⟨x, t, rfl, rfl⟩
  | _, _, .cons hv r, i + 1, e, h => by
    obtain ⟨x, u, h1, h2⟩ := kes_keys r i e (by simpa using h)
    exact ⟨x, u, h1, h2⟩
theorem kes_len {K : PySem.W.Frag} : ∀ {es : List DictEntry} {t : KTab}, KEs K es t → es.length = (ktK t).length
  | _, _, .nil => rfl
  | _, _, .cons hv r => congrArg (· + 1) (kes_len r)
theorem vals_of_at : ∀ {xs : List V} {us : List Value}, xs.length = us.length → (∀ (i : Nat) u, us[i]? = some u → ∃ x, xs[i]? = some x ∧ RelV x u) → Vals xs us
  | [], [], _, _ => .nil
  | [], _ :: _, e, _ => nomatch e
  | _ :: _, [], e, _ => nomatch e
  | x :: xs, u :: us, e, h => by
    obtain ⟨y, h1, h2⟩ := h 0 u rfl
    simp at h1
    subst h1
    exact .cons h2 (vals_of_at (Nat.succ.inj e) fun i u hu => by
      obtain ⟨y, h1, h2⟩ := h (i + 1) u (by simpa using hu)
      exact ⟨y, by simpa using h1, h2⟩)
section
variable {G : Gm} {k : Nat} {sc : Sx} {N : List Str}
def dKtup (t : KTab) (_ : Ev) : Mn D := pur (.tuple ((ktK t).map .str))
theorem da_strs {K : PySem.W.Frag} {M : Addr → Prop} {H : Hp} : ∀ ks : List Str, DaL K M H (ks.map V.str) (ks.map PyData.str)
  | [] => .nil
  | k :: ks => .cons (.str k) (da_strs ks)
theorem e_ktup {x : Str} {t : KTab} {p p2 pos : Pos} (h : GlKo G x t) (hm : Mg0 G "tuple") (hgx : glB sc x = true := by rfl) (hdx : (x == ("__debug__" : Str)) = false := by decide) (hg : glB sc "tuple" = true := by rfl)
    (he : ∀ env, starEach [.Name x p2] env = (false, eval (.Name x p2) env) :: starEach [] env := by intro _; rfl) (hpl : ∀ env, (backTo pos (starEach [] env)).any (·.1) = false := by intro _; rfl) :
    SE G k sc N (.Call (.Name "tuple" p) [.Name x p2] [] pos) (dKtup t) := fun X W g tk => by
  obtain ⟨d, es, n, h1, h2, h3, h4, h5⟩ := h.ex
  have l1 : es.size = (ktK t).length := by rw [← Array.length_toList]; exact kes_len h4
  have hz : es.size ≤ sizeLine := by rw [l1]; exact size_ok _ h5
  have ka : ∀ (i : Nat) e, es.toList[i]? = some e → ∃ x u, (ktK t)[i]? = some x ∧ e.key = .str x u := kes_keys h4
  have en : ∀ ev : Ev, (dKtup t ev : Mn D) = pur (.tuple ((ktK t).map .str)) := fun _ => rfl
  generalize dKtup t = dk at en ⊢
  generalize ktK t = ks at l1 h5 ka en
  have cr : CallR X (.type "tuple") fun vs H Q => vs = [.ref d] ∧ ∀ p, H p = none → Q (.ref p) (upd H p (.tup (ks.map V.str))) := by
    intro pins s σ H vs us Q I r q
    obtain ⟨rfl, q⟩ := q
    rw [Vals.ref1 r]
    have hk : s.heap.get? d = some ⟨.type "dict", none, .dict es n, #[]⟩ := I.kIn d _ (by rw [g.hK]; exact h2)
    refine call_tupD (ep := n) h3 hz ⟨_, hk, ⟨rfl, rfl, rfl⟩, rfl⟩ (I.ok.hd g.calm) fun h' tk' acc hkp hacc => ?_
    have rv : Vals (ks.map V.str) acc.toList := by
      obtain ⟨a1, a2⟩ := hacc
      have la : acc.toList.length = ks.length := by
        have : acc.toList.length = acc.size := Array.length_toList
        omega
      refine vals_of_at (by rw [List.length_map]; exact la.symm) fun i u hu => ?_
      rw [Array.getElem?_toList] at hu
      obtain ⟨hi, eu⟩ := a2 i u hu
      obtain ⟨x, u', q1, q2⟩ := ka i es[i] (by rw [Array.getElem?_toList]; exact Array.getElem?_eq_getElem hi)
      exact ⟨.str x, by rw [List.getElem?_map, q1]; rfl, by rw [eu, q2]; exact ⟨u', rfl⟩⟩
    have I1 : Inv X pins σ H { s with heap := h', toks := tk' } := I.kept hkp
    have I2 : Inv X pins σ (upd H h'.objs.size (.tup (ks.map V.str))) { s with heap := h'.push { cls := .type "tuple", data := .seq acc }, toks := tk' } :=
      I1.laid (t' := tk') (fun b u e => Heap.get?_push_of_some _ e) (Nat.le_refl _) (show ObjOk X.prog X.w _ _ _ (.tup (ks.map V.str)) from ⟨by rw [List.length_map, ← l1]; exact hz, acc.toList, rv, by rw [Array.toArray_toList]; exact IsTup.new _ _⟩)
    exact ⟨.ref _, _, I2, rfl, q _ (I1.hok.fresh (Nat.le_refl _))⟩
  refine pe_imp (pe_callTy cr (gl_of g hg) (by rw [g.hmg]; exact hm) PyProof.Rows.boot_tuple (pa_cons (pe_glob (v := .ref d) (gl_of g hgx) (by rw [g.hmg]; exact h1) rfl hdx) pa_nil (he _)) (by decide) (by decide) (he _) (hpl _)) fun σ H Q h => ?_
  obtain ⟨M, r, ev, rs, R, o, rs', e, w⟩ := h
  rw [en] at e
  cases e
  refine ⟨rfl, fun p hp => ?_⟩
  exact w _ (.of_same (same_upd hp)) (row_same R.row (same_upd hp)) _ (Da.newT R.ml hp (da_strs _))
end
end DL
namespace DL
open PySem PySem.Spec PyProof.Rows L2
inductive KEf (mg : Str → Option Value) : List DictEntry → List (Str × Str) → Prop
  | nil : KEf mg [] []
  | cons {h : Int} {x f : Str} {t : Tok} {a : Addr} {es : List DictEntry} {tb : List (Str × Str)} (hv : mg f = some (.ref a)) (r : KEf mg es tb) : KEf mg (⟨h, .str x t, .ref a⟩ :: es) ((x, f) :: tb)
theorem KEf.look {mg : Str → Option Value} : ∀ {es : List DictEntry} {tb : List (Str × Str)}, KEf mg es tb → ∀ z f, tb.lookup z = some f → ∃ e a, es.find? (·.key.isStr z) = some e ∧ e.val = .ref a ∧ mg f = some (.ref a)
  | _, _, .nil, z, f, e => by cases e
  | _, _, .cons (h := h) (x := x) (f := f') (t := t) (a := a) (es := es) (tb := tb) hv r, z, f, e => by
    have k1 : (⟨h, Value.str x t, .ref a⟩ : DictEntry).key.isStr z = (x == z) := rfl
    by_cases hz : z = x
    · subst hz
      have e1 : List.lookup z ((z, f') :: tb) = some f' := by simp [List.lookup]
      rw [e1] at e
      cases e
      exact ⟨(⟨h, .str z t, .ref a⟩ : DictEntry), a, by rw [List.find?_cons, k1]; simp, rfl, hv⟩
    · have b1 : (z == x) = false := by simpa using hz
      have b2 : (x == z) = false := by simpa using Ne.symm hz
      have e1 : List.lookup z ((x, f') :: tb) = List.lookup z tb := by simp [List.lookup, b1]
      rw [e1] at e
      obtain ⟨q, a', h1, h2, h3⟩ := r.look z f e
      exact ⟨q, a', by rw [List.find?_cons, k1, b2]; exact h1, h2, h3⟩
section
end
section
end
end DL
namespace PW
open PySem PySem.Spec PyProof.Rows L2 DL
def c_WORDS : D := (.tuple [(.tuple [(.str "bag"), (.str "set")]), (.tuple [(.str "maximum"), (.str "sum")]), (.tuple [(.str "count"), (.str "kind")]), (.tuple [(.str "none"), (.str "unknown"), (.str "value")]), (.tuple [(.str "null"), (.str "zero")])])
def c_NULLS : D := (.int 3)
def c_GREATEST_VALUE : D := (.int 9)
def k_GREATEST : KTab := [("column", (.int 1)), ("number", (.int 9)), ("place", (.int 1))]
def k_SIDES : KTab := [("idempotent union", (.tuple [(.tuple [(.str "union"), (.str "A"), (.str "A")]), (.str "A")])), ("absorbing union", (.tuple [(.tuple [(.str "union"), (.str "A"), (.tuple [(.str "intersection"), (.str "A"), (.str "B")])]), (.str "A")])), ("absorbing intersection", (.tuple [(.tuple [(.str "intersection"), (.str "A"), (.tuple [(.str "union"), (.str "A"), (.str "B")])]), (.str "A")])), ("intersection by difference", (.tuple [(.tuple [(.str "intersection"), (.str "A"), (.str "B")]), (.tuple [(.str "difference"), (.str "A"), (.tuple [(.str "difference"), (.str "A"), (.str "B")])])])), ("difference of union", (.tuple [(.tuple [(.str "difference"), (.str "A"), (.tuple [(.str "union"), (.str "B"), (.str "C")])]), (.tuple [(.str "difference"), (.tuple [(.str "difference"), (.str "A"), (.str "B")]), (.str "C")])])), ("union less part", (.tuple [(.tuple [(.str "difference"), (.tuple [(.str "union"), (.str "A"), (.str "B")]), (.str "B")]), (.tuple [(.str "difference"), (.str "A"), (.str "B")])])), ("add and take", (.tuple [(.tuple [(.str "difference"), (.tuple [(.str "union"), (.str "A"), (.str "B")]), (.str "B")]), (.str "A")])), ("intersection over union", (.tuple [(.tuple [(.str "intersection"), (.str "A"), (.tuple [(.str "union"), (.str "B"), (.str "C")])]), (.tuple [(.str "union"), (.tuple [(.str "intersection"), (.str "A"), (.str "B")]), (.tuple [(.str "intersection"), (.str "A"), (.str "C")])])])), ("union over intersection", (.tuple [(.tuple [(.str "union"), (.str "A"), (.tuple [(.str "intersection"), (.str "B"), (.str "C")])]), (.tuple [(.str "intersection"), (.tuple [(.str "union"), (.str "A"), (.str "B")]), (.tuple [(.str "union"), (.str "A"), (.str "C")])])])), ("filter or", (.tuple [(.tuple [(.str "select"), (.str "A"), (.tuple [(.str "or"), (.str "p"), (.str "q")])]), (.tuple [(.str "union"), (.tuple [(.str "select"), (.str "A"), (.str "p")]), (.tuple [(.str "select"), (.str "A"), (.str "q")])])])), ("filter and", (.tuple [(.tuple [(.str "select"), (.str "A"), (.tuple [(.str "and"), (.str "p"), (.str "q")])]), (.tuple [(.str "intersection"), (.tuple [(.str "select"), (.str "A"), (.str "p")]), (.tuple [(.str "select"), (.str "A"), (.str "q")])])])), ("filter not", (.tuple [(.tuple [(.str "select"), (.str "A"), (.tuple [(.str "not"), (.str "p")])]), (.tuple [(.str "difference"), (.str "A"), (.tuple [(.str "select"), (.str "A"), (.str "p")])])])), ("filter complete", (.tuple [(.tuple [(.str "select"), (.str "A"), (.tuple [(.str "or"), (.str "p"), (.tuple [(.str "not"), (.str "p")])])]), (.str "A")])), ("projection of union", (.tuple [(.tuple [(.str "project"), (.tuple [(.str "union"), (.str "A"), (.str "B")])]), (.tuple [(.str "union"), (.tuple [(.str "project"), (.str "A")]), (.tuple [(.str "project"), (.str "B")])])])), ("projection of intersection", (.tuple [(.tuple [(.str "project"), (.tuple [(.str "intersection"), (.str "A"), (.str "B")])]), (.tuple [(.str "intersection"), (.tuple [(.str "project"), (.str "A")]), (.tuple [(.str "project"), (.str "B")])])])), ("self semijoin", (.tuple [(.tuple [(.str "semijoin"), (.str "A"), (.str "A")]), (.str "A")])), ("semijoin and antijoin", (.tuple [(.tuple [(.str "union"), (.tuple [(.str "semijoin"), (.str "A"), (.str "B")]), (.tuple [(.str "antijoin"), (.str "A"), (.str "B")])]), (.str "A")])), ("not in", (.tuple [(.tuple [(.str "not_in"), (.str "A"), (.str "B")]), (.tuple [(.str "antijoin"), (.str "A"), (.str "B")])])), ("join as semijoin", (.tuple [(.tuple [(.str "pairs"), (.tuple [(.str "join"), (.str "A"), (.str "B")])]), (.tuple [(.str "semijoin"), (.str "A"), (.str "B")])])), ("join over union", (.tuple [(.tuple [(.str "join"), (.str "A"), (.tuple [(.str "union"), (.str "B"), (.str "C")])]), (.tuple [(.str "union"), (.tuple [(.str "join"), (.str "A"), (.str "B")]), (.tuple [(.str "join"), (.str "A"), (.str "C")])])])), ("count of union", (.tuple [(.tuple [(.str "count"), (.tuple [(.str "union"), (.str "A"), (.str "B")])]), (.tuple [(.str "plus"), (.tuple [(.str "count"), (.str "A")]), (.tuple [(.str "count"), (.str "B")])])])), ("inclusion and exclusion", (.tuple [(.tuple [(.str "plus"), (.tuple [(.str "count"), (.tuple [(.str "union"), (.str "A"), (.str "B")])]), (.tuple [(.str "count"), (.tuple [(.str "intersection"), (.str "A"), (.str "B")])])]), (.tuple [(.str "plus"), (.tuple [(.str "count"), (.str "A")]), (.tuple [(.str "count"), (.str "B")])])])), ("total of union", (.tuple [(.tuple [(.str "total"), (.tuple [(.str "union"), (.str "A"), (.str "B")])]), (.tuple [(.str "plus"), (.tuple [(.str "total"), (.str "A")]), (.tuple [(.str "total"), (.str "B")])])])), ("total of parts", (.tuple [(.tuple [(.str "plus"), (.tuple [(.str "total"), (.tuple [(.str "select"), (.str "A"), (.str "p")])]), (.tuple [(.str "total"), (.tuple [(.str "select"), (.str "A"), (.tuple [(.str "not"), (.str "p")])])])]), (.tuple [(.str "total"), (.str "A")])])), ("distinct union", (.tuple [(.tuple [(.str "distinct"), (.tuple [(.str "union"), (.str "A"), (.str "B")])]), (.tuple [(.str "union"), (.tuple [(.str "distinct"), (.str "A")]), (.tuple [(.str "distinct"), (.str "B")])])])), ("distinct difference", (.tuple [(.tuple [(.str "distinct"), (.tuple [(.str "difference"), (.str "A"), (.str "B")])]), (.tuple [(.str "difference"), (.tuple [(.str "distinct"), (.str "A")]), (.tuple [(.str "distinct"), (.str "B")])])]))]
def k_HOLDS_WITH : KTab := [("idempotent union", (.tuple [(.tuple [(.str "set")]), (.tuple [(.str "maximum")])])), ("absorbing union", (.tuple [(.tuple [(.str "set")]), (.tuple [(.str "maximum")])])), ("absorbing intersection", (.tuple [(.tuple [])])), ("intersection by difference", (.tuple [(.tuple [(.str "set")]), (.tuple [(.str "count")])])), ("difference of union", (.tuple [(.tuple [(.str "set")]), (.tuple [(.str "kind")]), (.tuple [(.str "sum")])])), ("union less part", (.tuple [(.tuple [(.str "set")]), (.tuple [(.str "kind")]), (.tuple [(.str "maximum")])])), ("add and take", (.tuple [(.tuple [(.str "bag"), (.str "sum"), (.str "count")])])), ("intersection over union", (.tuple [(.tuple [(.str "set")]), (.tuple [(.str "maximum")])])), ("union over intersection", (.tuple [(.tuple [])])), ("filter or", (.tuple [(.tuple [(.str "set")]), (.tuple [(.str "maximum")])])), ("filter and", (.tuple [(.tuple [])])), ("filter not", (.tuple [(.tuple [(.str "none")]), (.tuple [(.str "value")])])), ("filter complete", (.tuple [(.tuple [(.str "none")]), (.tuple [(.str "value")])])), ("projection of union", (.tuple [(.tuple [(.str "set")]), (.tuple [(.str "sum")])])), ("projection of intersection", (.tuple [])), ("self semijoin", (.tuple [(.tuple [(.str "none")]), (.tuple [(.str "value")])])), ("semijoin and antijoin", (.tuple [(.tuple [])])), ("not in", (.tuple [(.tuple [(.str "none")]), (.tuple [(.str "value")])])), ("join as semijoin", (.tuple [(.tuple [(.str "set")])])), ("join over union", (.tuple [(.tuple [])])), ("count of union", (.tuple [(.tuple [(.str "bag"), (.str "sum")])])), ("inclusion and exclusion", (.tuple [(.tuple [(.str "set")]), (.tuple [(.str "maximum")])])), ("total of union", (.tuple [(.tuple [(.str "bag"), (.str "sum"), (.str "zero")])])), ("total of parts", (.tuple [(.tuple [(.str "zero"), (.str "none")]), (.tuple [(.str "zero"), (.str "value")])])), ("distinct union", (.tuple [(.tuple [(.str "set")]), (.tuple [(.str "maximum")])])), ("distinct difference", (.tuple [(.tuple [(.str "set")]), (.tuple [(.str "kind")])]))]
def t_FORMS : KTab3 := [(["filter", "less"], (.tuple [(.str "column"), (.str "number")])), (["filter", "equal"], (.tuple [(.str "column"), (.str "number")])), (["filter", "same"], (.tuple [])), (["filter", "null"], (.tuple [(.str "column")])), (["filter", "not"], (.tuple [(.str "filter")])), (["filter", "and"], (.tuple [(.str "filter"), (.str "filter")])), (["filter", "or"], (.tuple [(.str "filter"), (.str "filter")])), (["condition", "p"], (.tuple [])), (["condition", "q"], (.tuple [])), (["condition", "not"], (.tuple [(.str "condition")])), (["condition", "and"], (.tuple [(.str "condition"), (.str "condition")])), (["condition", "or"], (.tuple [(.str "condition"), (.str "condition")])), (["expression", "table"], (.tuple [(.str "place")])), (["expression", "union"], (.tuple [(.str "expression"), (.str "expression")])), (["expression", "intersection"], (.tuple [(.str "expression"), (.str "expression")])), (["expression", "difference"], (.tuple [(.str "expression"), (.str "expression")])), (["expression", "filter"], (.tuple [(.str "condition"), (.str "expression")]))]
def d_is_semantics  : Ev → Ms :=
    seqM (pIf (dOr (dNot (dTru (dIsi [.tuple] (dVar 0)))) (dCmp neD (dFn lenD (dCons (dVar 0) (dNil))) (dFn lenD (dCons (dLit c_WORDS) (dNil))))) (pRet (dLit (.bool false))) (sNil))
    (pRet (dFn allD (dCons (dComp [1, 2] (dRng zipD (dCons (dVar 0) (dCons (dLit c_WORDS) (dNil)))) (.tup [1, 2]) (dYes) (dCmpE inD (dVar 1) (dVar 2))) (dNil))))
def d_check_semantics (f_is_semantics : List Slot → Mn D) : Ev → Ms :=
    pIf (dNot (dTru (dCl 1 f_is_semantics (dCons (dVar 0) (dNil))))) (sRaise "BadSemantics") (sNil)
def d__is_value_under (f_is_integer_to : List Slot → Mn D) : Ev → Ms :=
    seqM (pIf (dCmp isD (dVar 1) (dLit .none)) (pRet (dCmpE neD (dBin ixD (dVar 0) (dLit c_NULLS)) (dLit (.str "none")))) (sNil))
    (pRet (dCl 2 f_is_integer_to (dCons (dVar 1) (dCons (dLit c_GREATEST_VALUE) (dNil)))))
def d__fits (f_is_integer_to : List Slot → Mn D) : Ev → Ms :=
    seqM (pIf (dKin k_GREATEST (dVar 1)) (pRet (dCl 2 f_is_integer_to (dCons (dVar 0) (dCons (dKget k_GREATEST (dVar 1)) (dNil))))) (sNil))
    (pRet (dLit (.bool true)))
def d_is_identity  : Ev → Ms :=
    pRet (dAndV (dIsi [.str] (dVar 0)) (dKinE k_SIDES (dVar 0)))
def d_check_identity (f_is_identity : List Slot → Mn D) : Ev → Ms :=
    pIf (dNot (dTru (dCl 1 f_is_identity (dCons (dVar 0) (dNil))))) (sRaise "BadIdentity") (sNil)
def d__are_arguments (f_shape : List Slot → Mn D) (f__is_argument : List Slot → Mn D) : Ev → Ms :=
    seqM (pSet 3 (dCl 1 f_shape (dCons (dVar 1) (dNil))))
    (seqM (pIf (dOr (dNot (dTru (dIsi [.tuple] (dVar 2)))) (dCmp neD (dFn lenD (dCons (dVar 2) (dNil))) (dFn lenD (dCons (dVar 3) (dNil))))) (pRet (dLit (.bool false))) (sNil))
    (pRet (dFn allD (dCons (dComp [4, 5] (dRng zipD (dCons (dVar 3) (dCons (dVar 2) (dNil)))) (.tup [4, 5]) (dYes) (dCl 3 f__is_argument (dCons (dVar 0) (dCons (dVar 4) (dCons (dVar 5) (dNil)))))) (dNil)))))
def d_holds (f_check_semantics : List Slot → Mn D) (f_check_identity : List Slot → Mn D) : Ev → Ms :=
    seqM (pDrop (dCl 1 f_check_semantics (dCons (dVar 0) (dNil))))
    (seqM (pDrop (dCl 1 f_check_identity (dCons (dVar 1) (dNil))))
    (pRet (dFn anyD (dCons (dComp [2] (dItm (dKget k_HOLDS_WITH (dVar 1))) (.name 2) (dYes) (dFn allD (dCons (dComp [3] (dItm (dVar 2)) (.name 3) (dYes) (dCmpE inD (dVar 3) (dVar 0))) (dNil)))) (dNil)))))
def d_all_semantics  : Ev → Ms :=
    seqM (pSet 0 (dLst (dCons (dTup (dNil)) (dNil))))
    (seqM (sFor false (dItm (dLit PW.c_WORDS)) (.name 1) (pSet 0 (dCompN [2, 3] (dItm (dVar 0)) (dMid (dItm (dVar 1)) [3] (dLast (dTup (dStar (dVar 2) (dCons (dVar 3) (dNil))))) (.name 3) (dYes)) (.name 2) (dYes))))
    (pRet (dFn tupleD (dCons (dVar 0) (dNil)))))
def d_identities  : Ev → Ms :=
    pRet (dKtup PW.k_SIDES)
def d_profile (f_check_semantics : List Slot → Mn D) (f_identities : List Slot → Mn D) (f_holds : List Slot → Mn D) : Ev → Ms :=
    seqM (pDrop (dCl 1 f_check_semantics (dCons (dVar 0) (dNil))))
    (pRet (dFn tupleD (dCons (dComp [1] (dItm (dCl 0 f_identities (dNil))) (.name 1) (dTru (dCl 2 f_holds (dCons (dVar 0) (dCons (dVar 1) (dNil))))) (dVar 1)) (dNil))))
def d_implies (f_parting : List Slot → Mn D) : Ev → Ms :=
    pRet (dCmpE isD (dCl 2 f_parting (dCons (dVar 0) (dCons (dVar 1) (dNil)))) (dLit .none))
def d_parting (f_check_identity : List Slot → Mn D) (f_all_semantics : List Slot → Mn D) (f_holds : List Slot → Mn D) : Ev → Ms :=
    seqM (pDrop (dCl 1 f_check_identity (dCons (dVar 0) (dNil))))
    (seqM (pDrop (dCl 1 f_check_identity (dCons (dVar 1) (dNil))))
    (seqM (sFor false (dItm (dCl 0 f_all_semantics (dNil))) (.name 2) (pIf (dAnd (dTru (dCl 2 f_holds (dCons (dVar 2) (dCons (dVar 0) (dNil))))) (dNot (dTru (dCl 2 f_holds (dCons (dVar 2) (dCons (dVar 1) (dNil))))))) (pRet (dVar 2)) (sNil)))
    (pRet (dLit .none))))
def d_semantics_with (f__are_identities : List Slot → Mn D) (f_all_semantics : List Slot → Mn D) (f_holds : List Slot → Mn D) : Ev → Ms :=
    seqM (pIf (dNot (dTru (dCl 1 f__are_identities (dCons (dVar 0) (dNil))))) (sRaise "BadIdentities") (sNil))
    (pRet (dFn tupleD (dCons (dComp [1] (dItm (dCl 0 f_all_semantics (dNil))) (.name 1) (dTru (dFn allD (dCons (dComp [2] (dItm (dVar 0)) (.name 2) (dYes) (dCl 2 f_holds (dCons (dVar 1) (dCons (dVar 2) (dNil))))) (dNil)))) (dVar 1)) (dNil))))
end PW
namespace DL
open PySem PySem.Spec PyProof.Rows L2
section
end
end DL
namespace LW
open PySem PySem.Spec PyProof.Rows L2 DL
def d__law_pick (f__law_taken : List Slot → Mn D) : Ev → Ms :=
    pRet (dBin ixD (dVar 1) (dCl 2 f__law_taken (dRow 0 (dCons (dFn lenD (dCons (dVar 1) (dNil))) (dNil)))))
def d__law_alike (f__law_alike : List Slot → Mn D) : Ev → Ms :=
    seqM (pIf (dTru (dIsi [.tuple, .list] (dVar 1))) (seqM (pIf (dOr (dNot (dTru (dIsi [.tuple, .list] (dVar 0)))) (dCmp neD (dIsi [.list] (dVar 0)) (dIsi [.list] (dVar 1)))) (pRet (dLit (.bool false))) (sNil))
    (seqM (pIf (dCmp neD (dFn lenD (dCons (dVar 0) (dNil))) (dFn lenD (dCons (dVar 1) (dNil)))) (pRet (dLit (.bool false))) (sNil))
    (pRet (dCmpE eqD (dComp [2] (dRng rng1 (dCons (dFn lenD (dCons (dVar 1) (dNil))) (dNil))) (.name 2) (dNot (dTru (dCl 2 f__law_alike (dCons (dBin ixD (dVar 0) (dVar 2)) (dCons (dBin ixD (dVar 1) (dVar 2)) (dNil)))))) (dVar 2)) (dLst (dNil)))))) (sNil))
    (seqM (pIf (dOr (dCmp isD (dVar 1) (dLit .none)) (dTru (dIsi [.str] (dVar 1)))) (pRet (dAndV (dCmpE eqD (dVar 0) (dVar 1)) (dCmpE eqD (dIsi [.str] (dVar 0)) (dIsi [.str] (dVar 1))))) (sNil))
    (pRet (dAndV (dIsi [.int] (dVar 0)) (dAndV (dCmpE eqD (dIsi [.bool] (dVar 0)) (dIsi [.bool] (dVar 1))) (dCmpE eqD (dVar 0) (dVar 1))))))
def d__law_semantics (f__law_pick : List Slot → Mn D) : Ev → Ms :=
    seqM (pPar 1 2 (dCons (dCl 2 f__law_pick (dRow 0 (dCons (dLst (dCons (dLit (.str "bag")) (dCons (dLit (.str "bag")) (dCons (dLit (.str "set")) (dNil))))) (dNil)))) (dCons (dCl 2 f__law_pick (dRow 0 (dCons (dLst (dCons (dLit (.str "maximum")) (dCons (dLit (.str "sum")) (dNil)))) (dNil)))) (dNil))))
    (seqM (pPar 3 4 (dCons (dCl 2 f__law_pick (dRow 0 (dCons (dLst (dCons (dLit (.str "count")) (dCons (dLit (.str "kind")) (dNil)))) (dNil)))) (dCons (dCl 2 f__law_pick (dRow 0 (dCons (dLst (dCons (dLit (.str "none")) (dCons (dLit (.str "unknown")) (dCons (dLit (.str "unknown")) (dCons (dLit (.str "value")) (dNil)))))) (dNil)))) (dNil))))
    (pRet (dTup (dCons (dVar 1) (dCons (dVar 2) (dCons (dVar 3) (dCons (dVar 4) (dCons (dCl 2 f__law_pick (dRow 0 (dCons (dLst (dCons (dLit (.str "null")) (dCons (dLit (.str "zero")) (dNil)))) (dNil)))) (dNil)))))))))
def d__law_names  : Ev → Ms :=
    seqM (pSet 0 (dLst (dCons (dLit (.str "idempotent union")) (dCons (dLit (.str "absorbing union")) (dCons (dLit (.str "absorbing intersection")) (dCons (dLit (.str "intersection by difference")) (dCons (dLit (.str "difference of union")) (dNil))))))))
    (seqM (pSet 0 (dBin addD (dVar 0) (dLst (dCons (dLit (.str "union less part")) (dCons (dLit (.str "add and take")) (dCons (dLit (.str "intersection over union")) (dCons (dLit (.str "union over intersection")) (dCons (dLit (.str "filter or")) (dNil)))))))))
    (seqM (pSet 0 (dBin addD (dVar 0) (dLst (dCons (dLit (.str "filter and")) (dCons (dLit (.str "filter not")) (dCons (dLit (.str "filter complete")) (dCons (dLit (.str "projection of union")) (dCons (dLit (.str "projection of intersection")) (dNil)))))))))
    (seqM (pSet 0 (dBin addD (dVar 0) (dLst (dCons (dLit (.str "self semijoin")) (dCons (dLit (.str "semijoin and antijoin")) (dCons (dLit (.str "not in")) (dCons (dLit (.str "join as semijoin")) (dCons (dLit (.str "join over union")) (dCons (dLit (.str "count of union")) (dNil))))))))))
    (pRet (dBin addD (dVar 0) (dLst (dCons (dLit (.str "inclusion and exclusion")) (dCons (dLit (.str "total of union")) (dCons (dLit (.str "total of parts")) (dCons (dLit (.str "distinct union")) (dCons (dLit (.str "distinct difference")) (dNil))))))))))))
def d__law_every  : Ev → Ms :=
    seqM (pSet 0 (dLst (dCons (dTup (dNil)) (dNil))))
    (seqM (sFor false (dItm (dLst (dCons (dLst (dCons (dLit (.str "bag")) (dCons (dLit (.str "set")) (dNil)))) (dCons (dLst (dCons (dLit (.str "maximum")) (dCons (dLit (.str "sum")) (dNil)))) (dCons (dLst (dCons (dLit (.str "count")) (dCons (dLit (.str "kind")) (dNil)))) (dCons (dLst (dCons (dLit (.str "none")) (dCons (dLit (.str "unknown")) (dCons (dLit (.str "value")) (dNil))))) (dCons (dLst (dCons (dLit (.str "null")) (dCons (dLit (.str "zero")) (dNil)))) (dNil)))))))) (.name 1) (seqM (pSet 2 (dLst (dNil)))
    (seqM (sFor false (dItm (dVar 0)) (.name 3) (pSet 2 (dBin addD (dVar 2) (dComp [4] (dItm (dVar 1)) (.name 4) (dYes) (dBin addD (dVar 3) (dTup (dCons (dVar 4) (dNil))))))))
    (pSet 0 (dVar 2)))))
    (pRet (dVar 0)))
def d__law_profile (f__law_names : List Slot → Mn D) (f__law_holds : List Slot → Mn D) : Ev → Ms :=
    pRet (dFn tupleD (dCons (dComp [1] (dItm (dCl 0 f__law_names (dNil))) (.name 1) (dTru (dCl 2 f__law_holds (dCons (dVar 0) (dCons (dVar 1) (dNil))))) (dVar 1)) (dNil)))
end LW
namespace LW
open PySem PySem.Spec PyProof.Rows L2 DL
abbrev Fs := List Slot → Mn D
abbrev NoDict (d : D) : Prop := ∀ kvs, d ≠ .dict kvs
inductive N3 where
  | none | unknown | value
def N3.s : N3 → String
  | .none => "none"
  | .unknown => "unknown"
  | .value => "value"
/-- a semantics -/
def wayD (a b c : Bool) (n : N3) (e : Bool) : D := .tuple [.str (if a then "bag" else "set"), .str (if b then "maximum" else "sum"), .str (if c then "count" else "kind"), .str (Str.ofString n.s), .str (if e then "null" else "zero")]
inductive Vl where
  | nul
  | int (i : Int)
def Vl.d : Vl → D
  | .nul => .none
  | .int i => .int i
theorem way_3 (a b c : Bool) (n : N3) (e : Bool) : ixD (wayD a b c n e) (.int 3) = some (.str (Str.ofString n.s)) := rfl
inductive Flt where
  | less (c : Bool) (n : Int)
  | equal (c : Bool) (n : Int)
  | same
  | null (c : Bool)
  | not (f : Flt)
  | and (f g : Flt)
  | or (f g : Flt)
def colD (c : Bool) : D := .int (if c then 1 else 0)
def Flt.d : Flt → D
  | .less c n => .tuple [.str "less", colD c, .int n]
  | .equal c n => .tuple [.str "equal", colD c, .int n]
  | .same => .tuple [.str "same"]
  | .null c => .tuple [.str "null", colD c]
  | .not f => .tuple [.str "not", f.d]
  | .and f g => .tuple [.str "and", f.d, g.d]
  | .or f g => .tuple [.str "or", f.d, g.d]
def Flt.ok : Flt → Bool
  | .less _ n => decide (0 ≤ n) && decide (n ≤ 9)
  | .equal _ n => decide (0 ≤ n) && decide (n ≤ 9)
  | .same => true
  | .null _ => true
  | .not f => f.ok
  | .and f g => f.ok && g.ok
  | .or f g => f.ok && g.ok
def Flt.size : Flt → Nat
  | .less _ _ => 1
  | .equal _ _ => 1
  | .same => 1
  | .null _ => 1
  | .not f => f.size + 1
  | .and f g => f.size + g.size + 1
  | .or f g => f.size + g.size + 1
theorem Flt.nd (f : Flt) : NoDict f.d := by intro k e; cases f <;> simp [Flt.d] at e
def Vl.ord : Vl → Int
  | .nul => -1
  | .int i => i
def Vl.isN : Vl → Bool
  | .nul => true
  | _ => false
def Vl.beq : Vl → Vl → Bool
  | .nul, .nul => true
  | .int i, .int j => i == j
  | _, _ => false
def N3.unk : N3 → Bool
  | .unknown => true
  | _ => false
def cmpV (n : N3) (less : Bool) (x y : Vl) : Option Bool :=
  if (n.unk && (x.isN || y.isN)) = true then none else some (if less = true then decide (x.ord < y.ord) else x.beq y)
def td : Option Bool → D
  | none => .none
  | some b => .bool b
def tnot : Option Bool → Option Bool
  | none => none
  | some b => some !b
def tand : Option Bool → Option Bool → Option Bool
  | some false, _ => some false
  | _, some false => some false
  | none, _ => none
  | _, none => none
  | _, _ => some true
def tor : Option Bool → Option Bool → Option Bool
  | some true, _ => some true
  | _, some true => some true
  | none, _ => none
  | _, none => none
  | _, _ => some false
def tv (n : N3) (u v : Vl) : Flt → Option Bool
  | .less c m => cmpV n true (if c then v else u) (.int m)
  | .equal c m => cmpV n false (if c then v else u) (.int m)
  | .same => cmpV n false u v
  | .null c => some (if c then v else u).isN
  | .not f => tnot (tv n u v f)
  | .and f g => tand (tv n u v f) (tv n u v g)
  | .or f g => tor (tv n u v f) (tv n u v g)
def Vl.rk : Vl → Int
  | .nul => 0
  | .int i => i + 1
def Vl.nn : Vl → Bool
  | .nul => true
  | .int i => decide (0 ≤ i)
/-- a value is given, and P of it -/
def Gv {α : Type} (m : Mn α) (P : α → Prop) : Prop := ∀ rs, ∃ d rs', m rs = some (.val d, rs') ∧ P d
theorem Gv.bnd {α β : Type} {m : Mn α} {k : α → Mn β} {P : α → Prop} {Q : β → Prop} (h : Gv m P) (hk : ∀ a, P a → Gv (k a) Q) : Gv (DL.bnd m k) Q := fun rs => by
  obtain ⟨d, rs1, e, p⟩ := h rs
  obtain ⟨d2, rs2, e2, p2⟩ := hk d p rs1
  refine ⟨d2, rs2, ?_, p2⟩
  unfold DL.bnd
  rw [e]
  exact e2
theorem Gv.pur {α : Type} {a : α} {P : α → Prop} (h : P a) : Gv (DL.pur a) P := fun rs => ⟨a, rs, rfl, h⟩
theorem Gv.imp {α : Type} {m : Mn α} {P Q : α → Prop} (h : Gv m P) (i : ∀ a, P a → Q a) : Gv m Q := fun rs => by
  obtain ⟨d, rs1, e, p⟩ := h rs
  exact ⟨d, rs1, e, i d p⟩
abbrev SpTk (f : Fs) : Prop := ∀ m : Int, 0 < m → m < 1073741824 → Gv (f [.row, .dat (.int m)]) fun d => ∃ i : Int, 0 ≤ i ∧ i < m ∧ d = .int i
theorem taken : SpTk tkF := fun m h0 h1 rs => by
  refine ⟨_, _, by simp only [tkF]; rw [if_pos ⟨h0, h1⟩], (tk m rs).1, (tk_range m rs h0).1, (tk_range m rs h0).2, rfl⟩
abbrev SpPick (f : Fs) : Prop := ∀ ds : List D, 0 < ds.length → ds.length < 1000 → Gv (f [.row, .dat (.list ds)]) fun d => d ∈ ds
theorem pick {f : Fs} (h : SpTk f) : SpPick (dFun 2 2 (d__law_pick f)) := by
  intro ds h0 h1
  simp [dFun_eq, d__law_pick, lenD, fin_bnS, bnd_bnd, bnS_bnd]
  refine Gv.bnd (h ds.length (by omega) (by omega)) fun d ⟨i, i0, i1, e⟩ => ?_
  subst e
  obtain ⟨j, rfl⟩ : ∃ j : Nat, i = (j : Int) := ⟨i.toNat, by omega⟩
  have hl : j < ds.length := by omega
  have q : ixD (.list ds) (.int (j : Int)) = some ds[j] := atI_nat (List.getElem?_eq_getElem hl)
  rw [q]
  exact Gv.pur (List.getElem_mem hl)
def IsWay (d : D) : Prop := ∃ a b c n e, d = wayD a b c n e
abbrev SpLawSem (f : Fs) : Prop := Gv (f [.row]) IsWay
theorem law_sem {f : Fs} (h : SpPick f) : SpLawSem (dFun 1 5 (d__law_semantics f)) := by
  show Gv (dFun 1 5 (d__law_semantics f) [.row]) _
  simp [dFun_eq, d__law_semantics, pPar_eq, fin_bnS, bnd_bnd, bnS_bnd, sq_bnS]
  refine Gv.bnd (h _ (by simp) (by simp)) fun d1 m1 => ?_
  refine Gv.bnd (h _ (by simp) (by simp)) fun d2 m2 => ?_
  refine Gv.bnd (h _ (by simp) (by simp)) fun d3 m3 => ?_
  refine Gv.bnd (h _ (by simp) (by simp)) fun d4 m4 => ?_
  refine Gv.bnd (h _ (by simp) (by simp)) fun d5 m5 => ?_
  refine Gv.pur ?_
  have p1 : ∃ a : Bool, d1 = .str (if a then "bag" else "set") := by
    simp at m1
    rcases m1 with e | e
    · exact ⟨true, e⟩
    · exact ⟨false, e⟩
  have p2 : ∃ a : Bool, d2 = .str (if a then "maximum" else "sum") := by
    simp at m2
    rcases m2 with e | e
    · exact ⟨true, e⟩
    · exact ⟨false, e⟩
  have p3 : ∃ a : Bool, d3 = .str (if a then "count" else "kind") := by
    simp at m3
    rcases m3 with e | e
    · exact ⟨true, e⟩
    · exact ⟨false, e⟩
  have p4 : ∃ a : N3, d4 = .str (Str.ofString a.s) := by
    simp at m4
    rcases m4 with e | e | e
    · exact ⟨.none, e⟩
    · exact ⟨.unknown, e⟩
    · exact ⟨.value, e⟩
  have p5 : ∃ a : Bool, d5 = .str (if a then "null" else "zero") := by
    simp at m5
    rcases m5 with e | e
    · exact ⟨true, e⟩
    · exact ⟨false, e⟩
  obtain ⟨a, rfl⟩ := p1
  obtain ⟨b, rfl⟩ := p2
  obtain ⟨c, rfl⟩ := p3
  obtain ⟨n, rfl⟩ := p4
  obtain ⟨e, rfl⟩ := p5
  exact ⟨a, b, c, n, e, rfl⟩
/-- valid under n -/
def Vl.okU (n : N3) : Vl → Bool
  | .nul => (match n with | .none => false | _ => true)
  | .int i => decide (0 ≤ i) && decide (i ≤ 9)
end LW
namespace LW
open PySem PySem.Spec PyProof.Rows L2 DL
/-- as long as lists get here -/
def lim : Nat := 1000000
theorem lim_eq : lim = 1000000 := rfl
theorem big_ok {n : Nat} (h : n ≤ lim) : n ≤ sizeLine := by
  have := PySem.sizeLine_eq
  have := lim_eq
  omega
abbrev Row := List Vl
def rowD (r : Row) : D := .tuple (r.map Vl.d)
def rowsL (rs : List Row) : D := .list (rs.map rowD)
def rowsT (rs : List Row) : D := .tuple (rs.map rowD)
def rnk (r : Row) : List Int := r.map Vl.rk
def leR (r s : Row) : Bool := decide (rnk r ≤ rnk s)
def srtR (rs : List Row) : List Row := rs.mergeSort leR
def rkD : D → D
  | .int i => .int (i + 1)
  | _ => .int 0
theorem compGo_on {α : Type} {t : Tgt} {c : Ev → Mn Bool} {e : Ev → Mn D} {ev : Ev} (dd gg : α → D) (pp : α → Bool) : ∀ (L : List α), (∀ a ∈ L, ∃ es, t.of (dd a) = some es ∧ c (setE ev t.ix es) = pur (pp a) ∧ (pp a = true → e (setE ev t.ix es) = pur (gg a))) → compGo t c e ev (L.map dd) = pur ((L.filter pp).map gg)
  | [], _ => rfl
  | a :: L, h => by
    rw [List.map_cons, compGo_cons]
    obtain ⟨es, h1, h2, h3⟩ := h a (by simp)
    rw [h1]
    simp only [lft_some', bnd_pur]
    rw [h2]
    simp only [nox_pur, bnd_pur]
    have ih := compGo_on dd gg pp L fun x hx => h x (by simp [hx])
    cases hp : pp a with
    | true =>
      rw [if_pos rfl, h3 hp, ih]
      simp [hp]
    | false =>
      rw [if_neg (by decide), ih]
      simp [hp]
theorem compGo_all {α : Type} {t : Tgt} {e : Ev → Mn D} {ev : Ev} (dd gg : α → D) (L : List α) (h : ∀ a ∈ L, ∃ es, t.of (dd a) = some es ∧ e (setE ev t.ix es) = pur (gg a)) : compGo t dYes e ev (L.map dd) = pur (L.map gg) := by
  have q : L.filter (fun _ => true) = L := List.filter_eq_self.mpr fun _ _ => rfl
  have z := compGo_on (t := t) (c := dYes) (e := e) (ev := ev) dd gg (fun _ => true) L fun a ha => by
    obtain ⟨es, h1, h2⟩ := h a ha
    exact ⟨es, h1, rfl, fun _ => h2⟩
  rw [q] at z
  exact z
end LW
namespace LW
open PySem PySem.Spec PyProof.Rows L2 DL
instance : DecidableEq Vl := fun a b => match a, b with
  | .nul, .nul => isTrue rfl
  | .nul, .int _ => isFalse (by intro h; cases h)
  | .int _, .nul => isFalse (by intro h; cases h)
  | .int i, .int j => if h : i = j then isTrue (by rw [h]) else isFalse (by intro e; cases e; exact h rfl)
theorem lay_v (x : Vl) : PyData.canLay0 x.d = true := by cases x <;> simp [Vl.d, PyData.canLay0]
theorem dep_v (x : Vl) : PyData.depth x.d = 0 := by cases x <;> simp [Vl.d, PyData.depth]
theorem lay_vs : ∀ r : Row, PyData.canLayAll0 (r.map Vl.d) = true
  | [] => rfl
  | x :: r => by simp [PyData.canLayAll0, lay_v, lay_vs r]
theorem dep_vs : ∀ r : Row, PyData.depthAll (r.map Vl.d) = 0
  | [] => rfl
  | x :: r => by simp [PyData.depthAll, dep_v, dep_vs r]
theorem lay_row (r : Row) : PyData.canLay0 (rowD r) = true := by simp [rowD, PyData.canLay0, lay_vs]
theorem dep_row (r : Row) : PyData.depth (rowD r) = 1 := by simp [rowD, PyData.depth, dep_vs]
theorem lay_rows : ∀ rs : List Row, PyData.canLayAll0 (rs.map rowD) = true
  | [] => rfl
  | r :: rs => by simp [PyData.canLayAll0, lay_row, lay_rows rs]
theorem dep_rows : ∀ rs : List Row, PyData.depthAll (rs.map rowD) ≤ 1
  | [] => by simp [PyData.depthAll]
  | r :: rs => by
    have := dep_rows rs
    simp only [List.map_cons, PyData.depthAll, dep_row]
    omega
theorem sh_rowsL (rs : List Row) : SeqAt.shaped (rowsL rs) = true := by
  have := dep_rows rs
  simp [SeqAt.shaped, rowsL, PyData.canLay0, PyData.depth, lay_rows]
  omega
end LW
namespace LW
open PySem PySem.Spec PyProof.Rows L2 DL
inductive Op3 where
  | uni | int | dif
def Op3.s : Op3 → String
  | .uni => "union"
  | .int => "intersection"
  | .dif => "difference"
def manyZ (a b c : Bool) (w : Op3) (x y : Int) : Int :=
  let m := match w with
    | .uni => if b = true then (if y > x then y else x) else x + y
    | .int => if y < x then y else x
    | .dif => if (!a || !c) = true then x * (if y = 0 then 1 else 0) else (if x - y > 0 then x - y else 0)
  if a = true then m else (if 1 < m then 1 else m)
def mtch (n : N3) (k l : Vl) : Option Bool := if (k.isN || l.isN) = true then (if n.unk = true then none else some (k.isN && l.isN)) else some (decide (k = l))
def secI : Row → Option Int
  | [_, .int i] => some i
  | _ => none
def sumR (rs : List Row) : List Int := rs.filterMap secI
/-- rows of two values -/
def two (rs : List Row) : Prop := ∀ r ∈ rs, ∃ u v, r = [u, v]
def totR (e : Bool) (rs : List Row) : Option Int := if e = true ∧ sumR rs = [] then none else some (sumR rs).sum
def oiD : Option Int → D
  | none => .none
  | some i => .int i
abbrev SpTotal (f : Fs) : Prop := ∀ a b c n e (rs : List Row), rs.length ≤ lim → two rs → f [.dat (wayD a b c n e), .dat (rowsT rs)] = pur (oiD (totR e rs))
end LW
namespace LW
open PySem PySem.Spec PyProof.Rows L2 DL
def good (rs : List Row) : Prop := ∀ r ∈ rs, ∃ u v : Vl, r = [u, v] ∧ u.nn = true ∧ v.nn = true
theorem good.two {rs : List Row} (h : good rs) : two rs := fun r hr => by
  obtain ⟨u, v, e, _⟩ := h r hr
  exact ⟨u, v, e⟩
def trR (n : N3) (x : Flt) : Row → Option Bool
  | [u, v] => tv n u v x
  | _ => none
def isT : Option Bool → Bool
  | some true => true
  | _ => false
def selR (n : N3) (x : Flt) (rs : List Row) : List Row := rs.filter fun r => isT (trR n x r)
abbrev SpSelect (f : Fs) (m : Nat) : Prop := ∀ a b c n e (rs : List Row) x, rs.length ≤ lim → good rs → Flt.ok x = true → x.size ≤ m → f [.dat (wayD a b c n e), .dat (rowsT rs), .dat x.d] = pur (rowsT (selR n x rs))
def onceGo : List Row → List Row → List Row
  | acc, [] => acc
  | acc, r :: rs => onceGo (acc ++ if r ∈ acc then [] else [r]) rs
def onceR (rs : List Row) : List Row := onceGo [] rs
abbrev SpOnce (f : Fs) : Prop := ∀ rs : List Row, rs.length ≤ lim → (∀ r ∈ rs, r.length ≤ lim) → f [.dat (rowsL rs)] = pur (rowsT (srtR (onceR rs))) ∧ f [.dat (rowsT rs)] = pur (rowsT (srtR (onceR rs)))
def cutR (n : Nat) (rs : List Row) : List Row := rs.map (·.take n)
abbrev SpCut (f : Fs) : Prop := ∀ a b c n e (rs : List Row) (m : Nat), rs.length ≤ lim → (∀ r ∈ rs, r.length ≤ lim) → f [.dat (wayD a b c n e), .dat (rowsT rs), .dat (.int (m : Nat))] = pur (rowsT (srtR (if a = true then cutR m rs else onceR (cutR m rs))))
end LW
namespace LW
open PySem PySem.Spec PyProof.Rows L2 DL
def keyR : Row → Vl
  | k :: _ => k
  | [] => .nul
def joinOne (n : N3) (r : Row) (ys : List Row) : List Row := (ys.filter fun s => isT (mtch n (keyR r) (keyR s))).map fun s => r ++ s.drop 1
def joinR (n : N3) (xs ys : List Row) : List Row := xs.flatMap fun r => joinOne n r ys
end LW
namespace LW
open PySem PySem.Spec PyProof.Rows L2 DL
@[simp] theorem dDGet_eq (kfs : List (Str × (Ev → Mn D))) (fw : Ev → Mn D) (ev : Ev) : dDGet kfs fw ev = bnd (dDisp kfs ev) fun ps => bnd (fw ev) fun w => lft (match w with
  | .str z => lookL ps z
  | _ => none) := rfl
inductive Kp3 where
  | semi | anti | notin
def Kp3.s : Kp3 → String
  | .semi => "semijoin"
  | .anti => "antijoin"
  | .notin => "not_in"
def keysR (n : N3) (r : Row) (ys : List Row) : List (Option Bool) := ys.map fun s => mtch n (keyR r) (keyR s)
def keepB (n : N3) (w : Kp3) (ys : List Row) (r : Row) : Bool := match w with
  | .semi => decide (some true ∈ keysR n r ys)
  | .anti => !decide (some true ∈ keysR n r ys)
  | .notin => !decide (some true ∈ keysR n r ys) && !decide (none ∈ keysR n r ys)
def keptR (n : N3) (w : Kp3) (xs ys : List Row) : List Row := xs.filter (keepB n w ys)
abbrev SpKept (f : Fs) : Prop := ∀ a b c n e (xs ys : List Row) w, xs.length ≤ lim → ys.length ≤ lim → two xs → two ys → f [.dat (wayD a b c n e), .dat (rowsT xs), .dat (rowsT ys), .dat (.str (Str.ofString (Kp3.s w)))] = pur (rowsT (keptR n w xs ys))
end LW
namespace LW
open PySem PySem.Spec PyProof.Rows L2 DL
def manyN (a b c : Bool) (w : Op3) (xs ys : List Row) (r : Row) : Nat := (manyZ a b c w (xs.count r : Nat) (ys.count r : Nat)).toNat
def bothGo (k : Row → Nat) : List Row → List Row → List Row → List Row
  | acc, _, [] => acc
  | acc, done, r :: zs => if r ∈ done then bothGo k acc done zs else bothGo k (acc ++ List.replicate (k r) r) (done ++ [r]) zs
def bothR (a b c : Bool) (w : Op3) (xs ys : List Row) : List Row := bothGo (manyN a b c w xs ys) [] [] (xs ++ ys)
abbrev SpBoth (f : Fs) : Prop := ∀ a b c n e w (xs ys : List Row), (xs.length + ys.length) * (xs.length + ys.length) ≤ lim → (∀ r ∈ xs, r.length ≤ lim) → (∀ r ∈ ys, r.length ≤ lim) → f [.dat (wayD a b c n e), .dat (.str (Str.ofString (Op3.s w))), .dat (rowsT xs), .dat (rowsT ys)] = pur (rowsT (srtR (bothR a b c w xs ys)))
end LW
namespace LW
open PySem PySem.Spec PyProof.Rows L2 DL
def GvS (m : Ms) (P : Ev → Prop) : Prop := ∀ rs, ∃ ev rs', m rs = some (.nx ev, rs') ∧ P ev
theorem GvS.bnS {α : Type} {m : Mn α} {k : α → Ms} {P : α → Prop} {Q : Ev → Prop} (h : Gv m P) (hk : ∀ a, P a → GvS (k a) Q) : GvS (DL.bnS m k) Q := fun rs => by
  obtain ⟨d, rs1, e, p⟩ := h rs
  obtain ⟨d2, rs2, e2, p2⟩ := hk d p rs1
  refine ⟨d2, rs2, ?_, p2⟩
  unfold DL.bnS
  rw [e]
  exact e2
theorem GvS.nx {ev : Ev} {Q : Ev → Prop} (h : Q ev) : GvS (nxM ev) Q := fun rs => ⟨ev, rs, rfl, h⟩
theorem GvS.wl {m : Ms} {k : Ev → Ms} {P Q : Ev → Prop} (h : GvS m P) (hk : ∀ a, P a → GvS (k a) Q) : GvS (DL.wl m k) Q := fun rs => by
  obtain ⟨d, rs1, e, p⟩ := h rs
  obtain ⟨d2, rs2, e2, p2⟩ := hk d p rs1
  refine ⟨d2, rs2, ?_, p2⟩
  unfold DL.wl
  rw [e]
  exact e2
theorem GvS.sq {m : Ms} {k : Ev → Ms} {P Q : Ev → Prop} (h : GvS m P) (hk : ∀ a, P a → GvS (k a) Q) : GvS (DL.sq m k) Q := fun rs => by
  obtain ⟨d, rs1, e, p⟩ := h rs
  obtain ⟨d2, rs2, e2, p2⟩ := hk d p rs1
  refine ⟨d2, rs2, ?_, p2⟩
  unfold DL.sq
  rw [e]
  exact e2
def okRow (n : N3) (r : Row) : Prop := ∃ u v : Vl, r = [u, v] ∧ u.okU n = true ∧ v.okU n = true
def IsTab (a : Bool) (n : N3) (most : Nat) (rs : List Row) : Prop := rs.length ≤ most ∧ (∀ r ∈ rs, okRow n r) ∧ (a = false → rs.Nodup)
theorem okU_nn {n : N3} {x : Vl} (h : x.okU n = true) : x.nn = true := by
  cases x with
  | nul => rfl
  | int i => simp [Vl.okU] at h; simp [Vl.nn, h.1]
theorem IsTab.mono {a : Bool} {n : N3} {k l : Nat} {rs : List Row} (h : IsTab a n k rs) (hk : k ≤ l) : IsTab a n l rs := ⟨Nat.le_trans h.1 hk, h.2⟩
end LW
namespace LW
open PySem PySem.Spec PyProof.Rows L2 DL
def Atom : D → Prop
  | .none => True
  | .bool _ => True
  | .int _ => True
  | .str x => ∃ s : String, x = Str.ofString s
  | _ => False
def OkA : Nat → D → Prop
  | 0, d => Atom d
  | m + 1, d => Atom d ∨ ∃ ds : List D, (d = .tuple ds ∨ d = .list ds) ∧ ds.length ≤ lim ∧ ∀ x ∈ ds, OkA m x
abbrev SpAlikeM (f : Fs) (m : Nat) : Prop := ∀ d, OkA m d → f [.dat d, .dat d] = pur (.bool true)
theorem alike_atom {f : Fs} {d : D} (h : Atom d) : dFun 2 3 (d__law_alike f) [.dat d, .dat d] = pur (.bool true) := by
  cases d with
  | none => simp [dFun_eq, d__law_alike, isA, truD, isD]
  | bool b => simp [dFun_eq, d__law_alike, isA, truD, isD]
  | int i => simp [dFun_eq, d__law_alike, isA, truD, isD]
  | str x =>
    obtain ⟨s, rfl⟩ := h
    simp [dFun_eq, d__law_alike, isA, truD, isD]
  | _ => exact absurd h (by simp [Atom])
theorem atI_of {ds : List D} {k : Nat} (h : k < ds.length) : atI ds ((k : Nat) : Int) = some ds[k] := atI_nat (List.getElem?_eq_getElem h)
theorem alike_all {f : Fs} {m : Nat} (hf : SpAlikeM f m) {ds : List D} (hl : ds.length ≤ lim) (hd : ∀ x ∈ ds, OkA m x) (mk : List D → D) (hix : ∀ (k : Nat) (h : k < ds.length), ixD (mk ds) (.int (k : Nat)) = some ds[k]) :
    compGo (.name 2) (dNot (dTru (dCl 2 f (dCons (dBin ixD (dVar 0) (dVar 2)) (dCons (dBin ixD (dVar 1) (dVar 2)) (dNil)))))) (dVar 2) [.dat (mk ds), .dat (mk ds), .hid] (rngD 0 (ds.length : Nat)) = pur [] := by
  have e : rngD 0 (ds.length : Nat) = (List.range ds.length).map fun k => PyData.int (k : Nat) := by
    unfold rngD
    simp
  rw [e]
  have q := compGo_on (t := .name 2) (c := dNot (dTru (dCl 2 f (dCons (dBin ixD (dVar 0) (dVar 2)) (dCons (dBin ixD (dVar 1) (dVar 2)) (dNil)))))) (e := dVar 2) (ev := [.dat (mk ds), .dat (mk ds), .hid]) (fun k : Nat => PyData.int (k : Nat)) (fun k : Nat => PyData.int (k : Nat)) (fun _ => false) (List.range ds.length) fun k hk => by
    have hk' : k < ds.length := List.mem_range.mp hk
    have z := hf ds[k] (hd _ (List.getElem_mem hk'))
    exact ⟨_, rfl, by simp [hix k hk', z, truD], fun w => by cases w⟩
  have z : (List.range ds.length).filter (fun _ => false) = [] := List.filter_eq_nil_iff.mpr (by simp)
  rw [z] at q
  exact q
theorem dRng_pur {op : List D → Option (List D)} {f : Ev → Mn (List DL.Slot)} {ev : Ev} {ss : List DL.Slot} {ds r : List D} (h1 : f ev = pur ss) (h2 : dats ss = some ds) (h3 : op ds = some r) : dRng op f ev = pur r := by
  rw [dRng_eq, h1, bnd_pur, h2, Option.bind_some, h3, lft_some']
theorem dComp_pur {own : List Nat} {src : Ev → Mn (List D)} {t : Tgt} {c : Ev → Mn Bool} {e : Ev → Mn D} {ev : Ev} {ds out : List D} (h1 : src ev = pur ds) (h2 : compGo t c e (wipeE ev own) ds = pur out) (h3 : out.length ≤ sizeLine) : dComp own src t c e ev = pur (.list out) := by
  rw [dComp_eq, h1, bnd_pur, h2, bnd_pur, if_pos h3, lft_some']
theorem rng_len (n : Nat) (h : n ≤ lim) : rng1 [.int (n : Nat)] = some (rngD 0 (n : Nat)) := by
  have q : rng1 [.int (n : Nat)] = if -(2 ^ 62) ≤ (n : Int) ∧ (n : Int) < 2 ^ 62 then some (rngD 0 (n : Nat)) else none := rfl
  have := lim_eq
  rw [q, if_pos (by omega)]
theorem eq_nil : eqD (.list []) (.list []) = some true := by
  unfold eqD
  rw [if_pos ⟨sh_rowsL [], sh_rowsL []⟩]
  simp [PyData.eqv, PyData.eqvAll]
def alikeG (F : Ev → Mn D) : Ev → Ms :=
    seqM (pIf (dTru (dIsi [.tuple, .list] (dVar 1))) (seqM (pIf (dOr (dNot (dTru (dIsi [.tuple, .list] (dVar 0)))) (dCmp neD (dIsi [.list] (dVar 0)) (dIsi [.list] (dVar 1)))) (pRet (dLit (.bool false))) (sNil))
    (seqM (pIf (dCmp neD (dFn lenD (dCons (dVar 0) (dNil))) (dFn lenD (dCons (dVar 1) (dNil)))) (pRet (dLit (.bool false))) (sNil))
    (pRet (dCmpE eqD F (dLst (dNil)))))) (sNil))
    (seqM (pIf (dOr (dCmp isD (dVar 1) (dLit .none)) (dTru (dIsi [.str] (dVar 1)))) (pRet (dAndV (dCmpE eqD (dVar 0) (dVar 1)) (dCmpE eqD (dIsi [.str] (dVar 0)) (dIsi [.str] (dVar 1))))) (sNil))
    (pRet (dAndV (dIsi [.int] (dVar 0)) (dAndV (dCmpE eqD (dIsi [.bool] (dVar 0)) (dIsi [.bool] (dVar 1))) (dCmpE eqD (dVar 0) (dVar 1))))))
theorem alikeT {F : Ev → Mn D} {ds : List D} (h : F [.dat (.tuple ds), .dat (.tuple ds), .hid] = pur (.list [])) : dFun 2 3 (alikeG F) [.dat (.tuple ds), .dat (.tuple ds)] = pur (.bool true) := by
  simp [dFun_eq, alikeG, isA, truD, lenD, h, eq_nil]
theorem alikeL {F : Ev → Mn D} {ds : List D} (h : F [.dat (.list ds), .dat (.list ds), .hid] = pur (.list [])) : dFun 2 3 (alikeG F) [.dat (.list ds), .dat (.list ds)] = pur (.bool true) := by
  simp [dFun_eq, alikeG, isA, truD, lenD, h, eq_nil]
abbrev cmpE (f : Fs) : Ev → Mn D := dComp [2] (dRng rng1 (dCons (dFn lenD (dCons (dVar 1) (dNil))) (dNil))) (.name 2) (dNot (dTru (dCl 2 f (dCons (dBin ixD (dVar 0) (dVar 2)) (dCons (dBin ixD (dVar 1) (dVar 2)) (dNil)))))) (dVar 2)
theorem alike_step {f : Fs} {m : Nat} (hf : SpAlikeM f m) : SpAlikeM (dFun 2 3 (d__law_alike f)) (m + 1) := by
  intro d h
  rcases h with h | ⟨ds, h | h, hl, hd⟩
  · exact alike_atom h
  · subst h
    have q := alike_all hf hl hd .tuple (fun k hk => atI_of hk)
    have r := rng_len ds.length hl
    have a : dCons (dFn lenD (dCons (dVar 1) (dNil))) (dNil) [.dat (.tuple ds), .dat (.tuple ds), .hid] = pur [.dat (.int (ds.length : Nat))] := by simp [lenD]
    have c : cmpE f [.dat (.tuple ds), .dat (.tuple ds), .hid] = pur (.list []) := dComp_pur (dRng_pur a rfl r) q (Nat.zero_le _)
    exact alikeT c
  · subst h
    have q := alike_all hf hl hd .list (fun k hk => atI_of hk)
    have r := rng_len ds.length hl
    have a : dCons (dFn lenD (dCons (dVar 1) (dNil))) (dNil) [.dat (.list ds), .dat (.list ds), .hid] = pur [.dat (.int (ds.length : Nat))] := by simp [lenD]
    have c : cmpE f [.dat (.list ds), .dat (.list ds), .hid] = pur (.list []) := dComp_pur (dRng_pur a rfl r) q (Nat.zero_le _)
    exact alikeL c
theorem alike_zero {f : Fs} : SpAlikeM (dFun 2 3 (d__law_alike f)) 0 := fun d h => alike_atom h
end LW
namespace LW
open PySem PySem.Spec PyProof.Rows L2 DL
def nnR (r : Row) : Prop := ∀ v ∈ r, v.nn = true
theorem okRow.nn {n : N3} {r : Row} (h : okRow n r) : nnR r := by
  obtain ⟨u, v, rfl, hu, hv⟩ := h
  intro x hx
  simp at hx
  rcases hx with rfl | rfl
  · exact okU_nn hu
  · exact okU_nn hv
end LW
namespace LW
open PySem PySem.Spec PyProof.Rows L2 DL
inductive Cnd where
  | p
  | q
  | not (c : Cnd)
  | and (c d : Cnd)
  | or (c d : Cnd)
def Cnd.d : Cnd → D
  | .p => .tuple [.str "p"]
  | .q => .tuple [.str "q"]
  | .not c => .tuple [.str "not", c.d]
  | .and c e => .tuple [.str "and", c.d, e.d]
  | .or c e => .tuple [.str "or", c.d, e.d]
def Cnd.size : Cnd → Nat
  | .p => 1
  | .q => 1
  | .not c => c.size + 1
  | .and c e => c.size + e.size + 1
  | .or c e => c.size + e.size + 1
inductive Ex where
  | tab (b : Bool)
  | op (w : Op3) (e f : Ex)
  | flt (c : Cnd) (e : Ex)
def Ex.d : Ex → D
  | .tab b => .tuple [.str "table", colD b]
  | .op w e f => .tuple [.str (Str.ofString w.s), e.d, f.d]
  | .flt c e => .tuple [.str "filter", c.d, e.d]
def Ex.size : Ex → Nat
  | .tab _ => 1
  | .op _ e f => e.size + f.size + 1
  | .flt c e => c.size + e.size + 1
def cv (p q : Option Bool) : Cnd → Option Bool
  | .p => p
  | .q => q
  | .not c => tnot (cv p q c)
  | .and c e => tand (cv p q c) (cv p q e)
  | .or c e => tor (cv p q c) (cv p q e)
end LW
namespace LW
open PySem PySem.Spec PyProof.Rows L2 DL
end LW
namespace LW
open PySem PySem.Spec PyProof.Rows L2 DL
end LW
namespace LW
open PySem PySem.Spec PyProof.Rows L2 DL
end LW
namespace PW
open PySem PySem.Spec PyProof.Rows L2 DL LW
def isIntTo : D → Int → Bool
  | .int i, g => decide (0 ≤ i) && decide (i ≤ g)
  | _, _ => false
abbrev SpIntTo (f : Fs) : Prop := ∀ (d : D) (g : Int), NoDict d → f [.dat d, .dat (.int g)] = pur (.bool (isIntTo d g))
def vunder (n : N3) : D → Bool
  | .none => (match n with | .none => false | _ => true)
  | d => isIntTo d 9
abbrev SpVu (f : Fs) : Prop := ∀ a b c n e d, NoDict d → f [.dat (wayD a b c n e), .dat d] = pur (.bool (vunder n d))
theorem vu {f : Fs} (hf : SpIntTo f) : SpVu (dFun 2 2 (d__is_value_under f)) := by
  intro a b c n e d h
  cases d with
  | none => cases n <;> simp [dFun_eq, d__is_value_under, isD, c_NULLS, way_3, vunder, N3.s]
  | _ => simp [dFun_eq, d__is_value_under, isD, c_GREATEST_VALUE, vunder, hf _ _ h]
abbrev SpSem (f : Fs) : Prop := ∀ a b c n e, f [.dat (wayD a b c n e)] = pur (.bool true)
theorem sem : SpSem (dFun 1 3 d_is_semantics) := by
  intro a b c n e
  have h1 : inD (.str (if a then "bag" else "set")) (.tuple [.str "bag", .str "set"]) = some true := by cases a <;> (rw [in_tup _ _ rfl rfl]; simp)
  have h2 : inD (.str (if b then "maximum" else "sum")) (.tuple [.str "maximum", .str "sum"]) = some true := by cases b <;> (rw [in_tup _ _ rfl rfl]; simp)
  have h3 : inD (.str (if c then "count" else "kind")) (.tuple [.str "count", .str "kind"]) = some true := by cases c <;> (rw [in_tup _ _ rfl rfl]; simp)
  have h4 : inD (.str (Str.ofString n.s)) (.tuple [.str "none", .str "unknown", .str "value"]) = some true := by cases n <;> (rw [in_tup _ _ rfl rfl]; simp [N3.s])
  have h5 : inD (.str (if e then "null" else "zero")) (.tuple [.str "null", .str "zero"]) = some true := by cases e <;> (rw [in_tup _ _ rfl rfl]; simp)
  simp [dFun_eq, d_is_semantics, isA, truD, c_WORDS, lenD, wayD, zipD, h1, h2, h3, h4, h5, allD, bools]
abbrev SpFits (f : Fs) : Prop := (∀ d, NoDict d → f [.dat d, .dat (.str "column")] = pur (.bool (isIntTo d 1))) ∧ (∀ d, NoDict d → f [.dat d, .dat (.str "number")] = pur (.bool (isIntTo d 9))) ∧ ∀ d, NoDict d → f [.dat d, .dat (.str "filter")] = pur (.bool true)
@[simp] theorem gi_c : kinD k_GREATEST (.str "column") = some true := by simp [kinD, k_GREATEST, List.lookup]
@[simp] theorem gi_n : kinD k_GREATEST (.str "number") = some true := by simp [kinD, k_GREATEST, List.lookup]
@[simp] theorem gi_f : kinD k_GREATEST (.str "filter") = some false := by simp [kinD, k_GREATEST, List.lookup]
@[simp] theorem gg_c : kgetD k_GREATEST (.str "column") = some (.int 1) := by simp [kgetD, k_GREATEST, List.lookup]
@[simp] theorem gg_n : kgetD k_GREATEST (.str "number") = some (.int 9) := by simp [kgetD, k_GREATEST, List.lookup]
theorem fits {f : Fs} (hf : SpIntTo f) : SpFits (dFun 2 2 (d__fits f)) := by
  refine ⟨fun d h => ?_, fun d h => ?_, fun d h => ?_⟩ <;> simp [dFun_eq, d__fits, hf _ _ h]
theorem col_ok (c : Bool) : isIntTo (colD c) 1 = true := by cases c <;> rfl
theorem col_nd (c : Bool) : NoDict (colD c) := by intro k e; cases c <;> simp [colD] at e
theorem fget {k w : String} {d : D} (h : List.lookup [Str.ofString k, Str.ofString w] t_FORMS = some d) : tgetD t_FORMS (.tuple [.str (Str.ofString k), .str (Str.ofString w)]) = some d := by
  show List.lookup [Str.ofString k, Str.ofString w] t_FORMS = some d
  exact h
theorem fnin {k w : String} {d : D} (h : List.lookup [Str.ofString k, Str.ofString w] t_FORMS = some d) : tninD t_FORMS (.tuple [.str (Str.ofString k), .str (Str.ofString w)]) = some false := by
  show some (!(List.lookup [Str.ofString k, Str.ofString w] t_FORMS).isSome) = some false
  rw [h]; rfl
theorem lk_less : List.lookup [Str.ofString "filter", Str.ofString "less"] t_FORMS = some (.tuple [.str "column", .str "number"]) := by simp [t_FORMS, List.lookup]
@[simp] theorem fg_less : tgetD t_FORMS (.tuple [.str "filter", .str "less"]) = some (.tuple [.str "column", .str "number"]) := fget lk_less
@[simp] theorem fn_less : tninD t_FORMS (.tuple [.str "filter", .str "less"]) = some false := fnin lk_less
theorem lk_equal : List.lookup [Str.ofString "filter", Str.ofString "equal"] t_FORMS = some (.tuple [.str "column", .str "number"]) := by simp [t_FORMS, List.lookup]
@[simp] theorem fg_equal : tgetD t_FORMS (.tuple [.str "filter", .str "equal"]) = some (.tuple [.str "column", .str "number"]) := fget lk_equal
@[simp] theorem fn_equal : tninD t_FORMS (.tuple [.str "filter", .str "equal"]) = some false := fnin lk_equal
theorem lk_same : List.lookup [Str.ofString "filter", Str.ofString "same"] t_FORMS = some (.tuple []) := by simp [t_FORMS, List.lookup]
@[simp] theorem fg_same : tgetD t_FORMS (.tuple [.str "filter", .str "same"]) = some (.tuple []) := fget lk_same
@[simp] theorem fn_same : tninD t_FORMS (.tuple [.str "filter", .str "same"]) = some false := fnin lk_same
theorem lk_null : List.lookup [Str.ofString "filter", Str.ofString "null"] t_FORMS = some (.tuple [.str "column"]) := by simp [t_FORMS, List.lookup]
@[simp] theorem fg_null : tgetD t_FORMS (.tuple [.str "filter", .str "null"]) = some (.tuple [.str "column"]) := fget lk_null
@[simp] theorem fn_null : tninD t_FORMS (.tuple [.str "filter", .str "null"]) = some false := fnin lk_null
theorem lk_not : List.lookup [Str.ofString "filter", Str.ofString "not"] t_FORMS = some (.tuple [.str "filter"]) := by simp [t_FORMS, List.lookup]
@[simp] theorem fg_not : tgetD t_FORMS (.tuple [.str "filter", .str "not"]) = some (.tuple [.str "filter"]) := fget lk_not
@[simp] theorem fn_not : tninD t_FORMS (.tuple [.str "filter", .str "not"]) = some false := fnin lk_not
theorem lk_and : List.lookup [Str.ofString "filter", Str.ofString "and"] t_FORMS = some (.tuple [.str "filter", .str "filter"]) := by simp [t_FORMS, List.lookup]
@[simp] theorem fg_and : tgetD t_FORMS (.tuple [.str "filter", .str "and"]) = some (.tuple [.str "filter", .str "filter"]) := fget lk_and
@[simp] theorem fn_and : tninD t_FORMS (.tuple [.str "filter", .str "and"]) = some false := fnin lk_and
theorem lk_or : List.lookup [Str.ofString "filter", Str.ofString "or"] t_FORMS = some (.tuple [.str "filter", .str "filter"]) := by simp [t_FORMS, List.lookup]
@[simp] theorem fg_or : tgetD t_FORMS (.tuple [.str "filter", .str "or"]) = some (.tuple [.str "filter", .str "filter"]) := fget lk_or
@[simp] theorem fn_or : tninD t_FORMS (.tuple [.str "filter", .str "or"]) = some false := fnin lk_or
end PW
namespace PW
open PySem PySem.Spec PyProof.Rows L2 DL LW
end PW
namespace PW
open PySem PySem.Spec PyProof.Rows L2 DL LW
end PW
namespace PW
open PySem PySem.Spec PyProof.Rows L2 DL LW
end PW
namespace PW
open PySem PySem.Spec PyProof.Rows L2 DL LW
def valK (kv : List Kc) (k : List Leaf) : Int := (getKv kv k).getD 0
end PW
namespace PW
open PySem PySem.Spec PyProof.Rows L2 DL LW
end PW
namespace PW
open PySem PySem.Spec PyProof.Rows L2 DL LW
end PW
namespace PW
open PySem PySem.Spec PyProof.Rows L2 DL LW
@[simp] theorem dGetK_eq (fo fe ff : Ev → Mn D) (ev : Ev) : dGetK fo fe ff ev = bnd (fo ev) fun x => if isDct x = true then bnd (fe ev) fun y => bnd (ff ev) fun z => lft (getKD x y z) else stk := rfl
end PW
namespace PW
open PySem PySem.Spec PyProof.Rows L2 DL LW
end PW
namespace PW
open PySem PySem.Spec PyProof.Rows L2 DL LW
theorem ok_two {n : N3} {r : LW.Row} (h : okRow n r) : ∃ u v, r = [u, v] := by
  obtain ⟨u, v, e, _⟩ := h
  exact ⟨u, v, e⟩
theorem bools_map {α : Type} (p : α → Bool) : ∀ L : List α, bools (L.map fun a => PyData.bool (p a)) = some (L.map p)
  | [] => rfl
  | a :: L => by
    have ih := bools_map p L
    simp [bools, ih]
end PW
namespace PW
open PySem PySem.Spec PyProof.Rows L2 DL LW
end PW
namespace PW
open PySem PySem.Spec PyProof.Rows L2 DL LW
end PW
namespace PW
open PySem PySem.Spec PyProof.Rows L2 DL LW
end PW
namespace PW
open PySem PySem.Spec PyProof.Rows L2 DL LW
end PW
namespace PW
open PySem PySem.Spec PyProof.Rows L2 DL LW
abbrev SpChkS (f : Fs) : Prop := ∀ a b c n e, f [.dat (wayD a b c n e)] = pur .none
theorem chkS {f : Fs} (h : SpSem f) : SpChkS (dFun 1 1 (d_check_semantics f)) := by
  intro a b c n e
  simp [dFun_eq, d_check_semantics, h a b c n e, truD]
/-- a table of the document, as data -/
structure TabOk (a : Bool) (n : N3) (rs : List LW.Row) : Prop where
  len : rs.length ≤ 12
  ok : ∀ r ∈ rs, okRow n r
  asc : rs.Pairwise fun r s => leR r s = true
  nd : a = false → rs.Nodup
end PW
namespace PW
open PySem PySem.Spec PyProof.Rows L2 DL LW
theorem TabOk.sq {a : Bool} {n : N3} {xs ys : List LW.Row} (T : TabOk a n xs) (U : TabOk a n ys) : (xs.length + ys.length) * (xs.length + ys.length) ≤ LW.lim := by
  have h : xs.length + ys.length ≤ 24 := by have := T.len; have := U.len; omega
  exact Nat.le_trans (Nat.mul_le_mul h h) (by rw [lim_eq]; decide)
theorem TabOk.two {a : Bool} {n : N3} {xs : List LW.Row} (T : TabOk a n xs) : LW.two xs := fun r hr => ok_two (T.ok r hr)
end PW
namespace PW
open PySem PySem.Spec PyProof.Rows L2 DL LW
end PW
namespace PW
open PySem PySem.Spec PyProof.Rows L2 DL LW
structure Rw (w : Nat) (a : Bool) (n : N3) (rs : List LW.Row) : Prop where
  row : ∀ r ∈ rs, r.length = w ∧ ∀ v ∈ r, Vl.okU n v = true
  nd : a = false → rs.Nodup
section
variable {w : Nat} {a b c : Bool} {n : N3} {rs xs ys : List LW.Row}
theorem Rw.ok2 (h : Rw 2 a n rs) : ∀ r ∈ rs, okRow n r := fun r hr => by
  obtain ⟨h1, h2⟩ := h.row r hr
  rcases r with _ | ⟨u, _ | ⟨v, _ | ⟨x, t⟩⟩⟩
  · simp at h1
  · simp at h1
  · exact ⟨u, v, rfl, h2 u (by simp), h2 v (by simp)⟩
  · simp at h1
theorem Rw.of2 (h : ∀ r ∈ rs, okRow n r) (nd : a = false → rs.Nodup) : Rw 2 a n rs := ⟨fun r hr => by
  obtain ⟨u, v, rfl, hu, hv⟩ := h r hr
  refine ⟨rfl, fun x hx => ?_⟩
  simp only [List.mem_cons, List.not_mem_nil, or_false] at hx
  rcases hx with rfl | rfl <;> assumption, nd⟩
theorem Rw.two (h : Rw 2 a n rs) : LW.two rs := fun r hr => ok_two (h.ok2 r hr)
theorem Rw.sub (h : Rw w a n rs) {ss : List LW.Row} (s : ss.Sublist rs) : Rw w a n ss := ⟨fun r hr => h.row r (s.subset hr), fun e => (h.nd e).sublist s⟩
theorem TabOk.rw {rs : List LW.Row} (T : TabOk a n rs) : Rw 2 a n rs := Rw.of2 T.ok T.nd
end
end PW
namespace PW
open PySem PySem.Spec PyProof.Rows L2 DL LW
inductive Wd where
  | uni | int | dif | sel | prj | prs | jn | semi | anti | notin | tot | cnt | dis | pls | no | et | vel
  deriving DecidableEq
def Wd.s : Wd → String
  | .uni => "union" | .int => "intersection" | .dif => "difference" | .sel => "select" | .prj => "project" | .prs => "pairs" | .jn => "join"
  | .semi => "semijoin" | .anti => "antijoin" | .notin => "not_in" | .tot => "total" | .cnt => "count" | .dis => "distinct" | .pls => "plus"
  | .no => "not" | .et => "and" | .vel => "or"
inductive Sd where
  | v (s : String)
  | u (w : Wd) (x : Sd)
  | b (w : Wd) (x y : Sd)
def Sd.d : Sd → D
  | .v s => .str (Str.ofString s)
  | .u w x => .tuple [.str (Str.ofString w.s), x.d]
  | .b w x y => .tuple [.str (Str.ofString w.s), x.d, y.d]
def Sd.dep : Sd → Nat
  | .v _ => 1
  | .u _ x => x.dep + 1
  | .b _ x y => max x.dep y.dep + 1
inductive Va where
  | T (w l : Nat) (rs : List LW.Row)
  | F (k : Nat) (x : Flt)
  | N (i : Option Int)
def Va.d : Va → D
  | .T _ _ rs => rowsT rs
  | .F _ x => x.d
  | .N i => oiD i
def Va.Ok (a : Bool) (n : N3) : Va → Prop
  | .T w l rs => Rw w a n rs ∧ rs.length ≤ l ∧ 0 < w ∧ w ≤ 3 ∧ l ≤ 900
  | .F k x => x.size ≤ k
  | .N _ => True
def plusO : Option Int → Option Int → Option Int
  | some i, some j => some (i + j)
  | _, _ => none
def cutS (a : Bool) (m : Nat) (rs : List LW.Row) : List LW.Row := srtR (if a = true then cutR m rs else onceR (cutR m rs))
def bothS (a b c : Bool) (o : Op3) (xs ys : List LW.Row) : List LW.Row := srtR (bothR a b c o xs ys)
def joinS (n : N3) (xs ys : List LW.Row) : List LW.Row := srtR (joinR n xs ys)
def onceS (xs : List LW.Row) : List LW.Row := srtR (onceR xs)
section
variable (a b c : Bool) (n : N3) (e : Bool)
def appO (o : Op3) : Va → Va → Option Va
  | .T w l xs, .T w' m ys => if w = w' ∧ l + m ≤ 900 then some (.T w (l + m) (bothS a b c o xs ys)) else none
  | _, _ => none
def appK (o : Kp3) : Va → Va → Option Va
  | .T w l xs, .T w' m ys => if w = 2 ∧ w' = 2 then some (.T 2 l (keptR n o xs ys)) else none
  | _, _ => none
def app1 : Wd → Va → Option Va
  | .prj, .T w l rs => if w = 2 then some (.T 1 l (cutS a 1 rs)) else none
  | .prs, .T w l rs => if w = 3 then some (.T 2 l (cutS a 2 rs)) else none
  | .tot, .T w l rs => if w = 2 then some (.N (totR e rs)) else none
  | .cnt, .T w l rs => some (.N (some ((rs.length : Nat) : Int)))
  | .dis, .T w l rs => some (.T w l (onceS rs))
  | .no, .F k x => if k ≤ 19 then some (.F (k + 1) (.not x)) else none
  | _, _ => none
def app2 : Wd → Va → Va → Option Va
  | .uni, x, y => appO a b c .uni x y
  | .int, x, y => appO a b c .int x y
  | .dif, x, y => appO a b c .dif x y
  | .semi, x, y => appK n .semi x y
  | .anti, x, y => appK n .anti x y
  | .notin, x, y => appK n .notin x y
  | .sel, .T w l xs, .F k x => if w = 2 ∧ k ≤ 20 then some (.T 2 l (selR n x xs)) else none
  | .jn, .T w l xs, .T w' m ys => if w = 2 ∧ w' = 2 ∧ l * m ≤ 900 then some (.T 3 (l * m) (joinS n xs ys)) else none
  | .pls, .N i, .N j => some (.N (plusO i j))
  | .et, .F k x, .F l y => if k + l ≤ 19 then some (.F (k + l + 1) (.and x y)) else none
  | .vel, .F k x, .F l y => if k + l ≤ 19 then some (.F (k + l + 1) (.or x y)) else none
  | _, _, _ => none
def Sd.val (env : List (String × Va)) : Sd → Option Va
  | .v s => env.lookup s
  | .u w x => (x.val env).bind fun p => app1 a e w p
  | .b w x y => (x.val env).bind fun p => (y.val env).bind fun q => app2 a b c n w p q
end
section
variable {a b c : Bool} {n : N3} {e : Bool}
theorem sq_ok {l m : Nat} (h : l + m ≤ 900) : (l + m) * (l + m) ≤ lim := Nat.le_trans (Nat.mul_le_mul h h) (by rw [lim_eq]; decide)
end
end PW
namespace PW
open PySem PySem.Spec PyProof.Rows L2 DL LW
theorem lim900 {m : Nat} (h : m ≤ 900) : m ≤ lim := by rw [lim_eq]; omega
section
end
end PW
namespace PW
open PySem PySem.Spec PyProof.Rows L2 DL LW
structure Idn where
  name : String
  l : Sd
  r : Sd
abbrev sD (s : String) : D := .str (Str.ofString s)
def idns : List Idn := [⟨"idempotent union", .b .uni (.v "A") (.v "A"), .v "A"⟩,
  ⟨"absorbing union", .b .uni (.v "A") (.b .int (.v "A") (.v "B")), .v "A"⟩,
  ⟨"absorbing intersection", .b .int (.v "A") (.b .uni (.v "A") (.v "B")), .v "A"⟩,
  ⟨"intersection by difference", .b .int (.v "A") (.v "B"), .b .dif (.v "A") (.b .dif (.v "A") (.v "B"))⟩,
  ⟨"difference of union", .b .dif (.v "A") (.b .uni (.v "B") (.v "C")), .b .dif (.b .dif (.v "A") (.v "B")) (.v "C")⟩,
  ⟨"union less part", .b .dif (.b .uni (.v "A") (.v "B")) (.v "B"), .b .dif (.v "A") (.v "B")⟩,
  ⟨"add and take", .b .dif (.b .uni (.v "A") (.v "B")) (.v "B"), .v "A"⟩,
  ⟨"intersection over union", .b .int (.v "A") (.b .uni (.v "B") (.v "C")), .b .uni (.b .int (.v "A") (.v "B")) (.b .int (.v "A") (.v "C"))⟩,
  ⟨"union over intersection", .b .uni (.v "A") (.b .int (.v "B") (.v "C")), .b .int (.b .uni (.v "A") (.v "B")) (.b .uni (.v "A") (.v "C"))⟩,
  ⟨"filter or", .b .sel (.v "A") (.b .vel (.v "p") (.v "q")), .b .uni (.b .sel (.v "A") (.v "p")) (.b .sel (.v "A") (.v "q"))⟩,
  ⟨"filter and", .b .sel (.v "A") (.b .et (.v "p") (.v "q")), .b .int (.b .sel (.v "A") (.v "p")) (.b .sel (.v "A") (.v "q"))⟩,
  ⟨"filter not", .b .sel (.v "A") (.u .no (.v "p")), .b .dif (.v "A") (.b .sel (.v "A") (.v "p"))⟩,
  ⟨"filter complete", .b .sel (.v "A") (.b .vel (.v "p") (.u .no (.v "p"))), .v "A"⟩,
  ⟨"projection of union", .u .prj (.b .uni (.v "A") (.v "B")), .b .uni (.u .prj (.v "A")) (.u .prj (.v "B"))⟩,
  ⟨"projection of intersection", .u .prj (.b .int (.v "A") (.v "B")), .b .int (.u .prj (.v "A")) (.u .prj (.v "B"))⟩,
  ⟨"self semijoin", .b .semi (.v "A") (.v "A"), .v "A"⟩,
  ⟨"semijoin and antijoin", .b .uni (.b .semi (.v "A") (.v "B")) (.b .anti (.v "A") (.v "B")), .v "A"⟩,
  ⟨"not in", .b .notin (.v "A") (.v "B"), .b .anti (.v "A") (.v "B")⟩,
  ⟨"join as semijoin", .u .prs (.b .jn (.v "A") (.v "B")), .b .semi (.v "A") (.v "B")⟩,
  ⟨"join over union", .b .jn (.v "A") (.b .uni (.v "B") (.v "C")), .b .uni (.b .jn (.v "A") (.v "B")) (.b .jn (.v "A") (.v "C"))⟩,
  ⟨"count of union", .u .cnt (.b .uni (.v "A") (.v "B")), .b .pls (.u .cnt (.v "A")) (.u .cnt (.v "B"))⟩,
  ⟨"inclusion and exclusion", .b .pls (.u .cnt (.b .uni (.v "A") (.v "B"))) (.u .cnt (.b .int (.v "A") (.v "B"))), .b .pls (.u .cnt (.v "A")) (.u .cnt (.v "B"))⟩,
  ⟨"total of union", .u .tot (.b .uni (.v "A") (.v "B")), .b .pls (.u .tot (.v "A")) (.u .tot (.v "B"))⟩,
  ⟨"total of parts", .b .pls (.u .tot (.b .sel (.v "A") (.v "p"))) (.u .tot (.b .sel (.v "A") (.u .no (.v "p")))), .u .tot (.v "A")⟩,
  ⟨"distinct union", .u .dis (.b .uni (.v "A") (.v "B")), .b .uni (.u .dis (.v "A")) (.u .dis (.v "B"))⟩,
  ⟨"distinct difference", .u .dis (.b .dif (.v "A") (.v "B")), .b .dif (.u .dis (.v "A")) (.u .dis (.v "B"))⟩]
def Sd.nms : Sd → List String
  | .v s => [s]
  | .u _ x => x.nms
  | .b _ x y => x.nms ++ y.nms
def Idn.names (i : Idn) : List String := ["A", "B", "C", "p", "q"].filter fun s => decide (s ∈ i.l.nms ++ i.r.nms)
def wordOf (s : String) : String := if s ∈ ["A", "B", "C"] then "table" else "filter"
structure Idn.Good (i : Idn) : Prop where
  ld : i.l.dep ≤ 6
  rd : i.r.dep ≤ 6
  ln : i.l.nms.length ≤ 10
  rn : i.r.nms.length ≤ 10
  nn : i.names ≠ []
  nd : i.names.Nodup
  kg : k_SIDES.lookup (Str.ofString i.name) = some (.tuple [i.l.d, i.r.d])
theorem idns_good : ∀ i ∈ idns, i.Good := by
  intro i hi
  simp only [idns, List.mem_cons, List.not_mem_nil, or_false] at hi
  rcases hi with rfl | rfl | rfl | rfl | rfl | rfl | rfl | rfl | rfl | rfl | rfl | rfl | rfl | rfl | rfl | rfl | rfl | rfl | rfl | rfl | rfl | rfl | rfl | rfl | rfl | rfl <;>
    exact ⟨by decide, by decide, by decide, by decide, by decide, by decide, rfl⟩
end PW
namespace PW
open PySem PySem.Spec PyProof.Rows L2 DL LW
theorem ten_ok {k : Nat} (h : k ≤ 20) : k ≤ sizeLine := big_ok (by rw [lim_eq]; omega)
abbrev SpShape (f : Fs) : Prop := ∀ i : Idn, i ∈ idns → f [.dat (sD i.name)] = pur (.tuple (i.names.map fun s => sD (wordOf s)))
theorem is_ok : ∀ i ∈ idns, dFun 1 1 d_is_identity [.dat (sD i.name)] = pur (.bool true) := by
  intro i hi
  have g := idns_good i hi
  have k : kinD k_SIDES (sD i.name) = some true := by
    show some (k_SIDES.lookup (Str.ofString i.name)).isSome = _
    rw [g.kg]; rfl
  simp [dFun_eq, d_is_identity, isA, truD, k, dKinE]
abbrev SpChkI (f : Fs) : Prop := ∀ i ∈ idns, f [.dat (sD i.name)] = pur .none
theorem chkI_ok {f : Fs} (h : ∀ i ∈ idns, f [.dat (sD i.name)] = pur (.bool true)) : SpChkI (dFun 1 1 (d_check_identity f)) := by
  intro i hi
  simp [dFun_eq, d_check_identity, h i hi, truD]
end PW
namespace PW
open PySem PySem.Spec PyProof.Rows L2 DL LW
structure Ar where
  xs : List LW.Row
  ys : List LW.Row
  zs : List LW.Row
  p : Flt
  q : Flt
def Ar.at (A : Ar) (s : String) : Va := if s = "A" then .T 2 12 A.xs else if s = "B" then .T 2 12 A.ys else if s = "C" then .T 2 12 A.zs else if s = "p" then .F 3 A.p else .F 3 A.q
structure Ar.Ok (A : Ar) (a : Bool) (n : N3) : Prop where
  x : TabOk a n A.xs
  y : TabOk a n A.ys
  z : TabOk a n A.zs
  p1 : A.p.ok = true
  p2 : A.p.size ≤ 3
  q1 : A.q.ok = true
  q2 : A.q.size ≤ 3
def Ar.env (A : Ar) (l : List String) : List (String × Va) := l.map fun s => (s, A.at s)
def Ar.tup (A : Ar) (l : List String) : D := .tuple (l.map fun s => (A.at s).d)
abbrev SpIsArg (f : Fs) : Prop := ∀ a b c n e (A : Ar) (s : String), A.Ok a n → f [.dat (wayD a b c n e), .dat (sD (wordOf s)), .dat (A.at s).d] = pur (.bool true)
abbrev SpAreArgs (f : Fs) : Prop := ∀ a b c n e (A : Ar) (i : Idn), i ∈ idns → A.Ok a n → f [.dat (wayD a b c n e), .dat (sD i.name), .dat (A.tup i.names)] = pur (.bool true)
theorem all_true (l : List String) : allD [PyData.list (l.map fun _ => PyData.bool true)] = some (.bool true) := by
  show (bools _).map _ = _
  rw [bools_map (fun _ => true), Option.map_some]
  congr 2
  induction l with
  | nil => rfl
  | cons s l ih => simpa using ih
theorem are_ok {fs fi : Fs} (h1 : SpShape fs) (h2 : SpIsArg fi) : SpAreArgs (dFun 3 6 (d__are_arguments fs fi)) := by
  intro a b c n e A i hi h
  have s := h1 i hi
  have hl : i.names.length ≤ 5 := List.length_filter_le _ _
  have hz := ten_ok (show i.names.length ≤ 20 by omega)
  have zp : zipD [.tuple (i.names.map fun s => sD (wordOf s)), A.tup i.names] = some (i.names.map fun s => PyData.tuple [sD (wordOf s), (A.at s).d]) := by
    simp [zipD, Ar.tup, List.zip_map', Function.comp_def]
  have go := fun w0 => compGo_all (t := .tup [4, 5]) (e := dCl 3 fi (dCons (dVar 0) (dCons (dVar 4) (dCons (dVar 5) (dNil))))) (ev := [.dat (wayD a b c n e), .dat (sD i.name), w0, .dat (.tuple (i.names.map fun s => sD (wordOf s))), .hid, .hid]) (fun s => PyData.tuple [sD (wordOf s), (A.at s).d]) (fun s => PyData.bool true) i.names fun s hs => ⟨_, rfl, by
    have := h2 a b c n e A s h
    simp [this]⟩
  have it : isA (A.tup i.names) Ty.tuple = true := rfl
  have l1 : lenD [A.tup i.names] = some (.int (i.names.length : Nat)) := by simp [lenD, Ar.tup]
  have l2 : lenD [.tuple (i.names.map fun s => sD (wordOf s))] = some (.int (i.names.length : Nat)) := by simp [lenD]
  have al := all_true i.names
  simp [dFun_eq, d__are_arguments, s, it, truD, l1, l2, zp, go, hz, al]
abbrev SpIds (f : Fs) : Prop := f [] = pur (.tuple (idns.map fun i => sD i.name))
theorem ids_ok : SpIds (dFun 0 0 d_identities) := by
  have z : (ktK k_SIDES).map PyData.str = idns.map fun i => sD i.name := rfl
  show dFun 0 0 d_identities [] = _
  rw [dFun_eq]
  simp [d_identities, dKtup, z]
end PW
namespace PW
open PySem PySem.Spec PyProof.Rows L2 DL LW
section
variable {a b c : Bool} {n : N3} {e : Bool} {f : Fs}
theorem ok_lim {w l : Nat} {xs : List LW.Row} (h : (Va.T w l xs).Ok a n) : xs.length ≤ 900 := Nat.le_trans h.2.1 h.2.2.2.2
theorem ok_row {w l : Nat} {xs : List LW.Row} (h : (Va.T w l xs).Ok a n) : ∀ r ∈ xs, r.length ≤ lim := fun r hr => by
  have := (h.1.row r hr).1
  have := h.2.2.2.1
  rw [lim_eq]; omega
theorem lb (h : SpBoth f) (o : Op3) {w l m : Nat} {us vs : List LW.Row} (hu : (Va.T w l us).Ok a n) (hv : (Va.T w m vs).Ok a n) (g : l + m ≤ 900) : f [.dat (wayD a b c n e), .dat (.str (Str.ofString o.s)), .dat (rowsT us), .dat (rowsT vs)] = pur (rowsT (bothS a b c o us vs)) :=
  h a b c n e o us vs (sq_ok (by have := hu.2.1; have := hv.2.1; omega)) (ok_row hu) (ok_row hv)
theorem lk (h : SpKept f) (o : Kp3) {l m : Nat} {us vs : List LW.Row} (hu : (Va.T 2 l us).Ok a n) (hv : (Va.T 2 m vs).Ok a n) : f [.dat (wayD a b c n e), .dat (rowsT us), .dat (rowsT vs), .dat (.str (Str.ofString o.s))] = pur (rowsT (keptR n o us vs)) :=
  h a b c n e us vs o (lim900 (ok_lim hu)) (lim900 (ok_lim hv)) hu.1.two hv.1.two
theorem lc (h : SpCut f) (k : Nat) {w l : Nat} {us : List LW.Row} (hu : (Va.T w l us).Ok a n) : f [.dat (wayD a b c n e), .dat (rowsT us), .dat (.int (k : Nat))] = pur (rowsT (cutS a k us)) :=
  h a b c n e us k (lim900 (ok_lim hu)) (ok_row hu)
theorem lo (h : SpOnce f) {w l : Nat} {us : List LW.Row} (hu : (Va.T w l us).Ok a n) : f [.dat (rowsT us)] = pur (rowsT (onceS us)) := (h us (lim900 (ok_lim hu)) (ok_row hu)).2
theorem lt (h : SpTotal f) {l : Nat} {us : List LW.Row} (hu : (Va.T 2 l us).Ok a n) : f [.dat (wayD a b c n e), .dat (rowsT us)] = pur (oiD (totR e us)) := h a b c n e us (lim900 (ok_lim hu)) hu.1.two
theorem rw_good {us : List LW.Row} (h : Rw 2 a n us) : LW.good us := fun r hr => by
  obtain ⟨u, v, e, hu, hv⟩ := h.ok2 r hr
  exact ⟨u, v, e, okU_nn hu, okU_nn hv⟩
theorem ls (h : SpSelect f 20) {l : Nat} {us : List LW.Row} (hu : (Va.T 2 l us).Ok a n) (x : Flt) (d : D) (h1 : x.ok = true) (h2 : x.size ≤ 20) (hd : x.d = d) : f [.dat (wayD a b c n e), .dat (rowsT us), .dat d] = pur (rowsT (selR n x us)) := by
  subst hd
  exact h a b c n e us x (lim900 (ok_lim hu)) (rw_good hu.1) h1 h2
end
end PW
namespace PW
open PySem PySem.Spec PyProof.Rows L2 DL LW
abbrev SpLNames (f : Fs) : Prop := f [] = pur (.list (idns.map fun i => sD i.name))
theorem addL (xs ys : List D) (h : xs.length + ys.length ≤ 40) : addD (.list xs) (.list ys) = some (.list (xs ++ ys)) := by
  have : xs.length + ys.length ≤ sizeLine := big_ok (by rw [lim_eq]; omega)
  simp [addD, this]
theorem lnames_ok : SpLNames (dFun 0 1 LW.d__law_names) := by
  show dFun 0 1 LW.d__law_names [] = _
  rw [dFun_eq]
  simp [LW.d__law_names, addL, idns]
section
end
def GoodA (a : Bool) (n : N3) (s : String) (d : D) : Prop := if wordOf s = "table" then ∃ xs, TabOk a n xs ∧ d = rowsT xs else ∃ x : Flt, d = x.d ∧ x.ok = true ∧ x.size ≤ 3
def GoodL (a : Bool) (n : N3) : List String → List D → Prop
  | [], [] => True
  | s :: l, d :: ds => GoodA a n s d ∧ GoodL a n l ds
  | _, _ => False
theorem GoodL.len {a : Bool} {n : N3} : ∀ {l : List String} {ds : List D}, GoodL a n l ds → ds.length = l.length
  | [], [], _ => rfl
  | t :: l, e :: ds, g => by simp [GoodL.len g.2]
  | [], _ :: _, g => g.elim
  | _ :: _, [], g => g.elim
end PW
namespace PW
open PySem PySem.Spec PyProof.Rows L2 DL LW
section
end
end PW
namespace PW
open PySem PySem.Spec PyProof.Rows L2 DL LW
section
end
end PW
namespace PW
open PySem PySem.Spec PyProof.Rows L2 DL LW
section
end
end PW
namespace PW
open PySem PySem.Spec PyProof.Rows L2 DL LW
def holdL (a b c : Bool) (n : N3) (e : Bool) : List (String × Bool) := [("idempotent union", !a || b), ("absorbing union", !a || b), ("absorbing intersection", true), ("intersection by difference", !a || c), ("difference of union", !a || (!c || !b)),
  ("union less part", !a || (!c || b)), ("add and take", a && (!b && c)), ("intersection over union", !a || b), ("union over intersection", true), ("filter or", !a || b),
  ("filter and", true), ("filter not", !n.unk), ("filter complete", !n.unk), ("projection of union", !a || !b), ("projection of intersection", false),
  ("self semijoin", !n.unk), ("semijoin and antijoin", true), ("not in", !n.unk), ("join as semijoin", !a), ("join over union", true), ("count of union", a && !b),
  ("inclusion and exclusion", !a || b), ("total of union", a && (!b && !e)), ("total of parts", !e && !n.unk), ("distinct union", !a || b), ("distinct difference", !a || !c)]
def holdB (a b c : Bool) (n : N3) (e : Bool) (s : String) : Bool := ((holdL a b c n e).lookup s).getD false
end PW
namespace DL
open PySem PySem.Spec PyProof.Rows L2
section
variable {X : Cx} {CX : CXT} {k : Nat} {f : Addr} {fd : FuncData} {ps : List Str} {sp : Sp} {E : L2.St → XK} {x : Str} {p pos : Pos}
theorem pe_callZ (F : FnOk X.prog X.w X.K X.mg X.base CX k f fd ps sp) (hr : Room k X.A) (hg : Gl X x) (hm : X.mg x = some (.ref f)) (hk : PySem.W.keepIn X.K (.ref f) = true) (hb : Binds X.K fd ps []) (hx : ∀ σ, PassesAt CX X σ (E σ)) (hdb : (x == ("__debug__" : Str)) = false) :
    PE X (.Call (.Name x p) [] [] pos) (fun σ H Q => sp [] H Q (E σ)) := by
  refine ⟨fun pins s σ H Q I h => ?_⟩
  exact wpAny_Call_Name_kw (ld_glob I hg hm (PySem.W.callWith_K0 I.kIn hk (run_fnS (us := []) F hr hb (hx σ) I .nil h)) hdb)
end
section
variable {G : Gm} {k : Nat} {sc : Sx} {N : List Str}
theorem e_call0 {x : Str} {j : Nat} {φ : List Slot → Mn D} {p pos : Pos} (F : FO G j x 0 φ) (hj : j ≤ k) (hg : glB sc x = true := by rfl) (hdb : (x == ("__debug__" : Str)) = false := by decide) : SE G k sc N (.Call (.Name x p) [] [] pos) (dCl 0 φ dNil) := fun X W g tk => by
  obtain ⟨fa, fd, ps, h1, h2, h3, h4, h5⟩ := F
  have F' : FnOk X.prog X.w X.K X.mg X.base (L2.CX X.prog X.w) j fa fd ps (spF G 0 φ) := by rw [g.hP, g.hw, g.hK, g.hmg, g.hb]; exact h5
  refine pe_imp (pe_callZ F' (g.room.mono hj) (gl_of g hg) (by rw [g.hmg]; exact h1) (by rw [g.hK]; exact h2) (by rw [g.hK]; exact h3) (fun σ => passAt tk σ) hdb) fun σ H Q h => ?_
  obtain ⟨M, r, ev, rs, R, o, rs', e, w⟩ := h
  exact ⟨rfl, M, r, [], rs, R.mr, R.ml, R.row, .nil, o, rs', e, w⟩
end
end DL
namespace LX
open PySem PySem.Spec PyProof.Rows L2 DL
def d__law_holds (f__law_names : List Slot → Mn D) : Ev → Ms :=
    seqM (sTgt (.tup [2, 3, 4, 5]) (dTup (dCons (dCmpE eqD (dBin ixD (dVar 0) (dLit (.int 0))) (dLit (.str "set"))) (dCons (dCmpE eqD (dBin ixD (dVar 0) (dLit (.int 1))) (dLit (.str "maximum"))) (dCons (dCmpE eqD (dBin ixD (dVar 0) (dLit (.int 2))) (dLit (.str "kind"))) (dCons (dCmpE neD (dBin ixD (dVar 0) (dLit (.int 3))) (dLit (.str "unknown"))) (dNil)))))))
    (seqM (sOwnD 6 (dComp [7] (dItm (dCl 0 f__law_names (dNil))) (.name 7) (dYes) (dTup (dCons (dVar 7) (dCons (dLit (.bool true)) (dNil))))))
    (seqM (sFor false (dItm (dLst (dCons (dLit (.str "idempotent union")) (dCons (dLit (.str "absorbing union")) (dCons (dLit (.str "intersection over union")) (dCons (dLit (.str "filter or")) (dCons (dLit (.str "inclusion and exclusion")) (dCons (dLit (.str "distinct union")) (dNil))))))))) (.name 7) (sPut 6 (dVar 7) (dOrV (dVar 2) (dVar 3))))
    (seqM (sFor false (dItm (dLst (dCons (dLit (.str "filter not")) (dCons (dLit (.str "filter complete")) (dCons (dLit (.str "self semijoin")) (dCons (dLit (.str "not in")) (dNil))))))) (.name 7) (sPut 6 (dVar 7) (dVar 5)))
    (seqM (sPuts 6 2 [dLit (.str "intersection by difference"), dLit (.str "distinct difference")] (dCons (dOrV (dVar 2) (dNotV (dVar 4))) (dCons (dOrV (dVar 2) (dVar 4)) (dNil))))
    (seqM (sPuts 6 2 [dLit (.str "difference of union"), dLit (.str "union less part")] (dCons (dOrV (dVar 2) (dOrV (dVar 4) (dNotV (dVar 3)))) (dCons (dOrV (dVar 2) (dOrV (dVar 4) (dVar 3))) (dNil))))
    (seqM (sPuts 6 2 [dLit (.str "add and take"), dLit (.str "count of union")] (dCons (dAndV (dNotV (dVar 2)) (dAndV (dNotV (dVar 3)) (dNotV (dVar 4)))) (dCons (dAndV (dNotV (dVar 2)) (dNotV (dVar 3))) (dNil))))
    (seqM (sPuts 6 2 [dLit (.str "projection of union"), dLit (.str "projection of intersection")] (dCons (dOrV (dVar 2) (dNotV (dVar 3))) (dCons (dLit (.bool false)) (dNil))))
    (seqM (sPut 6 (dLit (.str "join as semijoin")) (dVar 2))
    (seqM (sPuts 6 2 [dLit (.str "total of union"), dLit (.str "total of parts")] (dCons (dAndV (dNotV (dVar 2)) (dAndV (dNotV (dVar 3)) (dCmpE eqD (dBin ixD (dVar 0) (dLit (.int 4))) (dLit (.str "zero"))))) (dCons (dAndV (dCmpE eqD (dBin ixD (dVar 0) (dLit (.int 4))) (dLit (.str "zero"))) (dVar 5)) (dNil))))
    (sRet (dBin gixD (dVar 6) (dVar 1))))))))))))
end LX
namespace PW
open PySem PySem.Spec PyProof.Rows L2 DL LW
def namesL : List D := idns.map fun i => sD i.name
def holdK (a b c : Bool) (n : N3) (e : Bool) : List (Str × D) := (holdL a b c n e).map fun p => (Str.ofString p.1, .bool p.2)
theorem cl_names {f : Fs} (h : SpLNames f) : dCl 0 f dNil = dCl 0 (fun _ => pur (.list namesL)) dNil := by
  have h : f [] = pur (.list namesL) := h
  funext ev
  simp [h]
abbrev lhEv (a b c : Bool) (n : N3) (e : Bool) (nm : D) : Ev := [.dat (wayD a b c n e), .dat nm, .dat (.bool !a), .dat (.bool b), .dat (.bool !c), .dat (.bool !n.unk), .own (.d (holdK a b c n e)), .dat (.str "not in")]
theorem lh_run (a b c : Bool) (n : N3) (e : Bool) (nm : D) (rs : RS) : LX.d__law_holds (fun _ => pur (.list namesL)) [.dat (wayD a b c n e), .dat nm, .hid, .hid, .hid, .hid, .hid, .hid] rs = sRet (dBin gixD (dVar 6) (dVar 1)) (lhEv a b c n e nm) rs := by
  cases a <;> cases b <;> cases c <;> cases n <;> cases e <;> kernel_rfl
theorem look_hold (s : String) : ∀ {l : List (String × Bool)} {v : Bool}, l.lookup s = some v → lookS ((l.map fun p => (Str.ofString p.1, PyData.bool p.2)).map skD) (Str.ofString s) = some (.bool v)
  | [], _, h => by cases h
  | p :: l, v, h => by
    rw [List.lookup] at h
    rw [List.map_cons, List.map_cons]
    unfold lookS
    by_cases g : s = p.1
    · subst g
      simp at h
      subst h
      exact if_pos rfl
    · have g1 : (s == p.1) = false := by simpa using g
      rw [g1] at h
      show (if Str.ofString p.1 = Str.ofString s then _ else _) = _
      rw [if_neg fun z => g (by simpa using z.symm)]
      exact look_hold s h
theorem hold_some (a b c : Bool) (n : N3) (e : Bool) : ∀ i ∈ idns, (holdL a b c n e).lookup i.name = some (holdB a b c n e i.name) := by
  intro i hi
  simp only [idns, List.mem_cons, List.not_mem_nil, or_false] at hi
  rcases hi with rfl | rfl | rfl | rfl | rfl | rfl | rfl | rfl | rfl | rfl | rfl | rfl | rfl | rfl | rfl | rfl | rfl | rfl | rfl | rfl | rfl | rfl | rfl | rfl | rfl | rfl <;> rfl
abbrev SpHolds (f : Fs) : Prop := ∀ a b c n e (i : Idn), i ∈ idns → f [.dat (wayD a b c n e), .dat (sD i.name)] = pur (.bool (holdB a b c n e i.name))
theorem lholds_ok {f : Fs} (h : SpLNames f) : SpHolds (dFun 2 8 (LX.d__law_holds f)) := by
  intro a b c n e i hi
  have q : LX.d__law_holds f = LX.d__law_holds (fun _ => pur (.list namesL)) := by
    unfold LX.d__law_holds
    rw [cl_names h]
  have r : LX.d__law_holds (fun _ => pur (.list namesL)) [.dat (wayD a b c n e), .dat (sD i.name), .hid, .hid, .hid, .hid, .hid, .hid] = sRet (dBin gixD (dVar 6) (dVar 1)) (lhEv a b c n e (sD i.name)) := funext fun rs => lh_run a b c n e (sD i.name) rs
  have lk := look_hold i.name (hold_some a b c n e i hi)
  have gx : gixD (.dict ((holdK a b c n e).map skD)) (sD i.name) = some (.bool (holdB a b c n e i.name)) := lk
  rw [dFun_eq, q]
  show (if _ then fin (LX.d__law_holds (fun _ => pur (.list namesL)) [.dat (wayD a b c n e), .dat (sD i.name), .hid, .hid, .hid, .hid, .hid, .hid]) else stk) = _
  rw [if_pos (by rfl), r]
  have ln : lendS (.own (.d (holdK a b c n e))) = .dat (.dict ((holdK a b c n e).map skD)) := rfl
  simp [lhEv, ln, gx]
abbrev hoB : Ev → Mn D := dFn anyD (dCons (dComp [2] (dItm (dKget k_HOLDS_WITH (dVar 1))) (.name 2) (dYes) (dFn allD (dCons (dComp [3] (dItm (dVar 2)) (.name 3) (dYes) (dCmpE inD (dVar 3) (dVar 0))) (dNil)))) (dNil))
theorem holds_run (a b c : Bool) (n : N3) (e : Bool) (rs : RS) : (idns.map fun i => hoB [.dat (wayD a b c n e), .dat (sD i.name), .hid, .hid] rs) = idns.map fun i => some (Out.val (.bool (holdB a b c n e i.name)), rs) := by
  cases a <;> cases b <;> cases c <;> cases n <;> cases e <;> kernel_rfl
theorem holds_ok {fc fi : Fs} (h1 : SpChkS fc) (h2 : SpChkI fi) : SpHolds (dFun 2 4 (d_holds fc fi)) := by
  intro a b c n e i hi
  have k1 := h1 a b c n e
  have k2 := h2 i hi
  have z : hoB [.dat (wayD a b c n e), .dat (sD i.name), .hid, .hid] = pur (.bool (holdB a b c n e i.name)) := funext fun rs => List.map_inj_left.mp (holds_run a b c n e rs) i hi
  rw [dFun_eq]
  show (if _ then fin (DL.seqM _ (DL.seqM _ (pRet hoB)) [.dat (wayD a b c n e), .dat (sD i.name), .hid, .hid]) else stk) = _
  rw [if_pos (by rfl), seqM_eq]
  simp [-dFn_eq, -dComp_eq, k1, k2, z]
end PW
namespace ST
open PySem PySem.Spec PyProof.Rows L2
abbrev txH (P : Program) (w : World) (ws : List Str) : Int := tupleKeyHash (PySem.strKind P w) ws
abbrev Wd (P : Program) (w : World) (H : Heap) (ws : List Str) (b : Addr) : Prop := IsTupleKey (PySem.strKind P w) H ws b
abbrev Mb := Addr × List Str
def ents (P : Program) (w : World) (Ms : List Mb) : List (Int × Value) := Ms.map fun m => (txH P w m.2, .ref m.1)
section
variable {P : Program} {w : World} {Ar : Around} {Er : Value → Shared → Prop} {st : Shared}
theorem words_are {ws : List Str} {vs : List Value} (g : ItemsAre (PySem.strKind P w) ws vs) : ∀ v ∈ vs, ∃ x tk, v = Value.str x tk := by
  induction g with
  | nil => intro v z; cases z
  | @cons x v' ws vs g1 _ ih =>
    intro v z
    rcases List.mem_cons.mp z with rfl | z
    · cases v <;> first | exact ⟨_, _, rfl⟩ | exact absurd g1 (by simp [PySem.strKind, Value.isStrOf])
    · exact ih v z
theorem cls_str (n : Nat) (x : Str) (tk : Tok) : ofAClassStatement n (.str x tk) = pure false := by cases n <;> rfl
theorem val_str (n : Nat) (x : Str) (tk : Tok) : hashByValue n (.str x tk) = pure false := by cases n <;> rfl
/-- a tuple of texts is of no class of the program's own -/
theorem wd_cls {ws : List Str} {b : Addr} {Qr : Bool → Shared → Prop} (g : Wd P w st.heap ws b) (q : Qr false st) : wpAny (model P w) Ar (ofAClassStatement 8 (.ref b)) Qr Er st := by
  have gT := g.typeIs
  obtain ⟨ob, its, n, hO, _, hD, hI⟩ := g
  unfold ofAClassStatement
  refine wpAny_bind (wpAny_typeOf gT ?_)
  have tt : (("tuple" : String) == "tuple") = true := by decide
  simp only [tt, if_true, Bool.not_true, Bool.false_eq_true, if_false]
  try refine wpAny_bind (wpAny_pure ?_)
  try simp only [Bool.not_true, Bool.false_eq_true, if_false]
  show wpAny (model P w) Ar (seqItems? (.ref b) >>= _) Qr Er st
  refine wpAny_bind (wpAny_seqItems hO hD ?_)
  dsimp only
  refine wpAny_bind ?_
  show wpAny (model P w) Ar (forIn its _ _) _ Er st
  rw [← Array.forIn_toList]
  refine wpAny_forIn_list _ (fun left z st' => z.1 = none ∧ st' = st ∧ ∀ v ∈ left, ∃ x tk, v = Value.str x tk) _ ?_ ?_ _ _ ⟨rfl, rfl, words_are hI⟩
  · rintro v left z st' ⟨hz, rfl, all⟩
    obtain ⟨x, tk, rfl⟩ := all v List.mem_cons_self
    rw [cls_str]
    refine wpAny_bind (wpAny_pure ?_)
    simp only [Bool.false_eq_true, if_false]
    exact wpAny_pure ⟨rfl, rfl, fun u hu => all u (List.mem_cons_of_mem _ hu)⟩
  · rintro ⟨z1, z2⟩ st' ⟨hz, rfl, _⟩
    simp only at hz
    subst hz
    exact wpAny_pure q
/-- whether its hash is by value: either -/
theorem wd_val {ws : List Str} {b : Addr} {Qr : Bool → Shared → Prop} (g : Wd P w st.heap ws b) (q : ∀ z, Qr z st) : wpAny (model P w) Ar (hashByValue 8 (.ref b)) Qr Er st := by
  have gT := g.typeIs
  obtain ⟨ob, its, n, hO, _, hD, hI⟩ := g
  unfold hashByValue
  refine wpAny_bind (wpAny_specialOf gT F.slot_tuple_hash.lookup ?_)
  show wpAny (model P w) Ar (seqItems? (.ref b) >>= _) Qr Er st
  refine wpAny_bind (wpAny_seqItems hO hD ?_)
  refine wpAny_bind ?_
  show wpAny (model P w) Ar (forIn its _ _) _ Er st
  rw [← Array.forIn_toList]
  refine wpAny_forIn_list _ (fun left z st' => (z.1 = none ∨ ∃ b, z.1 = some b) ∧ st' = st ∧ ∀ v ∈ left, ∃ x tk, v = Value.str x tk) _ ?_ ?_ _ _ ⟨.inl rfl, rfl, words_are hI⟩
  · rintro v left z st' ⟨hz, rfl, all⟩
    obtain ⟨x, tk, rfl⟩ := all v List.mem_cons_self
    rw [val_str]
    refine wpAny_bind (wpAny_pure ?_)
    simp only [Bool.not_false, if_true]
    refine wpAny_pure ?_
    exact wpAny_pure (q _)
  · rintro ⟨z1, z2⟩ st' ⟨hz, rfl, _⟩
    rcases hz with hz | ⟨b, hz⟩
    · simp only at hz
      subst hz
      exact wpAny_pure (q _)
    · simp only at hz
      subst hz
      exact wpAny_pure (q _)
/-- that such a tuple is sought among such tuples shows nothing -/
theorem wd_seen {ws : List Str} {b : Addr} {Qr : Bool → Shared → Prop} (g : Wd P w st.heap ws b) {ys : List Value} (gy : ∀ y ∈ ys, ∃ us c, y = Value.ref c ∧ Wd P w st.heap us c) (q : Qr false st) :
    wpAny (model P w) Ar (searchCouldBeSeen (.ref b) ys) Qr Er st := by
  unfold searchCouldBeSeen
  refine wpAny_bind ?_
  refine wpAny_forIn_list _ (fun left z st' => z.1 = none ∧ st' = st ∧ ∀ y ∈ left, ∃ us c, y = Value.ref c ∧ Wd P w st.heap us c) _ ?_ ?_ _ _ ⟨rfl, rfl, gy⟩
  · rintro v left z st' ⟨hz, rfl, all⟩
    obtain ⟨us, c, rfl, gc⟩ := all v List.mem_cons_self
    have left' : ∀ y ∈ left, ∃ us c, y = Value.ref c ∧ Wd P w st'.heap us c := fun u hu => all u (List.mem_cons_of_mem _ hu)
    dsimp only
    by_cases very : (b == c || (carriedByValue (.ref b) && carriedByValue (.ref c))) = true
    · exact wp_if_pos very (wpAny_pure ⟨rfl, rfl, left'⟩)
    · refine wp_if_neg very (wpAny_bind (wpAny_eqIsQuiet_tuple g ?_))
      simp only [Bool.not_true, Bool.false_eq_true, if_false]
      refine wpAny_bind (wpAny_eqIsQuiet_tuple gc ?_)
      simp only [Bool.not_true, Bool.false_eq_true, if_false]
      refine wpAny_bind (wd_cls g ?_)
      simp only [Bool.false_eq_true, if_false]
      refine wpAny_bind (wd_cls gc ?_)
      simp only [Bool.false_eq_true, if_false]
      exact wpAny_pure ⟨rfl, rfl, left'⟩
  · rintro ⟨z1, z2⟩ st' ⟨hz, rfl, _⟩
    simp only at hz
    subst hz
    exact wpAny_pure q
end
end ST
namespace ST
open PySem PySem.Spec PyProof.Rows L2
structure TxSet (P : Program) (w : World) (H : Heap) (a : Addr) (Ms : List Mb) (es : Array (Int × Value)) (ep : Nat) (t : SetTable) : Prop where
  obj : ∃ o, H.get? a = some o ∧ o.ExactSet ∧ o.data = .set es ep t
  lst : es.toList = ents P w Ms
  tab : TabOk t (Ms.map fun m => txH P w m.2)
  uni : (Ms.map (·.2)).Nodup
  mem : ∀ m ∈ Ms, Wd P w H m.2 m.1
  led : w.params.followText "set-order" = true ∨ t.led = true
  wide : Ms.length * 5 < t.mask * 3
  few : Ms.length < 64
section
variable {P : Program} {w : World} {Ar : Around} {Er : Value → Shared → Prop} {st : Shared} {a : Addr} {Ms : List Mb} {es : Array (Int × Value)} {ep : Nat} {t : SetTable}
theorem ents_len {es : Array (Int × Value)} {Ms : List Mb} (e : es.toList = ents P w Ms) : es.size = Ms.length := by
  have z := congrArg List.length e
  simpa [ents] using z
theorem fits_of {hs : List Int} (T : TabOk t hs) (e : es.size = hs.length) (l : hs.length ≤ t.mask) : t.fits es.size = true := by
  have z := T.sz
  unfold SetTable.fits SetTable.fill
  rw [T.dm, Bool.and_eq_true, beq_iff_eq, decide_eq_true_eq]
  exact ⟨by omega, by show t.place.size + 0 ≤ t.mask; omega⟩
theorem TxSet.fits (R : TxSet P w st.heap a Ms es ep t) : t.fits es.size = true := by
  have z := R.wide
  exact fits_of R.tab (by rw [List.length_map]; exact ents_len R.lst) (by rw [List.length_map]; omega)
theorem TxSet.row (R : TxSet P w st.heap a Ms es ep t) {i : Nat} {m : Mb} (e : Ms[i]? = some m) : es[i]? = some (txH P w m.2, Value.ref m.1) := by
  rw [← Array.getElem?_toList, R.lst]
  unfold ents
  rw [List.getElem?_map, e]
  rfl
theorem TxSet.gave (R : TxSet P w st.heap a Ms es ep t) : ¬ t.gaveWay = true := by
  unfold SetTable.gaveWay
  rw [mask_odd R.tab.mok]
  decide
theorem nth_dm (m : Nat) : ∀ (n : Nat) (p : SetTable.Probe), p.dummy = none → (nth m p n).dummy = none
  | 0, _, h => h
  | n + 1, p, h => nth_dm m n (adv m p) (by unfold adv; split <;> exact h)
/-- the c-th place of the way of h -/
abbrev pl (t : SetTable) (h : Int) (c : Nat) : SetTable.Probe := nth t.mask (runAt t.mask (SetTable.bits h % (t.mask + 1)) (SetTable.bits h)) c
theorem find_from (R : TxSet P w st.heap a Ms es ep t) {x : Addr} {ws : List Str} (g : Wd P w st.heap ws x) (hu : Ar.units < cLine) {K : Nat} (K1 : K < 10 * SetTable.turns t.mask)
    (K2 : way t.mask (txH P w ws) K ∉ t.place.toList) (K3 : ∀ c, c < K → way t.mask (txH P w ws) c ∈ t.place.toList) {Qr : SetFound → Shared → Prop}
    (qin : ws ∈ Ms.map (·.2) → Qr (.there none) st) (qout : ws ∉ Ms.map (·.2) → Qr (.free (way t.mask (txH P w ws) K) false) st) :
    ∀ (f c : Nat) (sd : Option SetTable.Probe), K - c < f → c ≤ K → sd.getD (t.probeStart (txH P w ws)) = pl t (txH P w ws) c →
      (∀ (i : Nat) m, Ms[i]? = some m → m.2 = ws → ∃ c', c ≤ c' ∧ c' < K ∧ t.place.toList[i]? = some (way t.mask (txH P w ws) c')) →
      wpAny (model P w) Ar (setSearchFrom a (.ref x) (txH P w ws) true f sd) Qr Er st
  | 0, _, _, lf, _, _, _ => absurd lf (Nat.not_lt_zero _)
  | f + 1, c, sd, lf, lc, hsd, later => by
    obtain ⟨ob, hO, hX, hD⟩ := R.obj
    have gone : ∀ n, (nth t.mask (pl t (txH P w ws) c) n).j = way t.mask (txH P w ws) (c + n) := fun n => congrArg SetTable.Probe.j (nth_add t.mask c _ n).symm
    have goneP : ∀ n, nth t.mask (pl t (txH P w ws) c) n = pl t (txH P w ws) (c + n) := fun n => (nth_add t.mask c _ n).symm
    have word := go_spec t R.tab.ris R.tab.dm (fun i => (es[i]?.map (·.1)).getD 0) (txH P w ws) (10 * SetTable.turns t.mask) (K - c) (pl t (txH P w ws) c) (nth_dm _ _ _ rfl) (by omega)
      (fun n hn => by rw [gone]; exact K3 _ (by omega)) (by rw [gone, show c + (K - c) = K by omega]; exact K2)
    have hv : ∀ (i : Nat) m, Ms[i]? = some m → (es[i]?.map (·.1)).getD 0 = txH P w m.2 := fun i m e => by rw [R.row e]; rfl
    rw [setSearchFrom_succ]
    refine wpAny_bind (wpAny_setState_of hO hD R.fits ?_)
    dsimp only
    refine wp_if_neg R.gave ?_
    try refine wpAny_bind (wpAny_pure ?_)
    rcases word with ⟨n, i, ln, hi, hh, first, pr⟩ | ⟨first, pr⟩
    · rw [gone] at hi
      have pr' : t.probe (fun i => (es[i]?.map (·.1)).getD 0) (txH P w ws) (sd.getD (t.probeStart (txH P w ws))) = some (.candidate (way t.mask (txH P w ws) (c + n)) i (pl t (txH P w ws) (c + (n + 1)))) := by
        rw [hsd, ← gone, ← goneP]
        exact pr
      rw [pr']
      dsimp only
      have li : i < Ms.length := by
        have z1 : i < t.place.toList.length := (List.getElem?_eq_some_iff.mp hi).1
        have z2 := R.tab.sz
        rw [List.length_map] at z2
        rw [Array.length_toList] at z1
        omega
      obtain ⟨m, hm⟩ : ∃ m, Ms[i]? = some m := ⟨_, List.getElem?_eq_getElem li⟩
      have mm : m ∈ Ms := List.mem_of_getElem? hm
      have gm := R.mem m mm
      have more : wpAny (model P w) Ar (searchRest a (.ref x) (txH P w ws) true f es t (way t.mask (txH P w ws) (c + n)) i (pl t (txH P w ws) (c + (n + 1)))) Qr Er st := by
        unfold searchRest
        rw [R.row hm]
        dsimp only
        refine wpAny_bind (wpAny_holding (wpAny_eqBool_tuple hu gm g ?_))
        refine wpAny_bind (wpAny_setState_of hO hD R.fits ?_)
        dsimp only
        rcases Classical.em (m.2 = ws) with ee | ee
        · exact wp_if_pos (by simp [ee]) (wpAny_pure (qin (List.mem_map.mpr ⟨m, mm, ee⟩)))
        · refine wp_if_neg (by simp [ee]) ?_
          try refine wpAny_bind (wpAny_pure ?_)
          have sl : t.slot (way t.mask (txH P w ws) (c + n)) = .live i := slot_live R.tab.ris hi
          rw [sameMem]
          simp only [if_true, sl, R.row hm]
          refine wpAny_bind (wpAny_isSame_ref_self (wpAny_bind (wpAny_pure ?_)))
          simp only [if_true]
          refine wp_if_neg (by simp [ee]) ?_
          refine find_from R g hu K1 K2 K3 qin qout f (c + (n + 1)) _ (by omega) (by omega) rfl fun i' m' e' k' => ?_
          obtain ⟨c', l1, l2, l3⟩ := later i' m' e' k'
          refine ⟨c', ?_, l2, l3⟩
          have n1 : ¬ c' < c + n := fun z => first (c' - c) i' (by omega) (by rw [gone, show c + (c' - c) = c' by omega]; exact l3) ((hv i' m' e').trans (by rw [k']))
          have n2 : c' ≠ c + n := fun z => by
            rw [z] at l3
            have s1 := slot_live R.tab.ris l3
            rw [sl] at s1
            injection s1 with s1
            rw [← s1, hm] at e'
            exact ee ((congrArg Prod.snd (Option.some.inj e')).trans k')
          omega
      rcases Bool.eq_false_or_eq_true t.led with ld | ld
      · refine wp_if_neg (by simp [ld]) ?_
        try refine wpAny_bind (wpAny_pure ?_)
        exact more
      · refine wp_if_pos (by simp [ld]) (wpAny_bind (wd_seen g (fun y hy => ?_) (wp_if_neg (by decide) ?_)))
        · obtain ⟨en, hen, rfl⟩ := List.mem_map.mp hy
          have h1 : en ∈ es ∧ en.1 = txH P w ws := by simpa using hen
          have h2 : en ∈ es.toList := by simpa using h1.1
          rw [R.lst] at h2
          obtain ⟨m', hm', rfl⟩ := List.mem_map.mp h2
          exact ⟨m'.2, m'.1, rfl, R.mem m' hm'⟩
        · try refine wpAny_bind (wpAny_pure ?_)
          exact more
    · have pr' : t.probe (fun i => (es[i]?.map (·.1)).getD 0) (txH P w ws) (sd.getD (t.probeStart (txH P w ws))) = some (.empty (way t.mask (txH P w ws) K) none) := by
        have z : way t.mask (txH P w ws) K = (nth t.mask (pl t (txH P w ws) c) (K - c)).j := by rw [gone, show c + (K - c) = K by omega]
        rw [hsd, z]
        exact pr
      rw [pr']
      dsimp only
      refine wpAny_pure (qout fun hm => ?_)
      obtain ⟨m, hm, k⟩ := List.mem_map.mp hm
      obtain ⟨i, li, e⟩ := List.getElem_of_mem hm
      have hi : Ms[i]? = some m := by rw [List.getElem?_eq_getElem li, e]
      obtain ⟨c', l1, l2, l3⟩ := later i m hi k
      exact first (c' - c) i (by omega) (by rw [gone, show c + (c' - c) = c' by omega]; exact l3) ((hv i m hi).trans (by rw [k]))
/-- the search of an adding -/
theorem find_at (R : TxSet P w st.heap a Ms es ep t) {x : Addr} {ws : List Str} (g : Wd P w st.heap ws x) (hu : Ar.units < cLine) {Qr : SetFound → Shared → Prop}
    (qin : ws ∈ Ms.map (·.2) → Qr (.there none) st)
    (qout : ∀ K, ws ∉ Ms.map (·.2) → way t.mask (txH P w ws) K ∉ t.place.toList → (∀ c, c < K → way t.mask (txH P w ws) c ∈ t.place.toList) → Qr (.free (way t.mask (txH P w ws) K) false) st) :
    wpAny (model P w) Ar (setSearch a (.ref x) (txH P w ws) true) Qr Er st := by
  have wd := R.wide
  obtain ⟨K, K1, K2, K3⟩ := R.tab.first (by rw [List.length_map]; omega) (txH P w ws)
  have big : K < 100000 := by
    have : 10 * SetTable.turns t.mask ≤ 1420 := by
      unfold SetTable.turns
      rcases R.tab.mok with e | e | e <;> omega
    omega
  unfold setSearch
  refine find_from R g hu K1 K2 K3 qin (fun n => qout K n K2 K3) 100000 0 none (by omega) (Nat.zero_le _) rfl fun i m hm k => ?_
  have hi : (Ms.map fun m => txH P w m.2)[i]? = some (txH P w ws) := by
    rw [List.getElem?_map, hm, ← k]
    rfl
  have li : i < t.place.toList.length := by
    have z1 : i < Ms.length := (List.getElem?_eq_some_iff.mp hm).1
    have z2 := R.tab.sz
    rw [List.length_map] at z2
    rw [Array.length_toList]
    omega
  have hj := List.getElem?_eq_getElem li
  obtain ⟨c, lc, e⟩ := R.tab.before K2 hi hj
  exact ⟨c, Nat.zero_le _, lc, by rw [hj, e]⟩
end
end ST
namespace ST
open PySem PySem.Spec PyProof.Rows L2
section
variable {P : Program} {w : World} {Ar : Around} {Er : Value → Shared → Prop} {st : Shared} {a : Addr} {Ms : List Mb} {es : Array (Int × Value)} {ep : Nat} {t : SetTable}
theorem wd_but {H H' : Heap} {ws : List Str} {b : Addr} {ob : Obj} (g : Wd P w H ws b) (hO : H.get? a = some ob) (hD : ob.data = .set es ep t) (k : Heap.SameBut a H H') : Wd P w H' ws b := by
  obtain ⟨o', its, n, e, hc, hd', hi⟩ := g
  have ne : b ≠ a := fun z => by
    rw [z, hO] at e
    rw [← Option.some.inj e, hD] at hd'
    cases hd'
  exact ⟨o', its, n, (k.2 b ne).trans e, hc, hd', hi⟩
theorem mid_perm {α : Type} (l : List α) (p : Nat) (x : α) : (l.take p ++ x :: l.drop p).Perm (x :: l) := by
  have z := @List.perm_middle α x (l.take p) (l.drop p)
  rwa [List.take_append_drop] at z
theorem pick_all {α : Type} : ∀ (l : List α) , (List.range l.length).filterMap (fun i => l[i]?) = l
  | [] => rfl
  | x :: l => by
    rw [List.length_cons, List.range_succ_eq_map, List.filterMap_cons_some (by rfl), List.filterMap_map]
    exact congrArg (x :: ·) (pick_all l)
/-- a table laid anew holds the same members, in another order -/
theorem new_order {Ms : List Mb} {es : Array (Int × Value)} {od : Array Nat} (hr : es.toList = ents P w Ms) (hp : od.toList.Perm (List.range Ms.length)) :
    ∃ Ms', (od.filterMap (es[·]?)).toList = ents P w Ms' ∧ Ms'.Perm Ms ∧ (Ms'.map fun m => txH P w m.2) = od.toList.map fun i => (es.map (·.1)).getD i 0 := by
  have sz := ents_len hr
  have at' : ∀ (i : Nat) m, Ms[i]? = some m → es[i]? = some (txH P w m.2, Value.ref m.1) := fun i m e => by
    rw [← Array.getElem?_toList, hr]
    unfold ents
    rw [List.getElem?_map, e]
    rfl
  have go : ∀ l : List Nat, (∀ i ∈ l, i < Ms.length) → (l.filterMap fun i => es[i]?) = ents P w (l.filterMap fun i => Ms[i]?) ∧ ((l.filterMap fun i => Ms[i]?).map fun m => txH P w m.2) = l.map fun i => (es.map (·.1)).getD i 0 := by
    intro l
    induction l with
    | nil => intro _; exact ⟨rfl, rfl⟩
    | cons i l ih =>
      intro hl
      obtain ⟨e1, e2⟩ := ih fun j z => hl j (List.mem_cons_of_mem _ z)
      obtain ⟨m, hm⟩ : ∃ m, Ms[i]? = some m := ⟨_, List.getElem?_eq_getElem (hl i List.mem_cons_self)⟩
      have hv := at' i m hm
      refine ⟨?_, ?_⟩
      · rw [List.filterMap_cons_some hv, List.filterMap_cons_some hm, e1]
        rfl
      · rw [List.filterMap_cons_some hm, List.map_cons, List.map_cons, e2]
        congr 1
        have e5 : (es.map (·.1))[i]? = some (txH P w m.2) := by rw [Array.getElem?_map, hv]; rfl
        simp [Array.getD_eq_getD_getElem?, e5]
  obtain ⟨e1, e2⟩ := go od.toList fun i z => List.mem_range.mp (hp.mem_iff.mp z)
  refine ⟨od.toList.filterMap fun i => Ms[i]?, by rw [Array.toList_filterMap]; exact e1, ?_, e2⟩
  have z := hp.filterMap fun i => Ms[i]?
  rwa [pick_all Ms] at z
theorem relay_tx {ob : Obj} (hO : st.heap.get? a = some ob) (hX : ob.ExactSet) (hD : ob.data = .set es ep t) (hr : es.toList = ents P w Ms) (T : TabOk t (Ms.map fun m => txH P w m.2)) (hl : es.size ≤ t.mask)
    (un : (Ms.map (·.2)).Nodup) (mm : ∀ m ∈ Ms, Wd P w st.heap m.2 m.1) (ld : w.params.followText "set-order" = true ∨ t.led = true) (fw : Ms.length < 64) {wanted M : Nat}
    (e1 : SetTable.sizeAbove wanted - 1 = M) (hM : MaskOk M) (e2 : SetTable.sizeAbove wanted ≤ 128) (wd : Ms.length * 5 < M * 3) {Qr : Unit → Shared → Prop}
    (q : ∀ H' Ms' es' ep' t', Heap.SameBut a st.heap H' → TxSet P w H' a Ms' es' ep' t' → Ms'.Perm Ms → Qr () { st with heap := H' }) : wpAny (model P w) Ar (setRelay a wanted) Qr Er st := by
  have sz := ents_len hr
  have ft : t.fits es.size = true := fits_of T (by rw [List.length_map]; exact sz) (by rw [List.length_map]; omega)
  obtain ⟨t', od, er, hp, T', em, el, _, _⟩ := relaid_ok t (hs := es.map (·.1)) (wanted := wanted) e1 hM (by rw [Array.size_map, sz]; omega)
  rw [Array.size_map, sz] at hp
  obtain ⟨Ms', r1, r2, r3⟩ := new_order hr hp
  rw [← r3] at T'
  have sz' : (od.filterMap (es[·]?)).size = es.size := by rw [ents_len r1, r2.length_eq, sz]
  rw [setRelay_eq]
  refine wpAny_bind (wpAny_setState_of hO hD ft ?_)
  dsimp only
  refine wp_if_neg (by rw [sizeLine_eq]; omega) ?_
  try refine wpAny_bind (wpAny_pure ?_)
  rw [er]
  dsimp only
  refine wpAny_bind (wp_if_neg (by rw [sz']; simp) ?_)
  try refine wpAny_bind (wpAny_pure ?_)
  refine wpAny_pure ?_
  dsimp only
  refine wpAny_storeSet_of hO hD ?_ (by rw [sz', sz, sizeLine_eq]; omega)
  have but : Heap.SameBut a st.heap (st.heap.update a (Obj.putSet (od.filterMap (es[·]?)) t')) := Heap.SameBut.update ..
  exact q _ Ms' _ (ep + 1) t' but ⟨⟨_, store_at hO hD, ⟨hX.1, hX.2.1, hX.2.2⟩, rfl⟩, r1, T', (r2.map (·.2)).nodup_iff.mpr un, fun m z => wd_but (mm m (r2.mem_iff.mp z)) hO hD but, by rw [el]; exact ld, by rw [r2.length_eq, em]; exact wd, by rw [r2.length_eq]; exact fw⟩ r2
/-- the same table, whether plain or not -/
theorem tab_plain {hs : List Int} {z : Bool} (T : TabOk t hs) : TabOk { t with plain := z } hs := ⟨T.ris, T.dm, T.sz, T.mok, T.bd, T.reach⟩
/-- a member put in -/
theorem add_tx (R : TxSet P w st.heap a Ms es ep t) {x : Addr} {ws : List Str} (g : Wd P w st.heap ws x) (hu : Ar.units < cLine) (hf : Ms.length + 1 < 64) {Qr : Bool → Shared → Prop}
    (q : ∀ z H' Ms' es' ep' t', Heap.SameBut a st.heap H' → TxSet P w H' a Ms' es' ep' t' → (ws ∈ Ms.map (·.2) → Ms' = Ms) → (ws ∉ Ms.map (·.2) → Ms'.Perm ((x, ws) :: Ms)) → Qr z { st with heap := H' }) :
    wpAny (model P w) Ar (setAddHashed a (.ref x) (txH P w ws)) Qr Er st := by
  obtain ⟨ob, hO, hX, hD⟩ := R.obj
  have sz := ents_len R.lst
  have wd := R.wide
  unfold setAddHashed
  refine wpAny_holding ?_
  rw [show (100000 : Nat) = 99999 + 1 from rfl, setAddHashedIn_succ]
  refine wpAny_bind (wpAny_setState_of hO hD R.fits ?_)
  dsimp only
  refine wp_if_neg (by simp [byScan, Value.scannable]) ?_
  try refine wpAny_bind (wpAny_pure ?_)
  refine wpAny_bind (find_at R g hu (fun hm => ?_) fun K hm hK hb => ?_)
  · dsimp only
    exact wpAny_pure (q false st.heap Ms es ep t (Heap.SameBut.refl a st.heap) R (fun _ => rfl) fun z => absurd hm z)
  dsimp only
  refine wpAny_bind (wpAny_setState_of hO hD R.fits ?_)
  dsimp only
  obtain ⟨q1, q2, q3, q4, q5, _, _, _, q9⟩ := R.tab.put hK hb
  generalize hpt : t.put (way t.mask (txH P w ws) K) = pt at q1 q3 q4 q5 q9 ⊢
  obtain ⟨t1, p⟩ := pt
  dsimp only at q1 q3 q4 q5 q9 ⊢
  subst q1
  generalize hpp : SetTable.below t.place (way t.mask (txH P w ws) K) = p at q2 q3 ⊢
  have pm := mid_perm Ms p (x, ws)
  have len : (Ms.take p ++ (x, ws) :: Ms.drop p).length = Ms.length + 1 := pm.length_eq
  have hrow : (SetTable.insertAt es p (txH P w ws, Value.ref x)).toList = ents P w (Ms.take p ++ (x, ws) :: Ms.drop p) := by
    rw [SetTable.toList_insertAt, R.lst]
    unfold ents
    rw [List.map_append, List.map_cons, List.map_take, List.map_drop]
  have hh : (Ms.take p ++ (x, ws) :: Ms.drop p).map (fun m => txH P w m.2) = (Ms.map fun m => txH P w m.2).take p ++ txH P w ws :: (Ms.map fun m => txH P w m.2).drop p := by
    rw [List.map_append, List.map_cons, List.map_take, List.map_drop]
  rw [← hh] at q3
  have un : ((Ms.take p ++ (x, ws) :: Ms.drop p).map (·.2)).Nodup := (pm.map (·.2)).nodup_iff.mpr (by rw [List.map_cons]; exact List.nodup_cons.mpr ⟨hm, R.uni⟩)
  have sz1 := ents_len hrow
  rw [len] at sz1
  generalize SetTable.insertAt es p (txH P w ws, Value.ref x) = es1 at hrow sz1 ⊢
  generalize Ms.take p ++ (x, ws) :: Ms.drop p = Ms1 at pm len q3 un hrow
  -- whatever the table says of its plainness
  have rest : ∀ t2 : SetTable, TabOk t2 (Ms1.map fun m => txH P w m.2) → t2.mask = t1.mask → t2.led = t1.led → t2.fill = t1.fill →
      wpAny (model P w) Ar (do
        storeSet a es1 t2
        if !false && t2.tooFull then setRelay a (SetTable.grown (es.size + 1))
        return true) Qr Er st := fun t2 T2 m2 l2 f2 => by
    refine wpAny_bind (wpAny_storeSet_of hO hD ?_ (by rw [sz1, sizeLine_eq]; omega))
    have but : Heap.SameBut a st.heap (st.heap.update a (Obj.putSet es1 t2)) := Heap.SameBut.update ..
    have hO1 := store_at (es' := es1) (t' := t2) hO hD
    generalize st.heap.update a (Obj.putSet es1 t2) = H1 at but hO1 ⊢
    have mm1 : ∀ m ∈ Ms1, Wd P w H1 m.2 m.1 := fun m z => by
      rcases List.mem_cons.mp (pm.mem_iff.mp z) with e | z
      · rw [e]; exact wd_but g hO hD but
      · exact wd_but (R.mem m z) hO hD but
    have ld1 : w.params.followText "set-order" = true ∨ t2.led = true := by rw [l2, q5]; exact R.led
    have full : t2.fill = Ms.length + 1 := by rw [f2, q9, List.length_map]
    rcases Bool.eq_false_or_eq_true t2.tooFull with hf2 | hf2
    · have hfu : (Ms.length + 1) * 5 ≥ t2.mask * 3 := by
        have z := hf2
        unfold SetTable.tooFull at z
        rw [decide_eq_true_eq, full] at z
        exact z
      rw [sz]
      have two : (t.mask = 7 ∧ Ms.length = 4) ∨ (t.mask = 31 ∧ Ms.length = 18) := by
        rw [m2, q4] at hfu
        rcases R.tab.mok with e | e | e
        · left; rw [e] at hfu wd; exact ⟨e, by omega⟩
        · right; rw [e] at hfu wd; exact ⟨e, by omega⟩
        · exfalso; rw [e] at hfu; omega
      have go : ∀ M, SetTable.sizeAbove (SetTable.grown (Ms.length + 1)) - 1 = M → MaskOk M → SetTable.sizeAbove (SetTable.grown (Ms.length + 1)) ≤ 128 → (Ms.length + 1) * 5 < M * 3 →
          wpAny (model P w) Ar (setRelay a (SetTable.grown (Ms.length + 1))) (fun _ s' => wpAny (model P w) Ar (pure true) Qr Er s') Er { st with heap := H1 } := fun M a1 a2 a3 a4 =>
        relay_tx (st := { st with heap := H1 }) hO1 ⟨hX.1, hX.2.1, hX.2.2⟩ rfl hrow T2 (by rw [sz1, m2, q4]; rcases two with ⟨e, e2⟩ | ⟨e, e2⟩ <;> omega) un mm1 ld1 (by rw [len]; exact hf) a1 a2 a3 (by rw [len]; exact a4)
          fun H2 Ms2 es2 ep2 t3 but2 R2 pm2 => wpAny_pure (q true H2 Ms2 es2 ep2 t3 (but.trans but2) R2 (fun z => absurd z hm) fun _ => pm2.trans pm)
      have here : wpAny (model P w) Ar (setRelay a (SetTable.grown (Ms.length + 1))) (fun _ s' => wpAny (model P w) Ar (pure true) Qr Er s') Er { st with heap := H1 } := by
        rcases two with ⟨_, e2⟩ | ⟨_, e2⟩
        · exact go 31 (by rw [e2, size_20]) (.inr (.inl rfl)) (by rw [e2, size_20]; decide) (by omega)
        · exact go 127 (by rw [e2, size_76]) (.inr (.inr rfl)) (by rw [e2, size_76]; decide) (by omega)
      first
        | exact wpAny_bind (wp_if_pos (by simp [hf2]) here)
        | exact wp_if_pos (by simp [hf2]) (wpAny_bind here)
    · have fin : Qr true { st with heap := H1 } := q true H1 Ms1 es1 (ep + 1) t2 but ⟨⟨_, hO1, ⟨hX.1, hX.2.1, hX.2.2⟩, rfl⟩, hrow, T2, un, mm1, ld1, by
        have z := hf2
        unfold SetTable.tooFull at z
        rw [decide_eq_false_iff_not, full] at z
        rw [len]
        omega, by rw [len]; exact hf⟩ (fun z => absurd z hm) fun _ => pm
      first
        | exact wpAny_bind (wp_if_neg (by simp [hf2]) (wpAny_pure (wpAny_pure fin)))
        | exact wp_if_neg (by simp [hf2]) (wpAny_pure fin)
        | exact wp_if_neg (by simp [hf2]) (wpAny_bind (wpAny_pure (wpAny_pure fin)))
  have either : ∀ z : Bool, wpAny (model P w) Ar (do
        storeSet a es1 (if z = true then t1 else { t1 with plain := false })
        if !false && (if z = true then t1 else { t1 with plain := false }).tooFull then setRelay a (SetTable.grown (es.size + 1))
        return true) Qr Er st := fun z => by
    cases z
    · exact rest { t1 with plain := false } (tab_plain q3) rfl rfl rfl
    · exact rest t1 q3 rfl rfl rfl
  rcases Bool.eq_false_or_eq_true t1.plain with pl | pl
  · first
      | exact wpAny_bind (wp_if_pos pl (wd_val g fun z => either z))
      | exact wp_if_pos pl (wpAny_bind (wd_val g fun z => either z))
  · first
      | exact wpAny_bind (wp_if_neg (by rw [pl]; decide) (wpAny_pure (either true)))
      | exact wp_if_neg (by rw [pl]; decide) (either true)
end
end ST
namespace ST
open PySem PySem.Spec PyProof.Rows L2
/-- what is in after the first i of ks -/
structure Hit (ks : List Mb) (i : Nat) (Ms : List Mb) : Prop where
  sub : ∀ m ∈ Ms, m ∈ ks.take i
  all : ∀ m ∈ ks.take i, m.2 ∈ Ms.map (·.2)
  len : Ms.length ≤ i
theorem Hit.nil (ks : List Mb) : Hit ks 0 [] := ⟨fun _ z => (nomatch z), fun _ z => (by simp at z), Nat.le_refl _⟩
theorem take_one {α : Type} {l : List α} {i : Nat} {x : α} (e : l[i]? = some x) : l.take (i + 1) = l.take i ++ [x] := by
  rw [List.take_succ, e]
  rfl
theorem Hit.step {ks Ms Ms' : List Mb} {i : Nat} {x : Mb} (g : Hit ks i Ms) (e : ks[i]? = some x) (h1 : x.2 ∈ Ms.map (·.2) → Ms' = Ms) (h2 : x.2 ∉ Ms.map (·.2) → Ms'.Perm (x :: Ms)) : Hit ks (i + 1) Ms' := by
  have tk := take_one e
  rcases Classical.em (x.2 ∈ Ms.map (·.2)) with c | c
  · rw [h1 c]
    refine ⟨fun m z => ?_, fun m z => ?_, Nat.le_succ_of_le g.len⟩
    · rw [tk]; exact List.mem_append_left _ (g.sub m z)
    · rw [tk] at z
      rcases List.mem_append.mp z with z | z
      · exact g.all m z
      · rw [List.mem_singleton.mp z]; exact c
  · have pm := h2 c
    refine ⟨fun m z => ?_, fun m z => ?_, ?_⟩
    · rw [tk]
      rcases List.mem_cons.mp (pm.mem_iff.mp z) with y | y
      · rw [y]; exact List.mem_append_right _ (List.mem_singleton.mpr rfl)
      · exact List.mem_append_left _ (g.sub m y)
    · rw [(pm.map (·.2)).mem_iff, List.map_cons]
      rw [tk] at z
      rcases List.mem_append.mp z with y | y
      · exact List.mem_cons_of_mem _ (g.all m y)
      · rw [List.mem_singleton.mp y]; exact List.mem_cons_self
    · rw [pm.length_eq, List.length_cons]
      exact Nat.succ_le_succ g.len
abbrev set0 (w : World) : Obj := { cls := .type "set", dict := none, data := .set #[] 0 (.fresh 0 0 (!w.params.followText "set-order")) }
section
variable {P : Program} {w : World} {Ar : Around} {Er : Value → Shared → Prop} {st : Shared} {a : Addr}
theorem wd_keep {H H' : Heap} {ws : List Str} {b : Addr} (g : Wd P w H ws b) (k : ∀ c o, H.get? c = some o → H'.get? c = some o) : Wd P w H' ws b := by
  obtain ⟨o, its, n, e, z⟩ := g
  exact ⟨o, its, n, k b o e, z⟩
theorem TxSet.keep {H H' : Heap} {Ms : List Mb} {es : Array (Int × Value)} {ep : Nat} {t : SetTable} (R : TxSet P w H a Ms es ep t) (h1 : ∀ o, H.get? a = some o → H'.get? a = some o) (h2 : ∀ m ∈ Ms, Wd P w H' m.2 m.1) : TxSet P w H' a Ms es ep t := by
  obtain ⟨o, e, z⟩ := R.obj
  exact ⟨⟨o, h1 o e, z⟩, R.lst, R.tab, R.uni, h2, R.led, R.wide, R.few⟩
/-- an empty set -/
theorem tx_new {H : Heap} (e : H.get? a = some (set0 w)) : TxSet P w H a [] #[] 0 (.fresh 0 0 (!w.params.followText "set-order")) where
  obj := ⟨_, e, ⟨rfl, rfl, rfl⟩, rfl⟩
  lst := rfl
  tab := ⟨List.Pairwise.nil, rfl, rfl, .inl rfl, fun x z => (nomatch z), fun i h j z => (by simp at z)⟩
  uni := List.nodup_nil
  mem := fun m z => (nomatch z)
  led := by
    show _ ∨ (!w.params.followText "set-order") = true
    cases w.params.followText "set-order"
    · exact .inr rfl
    · exact .inl rfl
  wide := by show 0 * 5 < 7 * 3; decide
  few := by show 0 < 64; decide
/-- set.add's heart -/
theorem put_tx {Ms : List Mb} {es : Array (Int × Value)} {ep : Nat} {t : SetTable} (R : TxSet P w st.heap a Ms es ep t) {x : Addr} {ws : List Str} (g : Wd P w st.heap ws x) (hu : Ar.units < cLine) (hf : Ms.length + 1 < 64) {Qr : Bool → Shared → Prop}
    (q : ∀ z H' tk Ms' es' ep' t', st.toks ≤ tk → Heap.SameBut a st.heap H' → TxSet P w H' a Ms' es' ep' t' → (ws ∈ Ms.map (·.2) → Ms' = Ms) → (ws ∉ Ms.map (·.2) → Ms'.Perm ((x, ws) :: Ms)) → Qr z { st with heap := H', toks := tk }) :
    wpAny (model P w) Ar (setAdd a (.ref x)) Qr Er st := by
  unfold setAdd
  refine wpAny_holding (wpAny_bind (wpAny_pyHash_tuple hu g ?_))
  exact add_tx (st := { st with toks := st.toks + (ws.length + 1) }) R g hu hf fun z H' Ms' es' ep' t' b R' h1 h2 => q z H' _ Ms' es' ep' t' (Nat.le_add_right _ _) b R' h1 h2
set_option maxHeartbeats 8000000 in
/-- the loop of set.update -/
theorem update_tx {I : Addr} {fp wr : List Addr} {Gn : Array GenState → Array GenState → Prop} {n : Nat} {Pv : Nat → Value → Prop} {Sn : Nat → Shared → Prop} {Rr : Result → Shared → Prop}
    (Wk : WalksS P w Ar.in1 I fp wr Gn n Pv Sn) (hSf : a ∉ fp) (ks : List Mb) (hn : n = ks.length) (hf : ks.length < 64) (hv : ∀ i v, Pv i v → ∃ m, ks[i]? = some m ∧ v = .ref m.1)
    (H0 : Heap) (hk : ∀ m ∈ ks, Wd P w H0 m.2 m.1) (hS0 : H0.get? a = none) (hw0 : ∀ b ∈ wr, H0.get? b = none) (hu : Ar.in1.units < cLine) :
    ∀ (d i : Nat) (st : Shared), n - i = d → i ≤ n → Sn i st → (∀ b o, H0.get? b = some o → st.heap.get? b = some o) → (∃ Ms es ep t, TxSet P w st.heap a Ms es ep t ∧ Hit ks i Ms) →
      (∀ st' Ms es ep t, Moved (a :: wr) Gn st st' → TxSet P w st'.heap a Ms es ep t → Hit ks n Ms → (∀ b o, H0.get? b = some o → st'.heap.get? b = some o) → Rr (.ok (.ret .none)) st') →
      codeAny (model P w) Ar (.builtin "set.update.loop" ⟨[.ref a, .ref I], []⟩) Rr st := by
  have nSw : a ∉ wr := fun z => hSf (Wk.sub _ z)
  have up : ∀ b ∈ wr, b ∈ a :: wr := fun b z => List.mem_cons_of_mem _ z
  have held : ∀ {s s' : Shared}, Moved wr Gn s s' → (∀ b o, H0.get? b = some o → s.heap.get? b = some o) → ∀ b o, H0.get? b = some o → s'.heap.get? b = some o := fun mv z b o e =>
    mv.heap b o (fun y => by rw [hw0 b y] at e; cases e) (z b o e)
  intro d
  induction d with
  | zero =>
    intro i st hd hi hst hkp ⟨Ms, es, ep, t, R, g⟩ hR
    have ei : i = n := by omega
    subst ei
    refine codeAny_builtin (R := Rr) F.entry_set_update_loop ?_
    rw [Around.under_plainId F.plain_set_update_loop (_)]
    show wpAny (model P w) Ar.in1 (pyNext (.ref I) >>= _) _ _ st
    refine wpAny_bind (Wk.done st _ _ hst fun st' mv => ?_)
    show wpAny (model P w) Ar.in1 (ret Value.none) _ _ st'
    have kp' := held mv hkp
    exact wpAny_pure (hR st' Ms es ep t (mv.mono up) (R.keep (fun o e => mv.heap a o nSw e) fun m z => wd_keep (hk m (List.mem_of_mem_take (g.sub m z))) kp') g kp')
  | succ d ih =>
    intro i st hd hi hst hkp ⟨Ms, es, ep, t, R, g⟩ hR
    have li : i < n := by omega
    refine codeAny_builtin (R := Rr) F.entry_set_update_loop ?_
    rw [Around.under_plainId F.plain_set_update_loop (_)]
    show wpAny (model P w) Ar.in1 (pyNext (.ref I) >>= _) _ _ st
    refine wpAny_bind (Wk.item i st _ _ li hst fun v st' hP hst' mv => ?_)
    obtain ⟨m, hm, rfl⟩ := hv i v hP
    have kp' := held mv hkp
    have R' : TxSet P w st'.heap a Ms es ep t := R.keep (fun o e => mv.heap a o nSw e) fun m' z => wd_keep (hk m' (List.mem_of_mem_take (g.sub m' z))) kp'
    have gx : Wd P w st'.heap m.2 m.1 := wd_keep (hk m (List.mem_of_getElem? hm)) kp'
    show wpAny (model P w) Ar.in1 (holding [Value.ref m.1] (setAdd a (.ref m.1)) >>= _) _ _ st'
    refine wpAny_bind (wpAny_holding (put_tx R' gx hu (by have := g.len; omega) fun b H' tk Ms' es' ep' t' ltk but R2 h1 h2 => ?_))
    have g' := g.step hm h1 h2
    have kp2 : ∀ b o, H0.get? b = some o → H'.get? b = some o := fun b o e => (but.2 b (fun z => by rw [z, hS0] at e; cases e)).trans (kp' b o e)
    refine wpAny_pure ⟨plainId_quiet F.plain_set_update_loop _, ih (i + 1) _ (by omega) li (Wk.frame _ st' _ _ hst' ltk fun b hb o e => ?_) kp2 ⟨Ms', es', ep', t', R2, g'⟩ fun st2 Ms2 es2 ep2 t2 mv2 R3 g3 kp3 => ?_⟩
    · rw [but.2 b (fun z : b = a => hSf (by rw [← z]; exact hb))]
      exact e
    · refine hR st2 Ms2 es2 ep2 t2 (Moved.trans Wk.gtrans ((mv.mono up).then_heap ltk fun b o hb e => ?_) mv2) R3 g3 kp3
      rw [but.2 b (fun z : b = a => hb (by rw [z]; exact List.mem_cons_self))]
      exact e
end
end ST
namespace ST
open PySem PySem.Spec PyProof.Rows L2
section
variable {P : Program} {w : World} {Ar : Around} {Er : Value → Shared → Prop} {st : Shared}
/-- set(l), l a list of tuples of texts -/
theorem call_tx {l : Addr} {its : Array Value} (ks : List Mb) {Qr : Value → Shared → Prop} (hH : Ar.handled = none) (hl : st.heap.IsList l its) (hi : its.toList = ks.map fun m => Value.ref m.1)
    (hk : ∀ m ∈ ks, Wd P w st.heap m.2 m.1) (hf : ks.length < 64) (hu : Ar.units + 3 < cLine)
    (q : ∀ (H' : Heap) (tk : Nat) Ms es ep t, TxSet P w H' st.heap.objs.size Ms es ep t → Hit ks ks.length Ms → (∀ b o, st.heap.get? b = some o → H'.get? b = some o) → Qr (.ref st.heap.objs.size) { st with heap := H', toks := tk }) :
    wpAny (model P w) Ar (call (.type "set") [.ref l]) Qr Er st := by
  have isz : its.size = ks.length := by
    have z := congrArg List.length hi
    rwa [Array.length_toList, List.length_map] at z
  have made := F.called_set.made
  have subt := F.called_set.sub
  have ntyp := F.called_set.notType
  have mayc := F.called_set.canCreate
  have one := F.typeCall_set_1 (.ref l)
  obtain ⟨mc, ml, hmro⟩ := F.called_set.mro
  refine wpAny_call (codeAny_of_tree (?_))
  show wpAny _ _ (callAny (.type "set") _) _ _ _
  refine wpAny_pure ⟨Code.quiet_builtin _ (by decide +kernel), codeAny_builtin F.entry_type_call (?_)⟩
  rw [Around.under_plain (weight_type_call_type "set" [.ref l] []) (rfl)]
  repeat (any_goals (first | assumption | wp_step))

  refine codeAny_mono (code_set_led1 (.ref l) (E := Er) (Q₁ := fun obj s₁ => obj = .ref st.heap.objs.size ∧ s₁ = { st with heap := st.heap.push (set0 w) }) ⟨rfl, rfl⟩) fun r s₁ hr => ?_
  cases r with
  | error e => exact hr
  | ok fl =>
    cases fl with
    | ret obj =>
      obtain ⟨rfl, rfl⟩ := hr
      have hS : (st.heap.push (set0 w)).get? st.heap.objs.size = some (set0 w) := Heap.get?_push_size _ rfl
      have hT : Shared.TypeIs { st with heap := st.heap.push (set0 w) } (.ref st.heap.objs.size) "set" := ⟨_, hS, rfl⟩
      have look := F.called_set.init.lookup
      have bind := F.called_set.init.bind (.ref st.heap.objs.size)
      repeat (any_goals (first | assumption | wp_step))

      refine codeAny_mono (codeAny_call_builtin (R := wants (fun r s₂ => r = .none ∧ ∃ H' tk Ms es ep t, s₂ = { st with heap := H', toks := tk } ∧ TxSet P w H' st.heap.objs.size Ms es ep t ∧ Hit ks ks.length Ms ∧
          (∀ b o, st.heap.get? b = some o → H'.get? b = some o)) Er) F.called_set.init.plain F.entry_set_init (check_set_init_1 hT ?_)) fun r₂ s₂ hr₂ => ?_
      · obtain ⟨ol, hol, hcl, nl, hdl⟩ := hl
        obtain ⟨ocls, odict, odata, oslots⟩ := ol
        simp only at hcl hdl
        subst hcl; subst hdl
        have s1 := F.sub_list_set
        have s2 := F.sub_list_frozenset
        have s3 : (Value.type "list" == Value.type "dict") = false := by decide
        have hol' : (st.heap.push (set0 w)).get? l = some { cls := .type "list", dict := odict, data := .seq its nl, slots := oslots } := Heap.get?_push_of_some _ hol
        have hl1 : (st.heap.push (set0 w)).IsList l its := ⟨_, hol', rfl, nl, rfl⟩
        unfold Builtin.«set.__init__» noKeywords Builtin.Frozenset.updateFrom
        generalize hPI : pyIter = PI
        wp_walk
        subst hPI

        refine wpAny_pyIter_list hl1 ?_
        refine wpAny_bind (wpAny_runValue ?_)
        have lS : l < st.heap.objs.size := Heap.lt_size hol
        have h3 : Ar.in1.in1.in1.handled = none := by simp [hH]
        have nI : l ≠ (st.heap.push (set0 w)).objs.size := by
          rw [Heap.size_push]
          exact Nat.ne_of_lt (Nat.lt_succ_of_lt lS)
        have nS : st.heap.objs.size ∉ [(st.heap.push (set0 w)).objs.size, l] := by
          rw [Heap.size_push]
          simp only [List.mem_cons, List.mem_singleton, List.not_mem_nil, or_false, not_or]
          exact ⟨Nat.ne_of_lt (Nat.lt_succ_self _), Nat.ne_of_gt lS⟩
        have gets : ∀ (i : Nat) (v : Value), its[i]? = some v → ∃ m, ks[i]? = some m ∧ v = .ref m.1 := fun i v e => by
          have z : its.toList[i]? = some v := by rw [Array.getElem?_toList]; exact e
          rw [hi, List.getElem?_map] at z
          obtain ⟨m, e1, e2⟩ := Option.map_eq_some_iff.mp z
          exact ⟨m, e1, e2.symm⟩
        have beyond : ∀ b, st.heap.objs.size ≤ b → st.heap.get? b = none := fun b hb => by
          cases z : st.heap.get? b with
          | none => rfl
          | some o => exact absurd (Nat.lt_of_lt_of_le (Heap.lt_size z) hb) (Nat.lt_irrefl _)
        refine update_tx (a := st.heap.objs.size) ((Walks.list h3 _ l nI its).toS) nS ks isz hf gets st.heap hk (beyond _ (Nat.le_refl _)) (fun b hb => beyond b (by
            rw [List.mem_singleton.mp hb, Heap.size_push]
            exact Nat.le_succ _)) hu (its.size - 0) 0 _ (by omega) (Nat.zero_le _)
          ⟨⟨_, Heap.get?_push_size _ rfl, rfl, rfl⟩, (hl1.push _)⟩ (fun b o e => Heap.get?_push_of_some _ (Heap.get?_push_of_some _ e)) ?new ?fin
        case new => exact ⟨[], #[], 0, _, tx_new (Heap.get?_push_of_some _ hS), Hit.nil ks⟩
        case fin =>
          intro s' Ms es ep t mv R g kp
          obtain ⟨H', g2, d', tk', os'⟩ := s'
          obtain rfl : g2 = st.gens := mv.gens
          obtain rfl : d' = st.drawn := mv.drawn
          obtain rfl : os' = st.os := mv.os
          show wpAny _ _ _ _ _ _
          refine wpAny_pure ?_
          show wpAny _ _ (ret Value.none) _ _ _
          rw [isz] at g
          exact wpAny_pure ⟨rfl, H', tk', Ms, es, ep, t, rfl, R, g, kp⟩

      · cases r₂ with
        | error e => exact hr₂
        | ok fl₂ =>
          cases fl₂ with
          | ret r =>
            obtain ⟨rfl, H', tk, Ms, es, ep, t, rfl, R, g, kp⟩ := hr₂
            repeat (any_goals (first | assumption | wp_step))
            exact q _ _ _ _ _ _ R g kp
          | _ => exact hr₂.elim
    | _ => exact hr.elim
end
end ST
namespace ST
open PySem PySem.Spec PyProof.Rows L2
abbrev txD (ws : List Str) : PyData := .tuple (ws.map .str)
section
variable {P : Program} {w : World} {Ar : Around} {Er : Value → Shared → Prop} {st : Shared} {a : Addr}
theorem wd_inj {H : Heap} {us ws : List Str} {b : Addr} (g : Wd P w H us b) (g' : Wd P w H ws b) : us = ws := g.inj g'
theorem nodup_back {α β : Type} (f : α → β) {l : List α} (h : (l.map f).Nodup) : l.Nodup := List.Pairwise.of_map f (fun _ _ ne e => ne (congrArg f e)) h
theorem each_mb {R : Value → Mb → Prop} {h : ∀ m : Mb, R (.ref m.1) m} : ∀ Ms : List Mb, PySem.W.EachIs R (Ms.map fun m => Value.ref m.1) Ms
  | [] => .nil
  | m :: Ms => .cons (h m) (each_mb (h := h) Ms)
theorem each_mbIn {R : Value → Mb → Prop} : ∀ Ms : List Mb, (∀ m ∈ Ms, R (.ref m.1) m) → PySem.W.EachIs R (Ms.map fun m => Value.ref m.1) Ms
  | [], _ => .nil
  | m :: Ms, h => .cons (h m List.mem_cons_self) (each_mbIn Ms fun m' z => h m' (List.mem_cons_of_mem _ z))
theorem each_ref : ∀ {vs : List Value} {Ms : List Mb}, PySem.W.EachIs (fun v (m : Mb) => v = .ref m.1) vs Ms → vs = Ms.map fun m => Value.ref m.1
  | _, _, .nil => rfl
  | _, _, .cons h t => by rw [h, each_ref t]; rfl
/-- sorted(a), a a set of tuples of texts -/
theorem sorted_tx {Ms : List Mb} {es : Array (Int × Value)} {ep : Nat} {t : SetTable} {Qr : Value → Shared → Prop} (R : TxSet P w st.heap a Ms es ep t) (hH : Ar.handled = none)
    (rd : ∀ m ∈ Ms, ∀ H' : Heap, (∀ b o, st.heap.get? b = some o → H'.get? b = some o) → ∃ as, Reads H' (.ref m.1) (txD m.2) as ∧ ∀ b ∈ as, ∃ o, st.heap.get? b = some o)
    (al : ∀ Ms' : List Mb, Ms'.Perm Ms → PySem.W.AllAlike (Ms'.map fun m => txD m.2) ∧ PySem.W.Sortable (Ms'.map fun m => txD m.2)) (hu : Ar.units + 65 < cLine)
    (q : ∀ s' p (out : Array Value) (c : Nat) (Ms' : List Mb), (∀ b o, st.heap.get? b = some o → s'.heap.get? b = some o) → s'.gens = st.gens → s'.os = st.os → st.heap.objs.size ≤ p →
      s'.heap.get? p = some (seqObj "list" out c) → Ms'.Perm Ms → out.toList = (Ms'.mergeSort (PySem.W.dataLe false fun m : Mb => txD m.2)).map (fun m => Value.ref m.1) → Qr (.ref p) s') :
    wpAny (model P w) Ar (call (.builtin "sorted") [.ref a]) Qr Er st := by
  obtain ⟨ob, hO, hX, hD⟩ := R.obj
  have few := R.few
  have sz := ents_len R.lst
  refine Calls.call_function_entry kind_sorted plain_sorted entry_sorted (args_sorted1 (_)) ?_
  unfold Builtin.«sorted»
  refine wpAny_bind (m := checkCount "sorted" 1 1 _) (wpAny_pure (?_))
  refine wpAny_bind (collect_set (A := Ar.in1) hH ⟨ob, hO, hX.1, hD⟩ R.fits (by unfold scanBound; omega) R.tab.ris R.led fun s1 vs k1 hz g1 o1 pm => ?_)
  have ev : es.toList.map (·.2) = Ms.map fun m => Value.ref m.1 := by
    rw [R.lst]
    unfold ents
    rw [List.map_map]
    rfl
  rw [ev] at pm
  -- the members in the walk's order
  have named : ∀ vs : List Value, (∀ v ∈ vs, ∃ m ∈ Ms, v = Value.ref m.1) → ∃ L : List Mb, vs = L.map (fun m => Value.ref m.1) ∧ ∀ m ∈ L, m ∈ Ms := by
    intro vs
    induction vs with
    | nil => intro _; exact ⟨[], rfl, fun m z => (nomatch z)⟩
    | cons v vs ih =>
      intro hv
      obtain ⟨m, hm, e⟩ := hv v List.mem_cons_self
      obtain ⟨L, e1, h1⟩ := ih fun u z => hv u (List.mem_cons_of_mem _ z)
      exact ⟨m :: L, by rw [List.map_cons, e, e1], fun m' z => (List.mem_cons.mp z).elim (fun y => y ▸ hm) (h1 m')⟩
  have single : ∀ m ∈ Ms, ∀ n ∈ Ms, m.1 = n.1 → m = n := fun m hm n hn e => by
    have g1 := R.mem m hm
    have g2 := R.mem n hn
    rw [e] at g1
    exact Prod.ext e (wd_inj g1 g2)
  obtain ⟨L, eL, inL⟩ := named vs fun v hv => by
    obtain ⟨m, hm, e⟩ := List.mem_map.mp (pm.mem_iff.mp hv)
    exact ⟨m, hm, e.symm⟩
  have pL : L.Perm Ms := by
    rw [eL] at pm
    have nM : Ms.Nodup := nodup_back (·.2) R.uni
    have nR : (Ms.map fun m => Value.ref m.1).Nodup := List.pairwise_map.mpr (List.Pairwise.imp_of_mem (fun {m n} hm hn ne e => by
      injection e with e
      exact ne (single m hm n hn e)) nM)
    have nL : L.Nodup := nodup_back (fun m : Mb => Value.ref m.1) (pm.nodup_iff.mpr nR)
    refine (List.perm_ext_iff_of_nodup nL nM).mpr fun m => ⟨inL m, fun hm => ?_⟩
    obtain ⟨n, hn, e⟩ := List.mem_map.mp (pm.mem_iff.mpr (List.mem_map.mpr ⟨m, hm, rfl⟩))
    injection e with e
    rw [← single n (inL n hn) m hm e]
    exact hn
  have lL : L.length < 64 := by rw [pL.length_eq]; exact few
  have lv : vs.length < 64 := by rw [eL, List.length_map]; exact lL
  refine wpAny_bind (wpAny_newList ?_ (by rw [sizeLine_eq]; omega))
  have hN : (s1.heap.push (seqObj "list" vs.toArray 0)).get? s1.heap.objs.size = some (seqObj "list" vs.toArray 0) := Heap.get?_push_size _ rfl
  obtain ⟨al1, al2⟩ := al L pL
  have rdL : PySem.W.EachIs (fun v (m : Mb) => ∃ as, Reads (s1.heap.push (seqObj "list" vs.toArray 0)) v (txD m.2) as ∧ s1.heap.objs.size ∉ as) vs L := by
    rw [eL]
    refine each_mbIn L fun m hm => ?_
    obtain ⟨as, r, old⟩ := rd m (inL m hm) (s1.heap.push (seqObj "list" (L.map fun m => Value.ref m.1).toArray 0)) (fun b o e => Heap.get?_push_of_some _ (k1 b o e))
    refine ⟨as, r, fun z => ?_⟩
    obtain ⟨o, e⟩ := old _ z
    exact absurd (Heap.lt_size (k1 _ _ e)) (Nat.lt_irrefl _)
  have refs : PySem.W.EachIs (fun v (m : Mb) => v = .ref m.1) vs L := by
    rw [eL]
    exact each_mb (h := fun _ => rfl) L
  have deep : ∀ m : Mb, (txD m.2).depth ≤ 2 := fun m => by
    have : ∀ ws : List Str, (PyData.tuple (ws.map .str)).depth ≤ 2 := fun ws => by
      simp only [PyData.depth]
      induction ws with
      | nil => simp [PyData.depthAll]
      | cons x ws ih =>
        simp only [List.map_cons, PyData.depthAll, PyData.depth]
        omega
    exact this m.2
  refine wpAny_bind (wpAny_holding (PySem.W.list_sort_data (s := { s1 with heap := s1.heap.push (seqObj "list" vs.toArray 0) }) (enc := fun m : Mb => txD m.2) hN refs rdL al1 al2 (by rw [sizeLine_eq]; omega) (fun m _ => by have := deep m; show Ar.units + 1 + 1 + _ < cLine; omega) fun out lo eo => ?_))
  obtain ⟨c, hc⟩ := sortedHeap_at (vs := vs) (out := out.toArray) hN
  refine wpAny_pure ⟨_, rfl, q _ s1.heap.objs.size out.toArray c L (fun b o e => ?_) g1 o1 hz hc pL (each_ref eo)⟩
  have lt := Heap.lt_size (k1 b o e)
  show (sortedHeap (s1.heap.push (seqObj "list" vs.toArray 0)) s1.heap.objs.size vs out.toArray).get? b = some o
  rw [sortedHeap_old (Nat.ne_of_lt lt) (by rw [size_push']; exact Nat.lt_succ_of_lt lt)]
  exact Heap.get?_push_of_some _ (k1 b o e)
end
end ST
namespace ST
open PySem PySem.Spec PyProof.Rows L2 DL
theorem reads_words {H : Heap} {P : Program} {w : World} : ∀ {ws : List Str} {vs : List Value}, ItemsAre (PySem.strKind P w) ws vs → ReadsAll H vs (ws.map PyData.str) []
  | _, _, .nil => .nil
  | _, _, .cons (k := x) (v := v) h t => by
    obtain ⟨y, tk, rfl⟩ := words_are (P := P) (w := w) (.cons h .nil) v List.mem_cons_self
    have e : x = y := (PySem.strKind P w).inj _ _ _ h (strKind_is P w y tk)
    subst e
    exact .cons (as := []) (.str x tk) (reads_words t)
theorem wd_reads {P : Program} {w : World} {H : Heap} {ws : List Str} {b : Addr} (g : Wd P w H ws b) : Reads H (.ref b) (txD ws) [] := by
  obtain ⟨o, its, n, e, hc, hd, hi⟩ := g
  exact .tuple e hc hd (reads_words hi)
/-- the set at a, its members apart -/
structure TxB (P : Program) (w : World) (a : Addr) (Ms : List Mb) (h : Heap) : Prop where
  ex : ∃ (es : Array (Int × Value)) (ep : Nat) (t : SetTable), (∃ o, h.get? a = some o ∧ o.ExactSet ∧ o.data = .set es ep t) ∧ es.toList = ents P w Ms ∧ TabOk t (Ms.map fun m => txH P w m.2) ∧ (Ms.map (·.2)).Nodup ∧
    (w.params.followText "set-order" = true ∨ t.led = true) ∧ Ms.length * 5 < t.mask * 3 ∧ Ms.length < 64
def TxO (P : Program) (w : World) (a : Addr) (Ms : List Mb) : HO := .ext fun h => TxB P w a Ms h
theorem TxSet.bare {P : Program} {w : World} {h : Heap} {a : Addr} {Ms : List Mb} {es : Array (Int × Value)} {ep : Nat} {t : SetTable} (R : TxSet P w h a Ms es ep t) : TxB P w a Ms h := ⟨es, ep, t, R.obj, R.lst, R.tab, R.uni, R.led, R.wide, R.few⟩
theorem TxB.set {P : Program} {w : World} {h : Heap} {a : Addr} {Ms : List Mb} (B : TxB P w a Ms h) (mm : ∀ m ∈ Ms, Wd P w h m.2 m.1) : ∃ es ep t, TxSet P w h a Ms es ep t := by
  obtain ⟨es, ep, t, z1, z2, z3, z4, z5, z6, z7⟩ := B.ex
  exact ⟨es, ep, t, z1, z2, z3, z4, mm, z5, z6, z7⟩
theorem txO_ok {P : Program} {w : World} {H : Hp} {h : Heap} {a : Addr} {Ms : List Mb} (B : TxB P w a Ms h) : ObjOk P w H h a (TxO P w a Ms) := by
  obtain ⟨es, ep, t, ⟨o, e, z⟩, y⟩ := id B.ex
  refine ⟨B, ⟨o, e⟩, fun h1 h2 p k => ?_⟩
  obtain ⟨es', ep', t', ⟨o', e', z'⟩, y'⟩ := TxB.ex p
  exact ⟨es', ep', t', ⟨o', k o' e', z'⟩, y'⟩
theorem words_vals {P : Program} {w : World} : ∀ {ws : List Str} {us : List Value}, Vals (ws.map V.str) us → ItemsAre (PySem.strKind P w) ws us
  | [], _, .nil => .nil
  | x :: ws, _, .cons r t => by
    obtain ⟨tk, rfl⟩ := r
    exact .cons (strKind_is P w x tk) (words_vals t)
theorem mb_vals : ∀ {ks : List Mb} {us : List Value}, Vals (ks.map fun m => V.ref m.1) us → us = ks.map fun m => Value.ref m.1
  | [], _, .nil => rfl
  | m :: ks, _, .cons r t => by
    cases r
    rw [mb_vals t]
    rfl
theorem vals_mb : ∀ ks : List Mb, Vals (ks.map fun m => V.ref m.1) (ks.map fun m => Value.ref m.1)
  | [] => .nil
  | m :: ks => .cons rfl (vals_mb ks)
section
variable {X : Cx}
theorem inv_wd {pins : List (Addr × Obj)} {σ : L2.St} {H : Hp} {s : Shared} {b : Addr} {ws : List Str} (I : Inv X pins σ H s) (h : SqT X.K H b (ws.map V.str)) : Wd X.prog X.w s.heap ws b := by
  obtain ⟨its, r, ⟨o, e, hc, n, hd⟩, _⟩ := I.tuple h
  exact ⟨o, its.toArray, n, e, hc, hd, by simpa using words_vals r⟩
/-- set(l) -/
def rSetTx (K : PySem.W.Frag) (P : Program) (w : World) : List V → Hp → VK → Prop := fun vs H Q => ∃ (l : Addr) (ks : List Mb), vs = [V.ref l] ∧ SqL K H l (ks.map fun m => V.ref m.1) ∧ (∀ m ∈ ks, SqT K H m.1 (m.2.map V.str)) ∧ ks.length < 64 ∧
  ∀ a Ms, H a = none → (∀ m ∈ Ms, m ∈ ks) → (∀ m ∈ ks, m.2 ∈ Ms.map (·.2)) → (Ms.map (·.2)).Nodup → Q (.ref a) (upd H a (TxO P w a Ms))
theorem cr_setTx (hc : X.calm = true) (hu : X.A.units + 64 < cLine) : CallR X (.type "set") (rSetTx X.K X.prog X.w) := by
  intro pins s σ H vs us Q I r ⟨l, ks, e, hl, hk, hf, q⟩
  subst e
  rw [Vals.ref1 r]
  obtain ⟨its, rv, pl, hz⟩ := I.list hl
  have hn : H s.heap.objs.size = none := I.hok.fresh (Nat.le_refl _)
  refine call_tx (P := X.prog) (w := X.w) ks (I.ok.hd hc) pl.isList (by simpa using mb_vals rv) (fun m hm => inv_wd I (hk m hm)) hf (by omega) fun H' tk Ms es ep t R g k => ?_
  exact ⟨.ref s.heap.objs.size, upd H s.heap.objs.size (TxO X.prog X.w s.heap.objs.size Ms), I.laid (t' := tk) k (Nat.le_refl _) (txO_ok R.bare), rfl, q _ Ms hn (fun m hm => List.mem_of_mem_take (g.sub m hm)) (fun m hm => g.all m (by rw [List.take_length]; exact hm)) R.uni⟩
abbrev srtM (Ms : List Mb) : List Mb := Ms.mergeSort (PySem.W.dataLe false fun m : Mb => txD m.2)
/-- sorted(a), a such a set -/
def rSortTx (K : PySem.W.Frag) (P : Program) (w : World) : List V → Hp → VK → Prop := fun vs H Q => ∃ (a : Addr) (Ms : List Mb), vs = [V.ref a] ∧ H a = some (TxO P w a Ms) ∧ (∀ m ∈ Ms, SqT K H m.1 (m.2.map V.str)) ∧
  (∀ Ms' : List Mb, Ms'.Perm Ms → PySem.W.AllAlike (Ms'.map fun m => txD m.2) ∧ PySem.W.Sortable (Ms'.map fun m => txD m.2)) ∧
  ∀ (Ms' : List Mb) (p : Addr), Ms'.Perm Ms → H p = none → Q (.ref p) (upd H p (.lst ((srtM Ms').map fun m => V.ref m.1)))
theorem cr_sortedTx (hc : X.calm = true) (hu : X.A.units + 65 < cLine) : CallR X (.builtin "sorted") (rSortTx X.K X.prog X.w) := by
  intro pins s σ H vs us Q I r ⟨a, Ms, e, ha, hk, al, q⟩
  subst e
  have B : TxB X.prog X.w a Ms s.heap := (I.hok a _ ha).1
  obtain ⟨es, ep, t, R⟩ := B.set fun m hm => inv_wd I (hk m hm)
  rw [Vals.ref1 r]
  refine sorted_tx R (I.ok.hd hc) (fun m hm H' k => ⟨[], wd_reads (wd_keep (R.mem m hm) k), fun b z => (nomatch z)⟩) al hu fun s' p out c Ms' k g o hp hg pm ho => ?_
  have few : Ms'.length < 64 := by rw [pm.length_eq]; exact R.few
  have len : ((srtM Ms').map fun m => V.ref m.1).length ≤ sizeLine := by rw [List.length_map, List.length_mergeSort, sizeLine_eq]; omega
  have hn : H p = none := I.hok.fresh hp
  have hv : Vals ((srtM Ms').map fun m => V.ref m.1) out.toList := by rw [ho]; exact vals_mb _
  have J : Inv X pins σ (upd H p (.lst ((srtM Ms').map fun m => V.ref m.1))) { s with heap := s'.heap, gens := s'.gens, drawn := s'.drawn, toks := s'.toks } :=
    I.call (ch := []) (Un.laid k hp hn) (I.hok.laid k hp ⟨len, out.toList, c, hv, hg⟩) (by rw [g]; exact I.bare) (fun _ z => (nomatch z))
  have e : s' = { s with heap := s'.heap, gens := s'.gens, drawn := s'.drawn, toks := s'.toks } := by
    obtain ⟨h1, h2, h3, h4, h5⟩ := s'
    obtain rfl : h5 = s.os := o
    rfl
  rw [e]
  exact ⟨.ref p, _, J, rfl, q Ms' p pm hn⟩
end
end ST
namespace DL
open PySem PySem.Spec PyProof.Rows L2 ST
def TxGood (ds : List D) : Prop := ds.length < 64 ∧ (∀ d ∈ ds, ∃ ws, d = txD ws) ∧ ∃ out : List D, ∀ es : List (List Str), es.Nodup → (∀ ws, ws ∈ es ↔ txD ws ∈ ds) → (PySem.W.AllAlike (es.map txD) ∧ PySem.W.Sortable (es.map txD)) ∧ srtD (es.map txD) = out
open Classical in
noncomputable def oneSort : List D → Option D
  | [.list ds] => if h : TxGood ds then some (.list (Classical.choose h.2.2)) else none
  | _ => none
theorem txD_inj {us ws : List Str} (e : txD us = txD ws) : us = ws := by
  injection e with e
  revert e
  induction us generalizing ws with
  | nil => intro e; cases ws with
    | nil => rfl
    | cons x ws => cases e
  | cons y us ih => intro e; cases ws with
    | nil => cases e
    | cons x ws =>
      rw [List.map_cons, List.map_cons] at e
      injection e with e1 e2
      injection e1 with e1
      rw [e1, ih e2]
theorem oneSort_eq {ds out : List D} (es0 : List (List Str)) (n0 : es0.Nodup) (m0 : ∀ ws, ws ∈ es0 ↔ txD ws ∈ ds) (h1 : ds.length < 64) (h2 : ∀ d ∈ ds, ∃ ws, d = txD ws)
    (h3 : ∀ es : List (List Str), es.Nodup → (∀ ws, ws ∈ es ↔ txD ws ∈ ds) → (PySem.W.AllAlike (es.map txD) ∧ PySem.W.Sortable (es.map txD)) ∧ srtD (es.map txD) = out) : oneSort [.list ds] = some (.list out) := by
  have g : TxGood ds := ⟨h1, h2, out, h3⟩
  have z := (Classical.choose_spec g.2.2 es0 n0 m0).2
  have y := (h3 es0 n0 m0).2
  unfold oneSort
  dsimp only
  rw [dif_pos g, ← z, y]
section
variable {G : Gm} {k : Nat} {sc : Sx} {N : List Str}
theorem da_words {K : PySem.W.Frag} {M : Addr → Prop} {H : Hp} : ∀ {ws : List Str} {xs : List V}, DaL K M H xs (ws.map PyData.str) → xs = ws.map V.str
  | [], _, .nil => rfl
  | x :: ws, _, .cons h t => by
    cases h
    rw [da_words t]
    rfl
theorem words_da {K : PySem.W.Frag} {M : Addr → Prop} {H : Hp} : ∀ ws : List Str, DaL K M H (ws.map V.str) (ws.map PyData.str)
  | [] => .nil
  | x :: ws => .cons (.str x) (words_da ws)
theorem mbs_of {K : PySem.W.Frag} {M : Addr → Prop} {H : Hp} : ∀ {xs : List V} {ds : List D}, DaL K M H xs ds → (∀ d ∈ ds, ∃ ws, d = txD ws) → ∃ ks : List Mb, xs = ks.map (fun m => V.ref m.1) ∧ ds = ks.map (fun m => txD m.2) ∧ ∀ m ∈ ks, SqT K H m.1 (m.2.map V.str)
  | _, _, .nil, _ => ⟨[], rfl, rfl, fun m z => (nomatch z)⟩
  | _, _, .cons (v := v) (d := d) h t, hd => by
    obtain ⟨ws, rfl⟩ := hd d List.mem_cons_self
    obtain ⟨ks, e1, e2, e3⟩ := mbs_of t fun d z => hd d (List.mem_cons_of_mem _ z)
    cases h with
    | tup h1 h2 =>
      rename_i a xs
      refine ⟨(a, ws) :: ks, by rw [e1]; rfl, by rw [e2]; rfl, fun m z => ?_⟩
      rcases List.mem_cons.mp z with rfl | z
      · rw [← da_words h2]; exact h1
      · exact e3 m z
theorem mbs_da {K : PySem.W.Frag} {M : Addr → Prop} {H : Hp} : ∀ ks : List Mb, (∀ m ∈ ks, SqT K H m.1 (m.2.map V.str)) → DaL K M H (ks.map fun m => V.ref m.1) (ks.map fun m => txD m.2)
  | [], _ => .nil
  | m :: ks, h => .cons (.tup (h m List.mem_cons_self) (words_da m.2)) (mbs_da ks fun m' z => h m' (List.mem_cons_of_mem _ z))
/-- what sorted gives of such a set, as data -/
theorem sortTx_da {K : PySem.W.Frag} {P : Program} {w : World} {M : Addr → Prop} {H : Hp} {a : Addr} {ks Ms : List Mb} {ds out : List D} {Q : VK} (ml : Ml M H) (ed : ds = ks.map fun m => txD m.2) (hk : ∀ m ∈ ks, SqT K H m.1 (m.2.map V.str))
    (h3 : ∀ es : List (List Str), es.Nodup → (∀ ws, ws ∈ es ↔ txD ws ∈ ds) → (PySem.W.AllAlike (es.map txD) ∧ PySem.W.Sortable (es.map txD)) ∧ srtD (es.map txD) = out)
    (ha : H a = some (TxO P w a Ms)) (h1 : ∀ m ∈ Ms, m ∈ ks) (h2 : ∀ m ∈ ks, m.2 ∈ Ms.map (·.2)) (un : (Ms.map (·.2)).Nodup) (hq : ∀ v H', Same H H' → Da K M H' v (.list out) → Q v H') : rSortTx K P w [V.ref a] H Q := by
  have mem : ∀ Ms' : List Mb, Ms'.Perm Ms → ∀ ws, ws ∈ Ms'.map (·.2) ↔ txD ws ∈ ds := fun Ms' pm ws => by
    rw [ed]
    constructor
    · intro z
      obtain ⟨m, hm, rfl⟩ := List.mem_map.mp z
      exact List.mem_map.mpr ⟨m, h1 m (pm.mem_iff.mp hm), rfl⟩
    · intro z
      obtain ⟨m, hm, e⟩ := List.mem_map.mp z
      rw [← txD_inj e]
      exact (pm.map (·.2)).mem_iff.mpr (h2 m hm)
  have all : ∀ Ms' : List Mb, Ms'.Perm Ms → (PySem.W.AllAlike (Ms'.map fun m => txD m.2) ∧ PySem.W.Sortable (Ms'.map fun m => txD m.2)) ∧ srtD (Ms'.map fun m => txD m.2) = out := fun Ms' pm => by
    have z := h3 (Ms'.map (·.2)) ((pm.map (·.2)).nodup_iff.mpr un) (mem Ms' pm)
    rw [List.map_map] at z
    exact z
  refine ⟨a, Ms, rfl, ha, fun m hm => hk m (h1 m hm), fun Ms' pm => (all Ms' pm).1, fun Ms' p pm hp => hq _ _ (same_upd hp) ?_⟩
  have e : (srtM Ms').map (fun m => txD m.2) = out := by
    rw [← (all Ms' pm).2]
    exact PySem.W.sort_maps (r := PySem.W.dataLe false fun m : Mb => txD m.2) (s := PySem.W.dataLe false fun d : D => d) (fun m : Mb => txD m.2) (l := Ms') (fun a _ b _ => rfl)
  rw [← e]
  refine .lst upd_same (ml.fresh hp) (mbs_da _ fun m hm => sqt_same (same_upd hp) (hk m (h1 m (pm.mem_iff.mp (List.mem_mergeSort.mp hm)))))
theorem e_sortset (hk : 1 ≤ k) {e : Expr} {f : Ev → Mn (List Slot)} {p p2 pos pos2 : Pos} (ha : SA G k sc N [e] f) (hm : Mg0 G "sorted") (hm2 : Mg0 G "set") (hg : glB sc "sorted" = true := by rfl) (hg2 : glB sc "set" = true := by rfl)
    (he : ∀ env, starEach [e] env = (false, eval e env) :: starEach [] env := by intro _; rfl) :
    SE G k sc N (.Call (.Name "sorted" p) [.Call (.Name "set" p2) [e] [] pos2] [] pos) (dFn oneSort f) :=
  e_arg (rl := fun X vs H Q => rSetTx X.K X.prog X.w vs H fun v H' => rSortTx X.K X.prog X.w [v] H' Q) ha (fun X t g h => by
    have u := units65 g hk
    exact pe_imp (pe_callB (cr_sortedTx g.calm u) (gl_of g hg) (by rw [g.hmg]; exact hm) (by decide +kernel) (pa_cons (pe_callTy (cr_setTx g.calm (by omega)) (gl_of g hg2) (by rw [g.hmg]; exact hm2) (by decide +kernel) h (by decide) (by decide) (he _) (by rfl)) pa_nil) (by decide) (by decide) (by rfl) (by rfl)) fun σ H Q hh => hh)
   (fun X M H vs ds d Q g ml h e hq => by
    unfold oneSort at e
    split at e
    · rename_i ds'
      obtain ⟨v, rfl, h1⟩ := one_da h
      split at e
      · rename_i good
        cases e
        cases h1 with
        | lst h2 n t =>
          obtain ⟨ks, e1, e2, e3⟩ := mbs_of t good.2.1
          subst e1
          refine ⟨_, ks, rfl, by rw [g.hK]; exact .of h2, fun m hm => by rw [g.hK]; exact e3 m hm, by have z := good.1; rw [e2, List.length_map] at z; exact z, fun a Ms hn i1 i2 un => ?_⟩
          rw [g.hK]
          exact sortTx_da (ml.upd hn) e2 (fun m hm => sqt_same (same_upd hn) (e3 m hm)) (Classical.choose_spec good.2.2) upd_same i1 i2 un fun v H' s d => hq v H' (fun b o z => s b o (same_upd hn b o z)) d
      · cases e
    · cases e)
end
end DL
namespace ST
open PySem PySem.Spec PyProof.Rows L2 DL
section
variable {P : Program} {w : World} {Ar : Around} {Er : Value → Shared → Prop} {st : Shared} {a : Addr}
/-- a.add(x) -/
theorem call_add_tx {Ms : List Mb} {es : Array (Int × Value)} {ep : Nat} {t : SetTable} (R : TxSet P w st.heap a Ms es ep t) {x : Addr} {ws : List Str} (g : Wd P w st.heap ws x) (hu : Ar.units + 2 < cLine) (hf : Ms.length + 1 < 64) {Qr : Value → Shared → Prop}
    (q : ∀ H' tk Ms' es' ep' t', Heap.SameBut a st.heap H' → TxSet P w H' a Ms' es' ep' t' → (ws ∈ Ms.map (·.2) → Ms' = Ms) → (ws ∉ Ms.map (·.2) → Ms'.Perm ((x, ws) :: Ms)) → Qr .none { st with heap := H', toks := tk }) :
    wpAny (model P w) Ar (call (.builtin "set.add") [.ref a, .ref x]) Qr Er st := by
  obtain ⟨ob, hO, hX, hD⟩ := id R.obj
  refine wpAny_call_entry F.slot_set_add ⟨ob, hO, hX.1⟩ F.entry_set_add ?_ (F.args_set_add_2 (_) _)
  unfold Builtin.«set.add» Builtin.Frozenset.oneOther
  simp only [List.isEmpty_nil, bind_assoc]
  unfold Builtin.Frozenset.addrOf
  refine wpAny_bind (wpAny_pure (?_))
  try dsimp only
  refine wpAny_bind (wpAny_pure (?_))
  try dsimp only
  refine wpAny_bind (put_tx R g (by show Ar.units + 1 < cLine; omega) hf fun z H' tk Ms' es' ep' t' _ but R' h1 h2 => ?_)
  show wpAny (model P w) _ (ret Value.none) _ _ _
  exact wpAny_pure ⟨_, rfl, q H' tk Ms' es' ep' t' but R' h1 h2⟩
end
section
variable {X : Cx}
theorem add_txo {pins : List (Addr × Obj)} {σ : L2.St} {H : Hp} {s : Shared} {E : Value → Shared → Prop} {D x : Addr} {ws : List Str} {Ms : List Mb} {Q : Value → Shared → Prop} (I : Inv X pins σ H s) (hD : H D = some (TxO X.prog X.w D Ms)) (hx : SqT X.K H x (ws.map V.str))
    (hm : ∀ m ∈ Ms, SqT X.K H m.1 (m.2.map V.str)) (hf : Ms.length + 1 < 64) (hu : X.A.units + 65 < cLine)
    (q : ∀ s' Ms', Inv X pins σ (upd H D (TxO X.prog X.w D Ms')) s' → (ws ∈ Ms.map (·.2) → Ms' = Ms) → (ws ∉ Ms.map (·.2) → Ms'.Perm ((x, ws) :: Ms)) → (Ms'.map (·.2)).Nodup → Q .none s') : wpAny (model X.prog X.w) X.A (call (.builtin "set.add") [.ref D, .ref x]) Q E s := by
  have B : TxB X.prog X.w D Ms s.heap := (I.hok D _ hD).1
  obtain ⟨es, ep, t, R⟩ := B.set fun m z => inv_wd I (hm m z)
  refine call_add_tx R (inv_wd I hx) (by omega) hf fun H' tk Ms' es' ep' t' but R' h1 h2 => ?_
  have ex : ∃ u, H'.get? D = some u := by
    obtain ⟨o, e, _⟩ := R'.obj
    exact ⟨o, e⟩
  exact q _ Ms' (I.write (e := D) (t' := tk) (by rw [hD]; trivial) (.inl rfl) (fun b u hb e => (but.2 b hb).trans e) ex (txO_ok R'.bare)) h1 h2 R'.uni
/-- {elt for tg in iter if ..}, elt a tuple of texts: D the new set -/
def tScT (K : PySem.W.Frag) (P : Program) (w : World) (wi : TI) (g : TG) (tt : TT) (te : TE) (vs : List Nat) : TE := fun σ H Q => wi σ H fun J H1 => ∀ D, H1 D = none → ∃ Wk : Nat → Nat → Hp → Prop, (∃ m, Wk 0 m (upd H1 D (TxO P w D []))) ∧ ∀ i m H, Wk i m H →
  (J.stop i H ∧ Q (.ref D) H) ∨ (J.go i H ∧ ∃ Nx : Hp → Prop, (∀ H', Nx H' → ∃ m', m' < m ∧ Wk (i + 1) m' H') ∧ ∀ x H', J.yld i H x H' → g x (wipe σ vs) H' fun σ2 H2 => wipe σ2 vs = wipe σ vs ∧ tt σ2 H2 fun b H3 =>
    if b = true then te σ2 H3 fun y H4 => ∃ (x : Addr) (ws : List Str) (Ms : List Mb), y = .ref x ∧ SqT K H4 x (ws.map V.str) ∧ H4 D = some (TxO P w D Ms) ∧ (∀ m ∈ Ms, SqT K H4 m.1 (m.2.map V.str)) ∧ Ms.length + 1 < 64 ∧
      ∀ Ms', (ws ∈ Ms.map (·.2) → Ms' = Ms) → (ws ∉ Ms.map (·.2) → Ms'.Perm ((x, ws) :: Ms)) → (Ms'.map (·.2)).Nodup → Nx (upd H4 D (TxO P w D Ms')) else Nx H3)
theorem scT_core {pins : List (Addr × Obj)} {s : Shared} {σ : L2.St} {H : Hp} {Q : VK} {elt tg iter : Expr} {ifs : List Expr} {scope : Scope} {own : List (PySem.Str × Nat)} {pos pos' : Pos} {wi : TI} {g : TG} {tt : TT} {te : TE} {use : Option (Value → Sem Unit)} {Qf : Value → Shared → Prop}
    (hc : X.calm = true) (hu : X.A.units + 65 < cLine) (hN : X.N.Nodup) (I : Inv X pins σ H s) (hi : PI X tg iter wi) (ok : BlkOk X.N X.env.scope scope own)
    (hg : ∀ (s : Shared) (H : Hp) (C : Addr) (cl : List (PySem.Str × Addr)) (fp : List Addr), PG (X.blk s H scope (compEnvC scope cl C X.env) fp) tg g) (ht : ∀ (s : Shared) (H : Hp) (C : Addr) (cl : List (PySem.Str × Addr)) (fp : List Addr), PTs (X.blk s H scope (compEnvC scope cl C X.env) fp) ifs tt)
    (he : ∀ (s : Shared) (H : Hp) (C : Addr) (cl : List (PySem.Str × Addr)) (fp : List Addr), PE (X.blk s H scope (compEnvC scope cl C X.env) fp) elt te) (hs : ∀ x, foldedSetIterable iter X.env x = pure x)
    (h : tScT X.K X.prog X.w wi g tt te (own.map (·.2)) σ H Q)
    (fin : ∀ D C s' m H', Inv X pins σ H' s' → Q (.ref D) H' → s'.heap.Ns C m → FpOk X pins H' C → compPost (model X.prog X.w) X.A X.xe use Qf (.ref D) C (.ok .next) s') :
    wpAny (model X.prog X.w) X.A (comprehension (.SetComp elt [⟨tg, iter, ifs, 0⟩] scope pos) scope X.env pos' (newSet (.type "set")) false (eval iter X.env) use) Qf X.xe s := by
  have bound : ∀ y ∈ scope.names, y.2 = .free → ∃ c, X.env.cells.lookup y.1 = some c := fun y hy e => (ok.free y hy e).elim (fun z => I.ok.has _ (.inl z)) (fun z => I.ok.has _ (.inr z))
  refine wpAny_comprehension_free (use := use) rfl hs (closure_ok bound) ok.kind (fun y hy e => (by rw [ok.uniq y hy, e]))
    (thn (hi.run pins s σ H _ I h) fun xv s1 hx => thn hx fun itv s2 ⟨it, fp, tn, J, H2, e, I2, T, st2, f2, q⟩ => ?_)
  subst e
  refine PpSet.newSet_ok (newEnv_comp ?_)
  generalize hD : s2.heap.objs.size = D
  have dn : H2 D = none := I2.hok.fresh (Nat.le_of_eq hD)
  obtain ⟨Wk, ⟨m0, w0⟩, turn⟩ := q D dn
  generalize hs3 : ({ s2 with heap := s2.heap.push (set0 X.w) } : Shared) = s3
  have h3 : s3.heap = s2.heap.push (set0 X.w) := by rw [← hs3]
  have at3 : s3.heap.get? D = some (set0 X.w) := by rw [h3, ← hD]; exact Heap.get?_push_size _ rfl
  have I3 : Inv X pins σ (upd H2 D (TxO X.prog X.w D [])) s3 := by
    rw [← hs3]
    refine I2.laid (t' := s2.toks) (fun b o e => Heap.get?_push_of_some _ e) (Nat.le_of_eq hD) ?_
    rw [h3] at at3
    exact txO_ok (tx_new (P := X.prog) at3).bare
  have old : ∀ b ∈ fp, b < s2.heap.objs.size := fun b hb => (T.obj _ _ st2 b hb).elim fun o z => Heap.lt_size z.1
  have f3 : ∀ b ∈ fp, FpOk X pins (upd H2 D (TxO X.prog X.w D [])) b ∧ b < s3.heap.objs.size := fun b hb => by
    have lt := old b hb
    refine ⟨⟨?_, (f2 b hb).2⟩, (by rw [h3, Heap.size_push]; exact Nat.lt_succ_of_lt lt)⟩
    rw [upd_ne (by rw [← hD]; exact Nat.ne_of_lt lt)]
    exact (f2 b hb).1
  have st3 : tn 0 s3.heap := T.keep _ _ _ st2 fun b _ o e => (by rw [h3]; exact Heap.get?_push_of_some _ e)
  have I4 := block_start I3 ok hN f3
  have pg := hg s3 (upd H2 D (TxO X.prog X.w D [])) s3.heap.objs.size (cellsFrom (s3.heap.objs.size + 1) scope.names (cloFrom X.env.cells scope.names [])) fp
  have pt := ht s3 (upd H2 D (TxO X.prog X.w D [])) s3.heap.objs.size (cellsFrom (s3.heap.objs.size + 1) scope.names (cloFrom X.env.cells scope.names [])) fp
  have pe := he s3 (upd H2 D (TxO X.prog X.w D [])) s3.heap.objs.size (cellsFrom (s3.heap.objs.size + 1) scope.names (cloFrom X.env.cells scope.names [])) fp
  show codeAny _ _ (.compStart (.SetComp elt [⟨tg, iter, ifs, 0⟩] scope pos) 0 (.ref it) (.ref D) (compEnvC scope (cellsFrom (s3.heap.objs.size + 1) scope.names (cloFrom X.env.cells scope.names [])) s3.heap.objs.size X.env)) (compPost (model X.prog X.w) X.A X.xe use Qf (.ref D) s3.heap.objs.size) { s3 with heap := pushCells (s3.heap.push { cls := .type "dict", data := .dict #[] }) scope.names }
  have nfp : ∀ b ∈ fp, (upd H2 D (TxO X.prog X.w D [])) b = none := fun b hb => (f3 b hb).1.1
  generalize hce : compEnvC scope (cellsFrom (s3.heap.objs.size + 1) scope.names (cloFrom X.env.cells scope.names [])) s3.heap.objs.size X.env = ce at I4 pg pt pe ⊢
  have cl : ce.locals = s3.heap.objs.size := by subst hce; rfl
  generalize hH3 : upd H2 D (TxO X.prog X.w D []) = H3 at I3 I4 pg pt pe w0 nfp f3
  generalize hs4 : ({ s3 with heap := pushCells (s3.heap.push { cls := .type "dict", data := .dict #[] }) scope.names } : Shared) = s4 at I4 ⊢
  have st4 : tn 0 s4.heap := T.keep _ _ _ st3 fun b _ o e => (by rw [← hs4]; exact pushCells_keeps _ _ _ _ (Heap.get?_push_of_some _ e))
  have out : ∀ {σ' : L2.St} {H' : Hp} {s' : Shared}, Inv (X.blk s3 H3 scope ce fp) [] σ' H' s' → (∀ b ∈ fp, H' b = none) → ∀ b ∈ fp, FpOk (X.blk s3 H3 scope ce fp) [] H' b := fun {σ' H' s'} I' hn b hb =>
    ⟨hn b hb, (I'.ok.exf b hb).1, I'.ok.exfs b hb, .inl hb, fun x c e => (I'.ok.exf b hb).2 x c e, fun p hp => absurd (show p ∈ ([] : List (Addr × Obj)) ++ [] from hp) (by simp)⟩
  have loop : codeAny (model X.prog X.w) X.A (.compLoop (.SetComp elt [⟨tg, iter, ifs, 0⟩] scope pos) 0 (.ref it) (.ref D) ce) (compPost (model X.prog X.w) X.A X.xe use Qf (.ref D) s3.heap.objs.size) s4 := by
    refine PpSet.compLoopS_any (fun n s' => ∃ i H', Inv (X.blk s3 H3 scope ce fp) [] (wipe σ (own.map (·.2))) H' s' ∧ tn i s'.heap ∧ (∀ b ∈ fp, H' b = none) ∧ Wk i n H') ?_ m0 ⟨0, H3, I4, st4, nfp, w0⟩
    rintro n s5 ⟨i, H5, I5, st5, n5, w5⟩
    rcases turn i n H5 w5 with ⟨stop, qq⟩ | ⟨go, Nx, hNx, step⟩
    · refine thnF (T.done (X.blk s3 H3 scope ce fp) rfl rfl rfl hc i [] s5 _ H5 (fun _ _ => False) I5 (out I5 n5) st5 stop) fun r s6 ⟨hr, I6⟩ => ?_
      subst hr
      have I7 : Inv X pins σ H5 s6 := I3.call' (ch := fp) I6.os I6.base I6.hok I6.bare fun b hb => ⟨(f3 b hb).1.2.2.2.1, (f3 b hb).1.2.1, (f3 b hb).1.2.2.2.2.1, (f3 b hb).1.2.2.2.2.2⟩
      have nC : H5 s3.heap.objs.size = none := by
        have z : H5 ce.locals = none := I6.free
        rwa [cl] at z
      obtain ⟨m, hn, _⟩ := I6.loc
      have hn : s6.heap.Ns ce.locals m := hn
      rw [cl] at hn
      exact fin D s3.heap.objs.size s6 m H5 I7 qq hn (I3.fpOk (Nat.le_refl _) nC)
    · refine thnF (T.item (X.blk s3 H3 scope ce fp) rfl rfl rfl hc i [] s5 _ H5 (fun _ _ => False) I5 (out I5 n5) st5 go) fun r s6 ⟨u, hr, h6⟩ => ?_
      subst hr
      refine thnF h6 fun _ s7 ⟨x, H7, I7, r7, y7, st7, n7⟩ => ?_
      refine thnF (pg.run _ s7 _ H7 x u _ (I7.pinned (out I7 n7) (T.obj _ _ st7)) r7 (step x H7 y7)) fun _ s8 ⟨σ8, H8, I8, hw8, q8⟩ => ?_
      refine thnF (pt.run _ s8 σ8 H8 _ I8 q8) fun b s9 ⟨H9, I9, q9⟩ => ?_
      have again : ∀ {s' : Shared} {H' : Hp}, Inv (X.blk s3 H3 scope ce fp) ([] ++ pinsAt fp s7.heap) σ8 H' s' → Nx H' → ∃ m, m < n ∧ ∃ i H', Inv (X.blk s3 H3 scope ce fp) [] (wipe σ (own.map (·.2))) H' s' ∧ tn i s'.heap ∧ (∀ b ∈ fp, H' b = none) ∧ Wk i m H' := fun {s' H'} I' nx => by
        obtain ⟨m', hm, w'⟩ := hNx H' nx
        have pin' : ∀ b ∈ fp, ∀ o, s7.heap.get? b = some o → s'.heap.get? b = some o ∧ H' b = none := fun b hb o e =>
          ⟨(I'.pin (b, o) (List.mem_append_right _ (List.mem_append_right _ (mem_pinsAt hb e)))).1, (I'.pin (b, o) (List.mem_append_right _ (List.mem_append_right _ (mem_pinsAt hb e)))).2.1⟩
        have len : (wipe σ (own.map (·.2))).length = σ8.length := by rw [← hw8, wipe_length]
        refine ⟨m', hm, i + 1, H', (I'.unpinned (pins := [])).weak len (fun j v e => ?_), T.keep _ _ _ st7 fun b hb o e => (pin' b hb o e).1, fun b hb => ?_, w'⟩
        · rw [← hw8] at e
          exact (wipe_some e).1
        · obtain ⟨o, e, _⟩ := T.obj _ _ st7 b hb
          exact (pin' b hb o e).2
      cases b with
      | false =>
        simp only [Bool.false_eq_true, if_false] at q9 ⊢
        exact again I9 q9
      | true =>
        simp only [if_true] at q9 ⊢
        refine thnF (pe.run _ s9 σ8 H9 _ I9 q9) fun z s10 ⟨yv, H10, I10, r10, xa, ws, Ms, ey, hx, hD10, hm, hf, nx⟩ => ?_
        subst ey
        cases (show z = Value.ref xa from r10)
        exact add_txo (X := X.blk s3 H3 scope ce fp) I10 hD10 hx hm hf hu fun s11 Ms' I11 h1 h2 un => again I11 (nx Ms' h1 h2 un)
  exact PpSet.codeAny_compStart_set loop (T.self X.A 0 _ _ _ st4 loop)
/-- as a value -/
theorem pe_scT {elt tg iter : Expr} {ifs : List Expr} {scope : Scope} {own : List (PySem.Str × Nat)} {pos : Pos} {wi : TI} {g : TG} {tt : TT} {te : TE} (hc : X.calm = true) (hu : X.A.units + 65 < cLine) (hN : X.N.Nodup) (hi : PI X tg iter wi) (ok : BlkOk X.N X.env.scope scope own)
    (hg : ∀ (s : Shared) (H : Hp) (C : Addr) (cl : List (PySem.Str × Addr)) (fp : List Addr), PG (X.blk s H scope (compEnvC scope cl C X.env) fp) tg g) (ht : ∀ (s : Shared) (H : Hp) (C : Addr) (cl : List (PySem.Str × Addr)) (fp : List Addr), PTs (X.blk s H scope (compEnvC scope cl C X.env) fp) ifs tt)
    (he : ∀ (s : Shared) (H : Hp) (C : Addr) (cl : List (PySem.Str × Addr)) (fp : List Addr), PE (X.blk s H scope (compEnvC scope cl C X.env) fp) elt te) (hs : ∀ x, foldedSetIterable iter X.env x = pure x := by intro _; rfl) :
    PE X (.SetComp elt [⟨tg, iter, ifs, 0⟩] scope pos) (tScT X.K X.prog X.w wi g tt te (own.map (·.2))) := by
  refine ⟨fun pins s σ H Q I h => ?_⟩
  rw [PpSet.eval_SetComp]
  refine scT_core hc hu hN I hi ok hg ht he hs h fun D C s' m H' I' q hn f => ⟨m, hn, fun h'' sb => ?_⟩
  obtain ⟨f0, f1, f2, f3, f4, f5⟩ := f
  exact ⟨.ref D, H', I'.turned (t' := s'.toks) (fun b o hb e => (sb.2 b hb).trans e) f0 f1 f3 f4 f5, rfl, q⟩
end
end ST
namespace ST
open PySem PySem.Spec PyProof.Rows L2
def sD1 (acc : List Str) (x : Str) : List Str := if x ∈ acc then acc else acc ++ [x]
def sD (xs : List Str) : List Str := xs.foldl sD1 []
theorem sD_snoc (xs : List Str) (x : Str) : sD (xs ++ [x]) = sD1 (sD xs) x := by
  unfold sD
  rw [List.foldl_append]
  rfl
theorem sD1_len (acc : List Str) (x : Str) : (sD1 acc x).length = if x ∈ acc then acc.length else acc.length + 1 := by
  unfold sD1
  split <;> simp
theorem sD1_mem (acc : List Str) (x k : Str) : k ∈ sD1 acc x ↔ k ∈ acc ∨ k = x := by
  unfold sD1
  split
  · rename_i h
    constructor
    · exact .inl
    · rintro (z | rfl)
      · exact z
      · exact h
  · simp
theorem sD_le : ∀ (xs acc : List Str), (xs.foldl sD1 acc).length ≤ acc.length + xs.length
  | [], _ => Nat.le_refl _
  | x :: xs, acc => by
    have z := sD_le xs (sD1 acc x)
    have y := sD1_len acc x
    rw [List.foldl_cons, List.length_cons]
    split at y <;> omega
section
variable {P : Program} {w : World} {Ar : Around} {Er : Value → Shared → Prop} {st : Shared} {a : Addr}
set_option maxHeartbeats 8000000 in
theorem update_ws {I : Addr} {fp wr : List Addr} {Gn : Array GenState → Array GenState → Prop} {n : Nat} {Pv : Nat → Value → Prop} {Sn : Nat → Shared → Prop} {Rr : Result → Shared → Prop}
    (Wk : WalksS P w Ar.in1 I fp wr Gn n Pv Sn) (hSf : a ∉ fp) (xs : List Str) (hn : n = xs.length) (hf : xs.length < 1000) (hv : ∀ i v, Pv i v → ∃ x tk, xs[i]? = some x ∧ v = .str x tk) :
    ∀ (d i : Nat) (st : Shared), n - i = d → i ≤ n → Sn i st → st.heap.SetOf (PySem.strKind P w) a (fun k => decide (k ∈ sD (xs.take i))) (sD (xs.take i)).length →
      (∀ st', Moved (a :: wr) Gn st st' → st'.heap.SetOf (PySem.strKind P w) a (fun k => decide (k ∈ sD (xs.take n))) (sD (xs.take n)).length → Rr (.ok (.ret .none)) st') →
      codeAny (model P w) Ar (.builtin "set.update.loop" ⟨[.ref a, .ref I], []⟩) Rr st := by
  have nSw : a ∉ wr := fun z => hSf (Wk.sub _ z)
  have up : ∀ b ∈ wr, b ∈ a :: wr := fun b z => List.mem_cons_of_mem _ z
  have kept : ∀ {s s' : Shared} {S : Str → Bool} {m : Nat}, Moved wr Gn s s' → s.heap.SetOf (PySem.strKind P w) a S m → s'.heap.SetOf (PySem.strKind P w) a S m := fun {s s' S m} mv z => by
    obtain ⟨o, es, ep, t, e, y⟩ := z
    exact ⟨o, es, ep, t, mv.heap a o nSw e, y⟩
  intro d
  induction d with
  | zero =>
    intro i st hd hi hst hS hR
    have ei : i = n := by omega
    subst ei
    refine codeAny_builtin (R := Rr) F.entry_set_update_loop ?_
    rw [Around.under_plainId F.plain_set_update_loop (_)]
    show wpAny (model P w) Ar.in1 (pyNext (.ref I) >>= _) _ _ st
    refine wpAny_bind (Wk.done st _ _ hst fun st' mv => ?_)
    show wpAny (model P w) Ar.in1 (ret Value.none) _ _ st'
    exact wpAny_pure (hR st' (mv.mono up) (kept mv hS))
  | succ d ih =>
    intro i st hd hi hst hS hR
    have li : i < n := by omega
    refine codeAny_builtin (R := Rr) F.entry_set_update_loop ?_
    rw [Around.under_plainId F.plain_set_update_loop (_)]
    show wpAny (model P w) Ar.in1 (pyNext (.ref I) >>= _) _ _ st
    refine wpAny_bind (Wk.item i st _ _ li hst fun v st' hP hst' mv => ?_)
    obtain ⟨x, tk, hx, rfl⟩ := hv i v hP
    have hS1 := kept mv hS
    have len : (sD (xs.take i)).length ≤ i := by
      have z := sD_le (xs.take i) []
      rw [List.length_take] at z
      simp only [List.length_nil] at z
      exact Nat.le_trans z (by omega)
    have nx : sD (xs.take (i + 1)) = sD1 (sD (xs.take i)) x := by rw [take_one hx, sD_snoc]
    show wpAny (model P w) Ar.in1 (holding [Value.str x tk] (setAdd a (.str x tk)) >>= _) _ _ st'
    refine wpAny_bind (wpAny_holding ?_)
    unfold setAdd
    refine wpAny_holding (wpAny_bind ((PySem.strKind P w).pyHash (strKind_is P w x tk) ?_))
    refine wpAny_setAddHashed_of (s := { st' with toks := st'.toks + 1 }) (strKind_is P w x tk) rfl hS1 (by unfold scanBound; omega) fun H' but hS' => ?_
    have hS2 : H'.SetOf (PySem.strKind P w) a (fun k => decide (k ∈ sD (xs.take (i + 1)))) (sD (xs.take (i + 1))).length := by
      refine PyProof.Rows.SetOf_congr hS' (fun k => ?_) ?_
      · rw [nx]
        have z := sD1_mem (sD (xs.take i)) x k
        show (decide (k ∈ sD (xs.take i)) || decide (k = x)) = decide (k ∈ sD1 (sD (xs.take i)) x)
        rw [← Bool.decide_or]
        exact decide_eq_decide.mpr z.symm
      · rw [nx, sD1_len]
        by_cases h1 : x ∈ sD (xs.take i) <;> simp [h1]
    refine wpAny_pure ⟨plainId_quiet F.plain_set_update_loop _, ih (i + 1) _ (by omega) li (Wk.frame _ st' _ _ hst' (Nat.le_add_right _ _) fun b hb o e => ?_) hS2 fun st2 mv2 hS3 => ?_⟩
    · rw [but.2 b (fun z : b = a => hSf (by rw [← z]; exact hb))]
      exact e
    · refine hR st2 (Moved.trans Wk.gtrans ((mv.mono up).then_heap (Nat.le_add_right _ _) fun b o hb e => ?_) mv2) hS3
      rw [but.2 b (fun z : b = a => hb (by rw [z]; exact List.mem_cons_self))]
      exact e
end
end ST
namespace ST
open PySem PySem.Spec PyProof.Rows L2
section
variable {P : Program} {w : World} {Ar : Around} {Er : Value → Shared → Prop} {st : Shared}
/-- set(l), l a tuple of texts -/
theorem call_ws {l : Addr} {its : Array Value} (xs : List Str) {Qr : Value → Shared → Prop} (hH : Ar.handled = none) (hl : st.heap.IsTuple l its) (hi : ItemsAre (PySem.strKind P w) xs its.toList) (hf : xs.length < 1000)
    (q : ∀ (H' : Heap) (tk : Nat), H'.SetOf (PySem.strKind P w) st.heap.objs.size (fun k => decide (k ∈ sD xs)) (sD xs).length → (∀ b o, st.heap.get? b = some o → H'.get? b = some o) → Qr (.ref st.heap.objs.size) { st with heap := H', toks := tk }) :
    wpAny (model P w) Ar (call (.type "set") [.ref l]) Qr Er st := by
  have isz : its.size = xs.length := by rw [hi.length, Array.length_toList]
  have made := F.called_set.made
  have subt := F.called_set.sub
  have ntyp := F.called_set.notType
  have mayc := F.called_set.canCreate
  have one := F.typeCall_set_1 (.ref l)
  obtain ⟨mc, ml, hmro⟩ := F.called_set.mro
  refine wpAny_call (codeAny_of_tree (?_))
  show wpAny _ _ (callAny (.type "set") _) _ _ _
  refine wpAny_pure ⟨Code.quiet_builtin _ (by decide +kernel), codeAny_builtin F.entry_type_call (?_)⟩
  rw [Around.under_plain (weight_type_call_type "set" [.ref l] []) (rfl)]
  repeat (any_goals (first | assumption | wp_step))

  refine codeAny_mono (code_set_led1 (.ref l) (E := Er) (Q₁ := fun obj s₁ => obj = .ref st.heap.objs.size ∧ s₁ = { st with heap := st.heap.push (set0 w) }) ⟨rfl, rfl⟩) fun r s₁ hr => ?_
  cases r with
  | error e => exact hr
  | ok fl =>
    cases fl with
    | ret obj =>
      obtain ⟨rfl, rfl⟩ := hr
      have hS : (st.heap.push (set0 w)).get? st.heap.objs.size = some (set0 w) := Heap.get?_push_size _ rfl
      have hT : Shared.TypeIs { st with heap := st.heap.push (set0 w) } (.ref st.heap.objs.size) "set" := ⟨_, hS, rfl⟩
      have look := F.called_set.init.lookup
      have bind := F.called_set.init.bind (.ref st.heap.objs.size)
      repeat (any_goals (first | assumption | wp_step))

      refine codeAny_mono (codeAny_call_builtin (R := wants (fun r s₂ => r = .none ∧ ∃ H' tk, s₂ = { st with heap := H', toks := tk } ∧ H'.SetOf (PySem.strKind P w) st.heap.objs.size (fun k => decide (k ∈ sD xs)) (sD xs).length ∧
          (∀ b o, st.heap.get? b = some o → H'.get? b = some o)) Er) F.called_set.init.plain F.entry_set_init (check_set_init_1 hT ?_)) fun r₂ s₂ hr₂ => ?_
      · obtain ⟨ol, hol, hcl, nl, hdl⟩ := hl
        obtain ⟨ocls, odict, odata, oslots⟩ := ol
        simp only at hcl hdl
        subst hcl; subst hdl
        have s1 := PySem.F.sub_tuple_set
        have s2 := PySem.F.sub_tuple_frozenset
        have s3 : (Value.type "tuple" == Value.type "dict") = false := by decide
        have hol' : (st.heap.push (set0 w)).get? l = some { cls := .type "tuple", dict := odict, data := .seq its nl, slots := oslots } := Heap.get?_push_of_some _ hol
        have hl1 : (st.heap.push (set0 w)).IsTuple l its := ⟨_, hol', rfl, nl, rfl⟩
        unfold Builtin.«set.__init__» noKeywords Builtin.Frozenset.updateFrom
        generalize hPI : pyIter = PI
        wp_walk
        subst hPI

        refine wpAny_pyIter_tuple hl1 ?_
        refine wpAny_bind (wpAny_runValue ?_)
        have lS : l < st.heap.objs.size := Heap.lt_size hol
        have h3 : Ar.in1.in1.in1.handled = none := by simp [hH]
        have nI : l ≠ (st.heap.push (set0 w)).objs.size := by
          rw [Heap.size_push]
          exact Nat.ne_of_lt (Nat.lt_succ_of_lt lS)
        have nS : st.heap.objs.size ∉ [(st.heap.push (set0 w)).objs.size, l] := by
          rw [Heap.size_push]
          simp only [List.mem_cons, List.mem_singleton, List.not_mem_nil, or_false, not_or]
          exact ⟨Nat.ne_of_lt (Nat.lt_succ_self _), Nat.ne_of_gt lS⟩
        have gets : ∀ (i : Nat) (v : Value), its[i]? = some v → ∃ x tk, xs[i]? = some x ∧ v = .str x tk := fun i v e => by
          have z : its.toList[i]? = some v := by rw [Array.getElem?_toList]; exact e
          have go : ∀ {xs : List Str} {vs : List Value}, ItemsAre (PySem.strKind P w) xs vs → ∀ (i : Nat), vs[i]? = some v → ∃ x tk, xs[i]? = some x ∧ v = .str x tk := by
            intro xs vs h
            induction h with
            | nil => intro i y; simp at y
            | @cons x0 v0 xs vs g1 g2 ih =>
              intro i y
              cases i with
              | zero =>
                obtain ⟨x, tk, e2⟩ := words_are (P := P) (w := w) (.cons g1 .nil) v0 List.mem_cons_self
                subst e2
                have e3 : x0 = x := (PySem.strKind P w).inj _ _ _ g1 (strKind_is P w x tk)
                subst e3
                exact ⟨x0, tk, rfl, (Option.some.inj y).symm⟩
              | succ i => exact ih i y
          exact go hi i z
        refine update_ws (a := st.heap.objs.size) ((Walks.tuple h3 _ l nI its).toS) nS xs isz hf gets (its.size - 0) 0 _ (by omega) (Nat.zero_le _)
          ⟨⟨_, Heap.get?_push_size _ rfl, rfl, rfl⟩, (hl1.push _)⟩ ?new ?fin
        case new =>
          have hg : ((st.heap.push (set0 w)).push { cls := .type "tuple_iterator", data := .fields #[.ref l, .int 0 0] }).get? st.heap.objs.size = some (set0 w) := Heap.get?_push_of_some _ hS
          exact PyProof.Rows.SetOf_congr ((PyProof.Rows.setObjOf_fresh (knd := PySem.strKind P w) (!w.params.followText "set-order")).setOf hg (by unfold scanBound; omega)) (fun _ => by simp [sD]) rfl
        case fin =>
          intro s' mv R
          obtain ⟨H', g2, d', tk', os'⟩ := s'
          obtain rfl : g2 = st.gens := mv.gens
          obtain rfl : d' = st.drawn := mv.drawn
          obtain rfl : os' = st.os := mv.os
          show wpAny _ _ _ _ _ _
          refine wpAny_pure ?_
          show wpAny _ _ (ret Value.none) _ _ _
          rw [isz, List.take_length] at R
          refine wpAny_pure ⟨rfl, H', tk', rfl, R, fun b o e => ?_⟩
          have lb := Heap.lt_size e
          have b2 : b ≠ (st.heap.push (set0 w)).objs.size := by
            rw [Heap.size_push]
            exact Nat.ne_of_lt (Nat.lt_succ_of_lt lb)
          exact mv.heap b o (by simp only [List.mem_cons, List.mem_singleton, List.not_mem_nil, or_false, not_or]; exact ⟨Nat.ne_of_lt lb, b2⟩) (Heap.get?_push_of_some _ (Heap.get?_push_of_some _ e))

      · cases r₂ with
        | error e => exact hr₂
        | ok fl₂ =>
          cases fl₂ with
          | ret r =>
            obtain ⟨rfl, H', tk, rfl, R, kp⟩ := hr₂
            repeat (any_goals (first | assumption | wp_step))
            exact q _ _ R kp
          | _ => exact hr₂.elim
    | _ => exact hr.elim
end
end ST
namespace DL
open PySem PySem.Spec PyProof.Rows L2 ST
noncomputable def dSortC (own : List Nat) (src : Ev → Mn (List D)) (t : Tgt) (cond : Ev → Mn Bool) (elt : Ev → Mn D) (ev : Ev) : Mn D :=
  bnd (src ev) fun ds => bnd (compGo t cond elt (wipeE ev own) ds) fun out => lft (oneSort [.list out])
theorem sqt_ne {K : PySem.W.Frag} {H : Hp} {D a : Addr} {f : Heap → Prop} {oo : HO} {xs : List V} (hD : H D = some (.ext f)) (h : SqT K H a xs) : SqT K (upd H D oo) a xs := by
  have ne : ∀ o, H a = some o → (∀ g, o ≠ .ext g) → a ≠ D := fun o e z y => by
    rw [y, hD] at e
    exact z f (Option.some.inj e).symm
  rcases h with (h | ⟨o, h⟩) | h
  · exact .inl (.inl (by rw [upd_ne (ne _ h (fun g z => by cases z))]; exact h))
  · exact .inl (.inr ⟨o, by rw [upd_ne (ne _ h (fun g z => by cases z))]; exact h⟩)
  · exact .inr h
theorem row_ne {K : PySem.W.Frag} {M : Addr → Prop} {H : Hp} {r : Rw} {rs : RS} {D : Addr} {f : Heap → Prop} {oo : HO} (hD : H D = some (.ext f)) (h : RowAt K M H r rs) : RowAt K M (upd H D oo) r rs := by
  have ne : ∀ {a} o, H a = some o → (∀ g, o ≠ .ext g) → a ≠ D := fun {a} o e z y => by
    rw [y, hD] at e
    exact z f (Option.some.inj e).symm
  obtain ⟨⟨e1, e1'⟩, e2⟩ := h
  refine ⟨⟨by rw [upd_ne (ne _ e1 (fun g z => by cases z))]; exact e1, e1'⟩, ?_⟩
  rcases e2 with ⟨h | ⟨o, h⟩, n⟩ | h
  · exact .inl ⟨.inl (by rw [upd_ne (ne _ h (fun g z => by cases z))]; exact h), n⟩
  · exact .inl ⟨.inr ⟨o, by rw [upd_ne (ne _ h (fun g z => by cases z))]; exact h⟩, n⟩
  · exact .inr h
section
variable {G : Gm} {k : Nat} {sc : Sx} {N : List Str}
theorem sc_imp {X : Cx} {W : WX} {fi : Ev → Mn (List D)} {t : Tgt} {fc : Ev → Mn Bool} {fe : Ev → Mn D} {own : List (Str × Nat)} {u : TG} {P : Program} {w : World} (g : Gd G k sc N X) (hu2 : ∀ M (σ : L2.St) H v d ds Q, Da G.K M H v d → t.of d = some ds → (∀ vs, DaL G.K M H vs ds → Q (setV σ t.ix vs) H) → u v σ H Q) (hix : ∀ i ∈ t.ix, i ∈ own.map (·.2)) :
    ∀ σ H Q, tE G.K G.mg W (dSortC (own.map (·.2)) fi t fc fe) σ H Q → tScT G.K P w (tI G.K G.mg W fi) u (tT G.K G.mg W0 fc) (tE G.K G.mg W0 fe) (own.map (·.2)) σ H (fun v H' => rSortTx G.K P w [v] H' Q) := fun σ H Q h => by
  obtain ⟨M, r, ev, rs, R, o, rs', e, wn⟩ := h
  refine tI_bnd R e wn fun ds rs1 H1 J R1 s1 jok e1 w1 => ?_
  intro D hDn
  obtain ⟨out, out', eg, rfl, good, eo⟩ : ∃ out out', compGo t fc fe (wipeE ev (own.map (·.2))) ds rs1 = some (.val out, rs') ∧ o = .val (.list out') ∧ TxGood out ∧ oneSort [.list out] = some (.list out') := by
    rcases bnd_some e1 with ⟨a, rs2, q1, q2⟩ | ⟨x, i, q1, _⟩
    · obtain ⟨d, q3, rfl, rfl⟩ := lft_some q2
      have q4 := q3
      unfold oneSort at q4
      dsimp only at q4
      split at q4
      · rename_i good
        cases q4
        exact ⟨a, _, q1, rfl, good, q3⟩
      · cases q4
    · obtain ⟨xs, q⟩ := compGo_val q1
      cases q
  have eo' : out' = Classical.choose good.2.2 := by
    unfold oneSort at eo
    dsimp only at eo
    rw [dif_pos good] at eo
    injection eo with eo
    injection eo with eo
    exact eo.symm
  have rD : r.a ≠ D := fun z => by
    obtain ⟨⟨e1, _⟩, _⟩ := R1.row
    rw [z, hDn] at e1
    cases e1
  refine ⟨fun i m H' => m = ds.length - i ∧ i ≤ ds.length ∧ ∃ (Ms ks : List Mb) (rest : List PyData) (rsi : RS), H' D = some (TxO P w D Ms) ∧ (∀ m ∈ ks, SqT G.K H' m.1 (m.2.map V.str)) ∧ (∀ m ∈ Ms, m ∈ ks) ∧ (∀ m ∈ ks, m.2 ∈ Ms.map (·.2)) ∧ (Ms.map (·.2)).Nodup ∧ Ms.length ≤ ks.length ∧ Same' r D H1 H' ∧ RowAt G.K M H' r rsi ∧
    compGo t fc fe (wipeE ev (own.map (·.2))) (ds.drop i) rsi = some (.val rest, rs') ∧ (ks.map fun m => txD m.2) ++ rest = out,
    ⟨_, rfl, Nat.zero_le _, [], [], out, rs1, upd_same, fun m z => (nomatch z), fun m z => (nomatch z), fun m z => (nomatch z), List.nodup_nil, Nat.le_refl _, fun b o hb hr e => by rw [upd_ne hb]; exact e, R1.row.new R1.ml R1.mr hDn, by rw [List.drop_zero]; exact eg, rfl⟩, ?_⟩
  rintro i m H2 ⟨rfl, hil, Ms, ks, rest, rsi, hD, hks, h1, h2, un, ll, hsm, row2, hgo, happ⟩
  have s12 : Stp r H1 H2 := fun b o n e => hsm b o (ne_of_none e hDn) n e
  have kp : Kp M H1 H2 := s12.kp R1.mr
  have R2 : RelE G.K M r (wipe σ (own.map (·.2))) H2 (wipeE ev (own.map (·.2))) rsi := (R1.wiped _).stp s12 row2
  by_cases hlt : i < ds.length
  · have hd := List.getElem?_eq_getElem hlt
    refine .inr ⟨jok.go H2 kp i _ hd, fun H' => ds.length - (i + 1) = ds.length - (i + 1) ∧ i + 1 ≤ ds.length ∧ ∃ (Ms ks : List Mb) (rest : List PyData) (rsi : RS), H' D = some (TxO P w D Ms) ∧ (∀ m ∈ ks, SqT G.K H' m.1 (m.2.map V.str)) ∧ (∀ m ∈ Ms, m ∈ ks) ∧ (∀ m ∈ ks, m.2 ∈ Ms.map (·.2)) ∧ (Ms.map (·.2)).Nodup ∧ Ms.length ≤ ks.length ∧ Same' r D H1 H' ∧ RowAt G.K M H' r rsi ∧
      compGo t fc fe (wipeE ev (own.map (·.2))) (ds.drop (i + 1)) rsi = some (.val rest, rs') ∧ (ks.map fun m => txD m.2) ++ rest = out, fun H' q => ⟨_, by omega, q⟩, fun x H3 hy => ?_⟩
    obtain ⟨sm3, dx⟩ := jok.yld M H2 kp (fun b z => .inl z) i _ x H3 hd hy
    rw [List.drop_eq_getElem_cons hlt] at hgo
    obtain ⟨es, ht1, hgo⟩ := bnd_lft hgo
    obtain ⟨c, rs2, hc1, hgo⟩ := bnd_nox hgo
    have R3 : RelE G.K M r (wipe σ (own.map (·.2))) H3 (wipeE ev (own.map (·.2))) rsi := R2.stp (.of_same sm3) (row_same R2.row sm3)
    refine hu2 _ _ _ _ _ _ _ dx ht1 fun vs hvs => ?_
    refine ⟨wipe_turn hix, ?_⟩
    have R4 := R3.setL (is := t.ix) hvs
    refine ⟨_, _, _, rsi, R4, .val c, rs2, hc1, fun H5 s5 w5 => ?_⟩
    have R5 := R4.stp s5 w5
    have s25 : Stp r H2 H5 := (Stp.of_same sm3).trans s5
    cases c with
    | false =>
      rw [if_neg (by decide)] at hgo
      show if false = true then _ else _
      rw [if_neg (by decide)]
      exact ⟨rfl, hlt, Ms, ks, rest, rs2, s25 _ _ rD.symm hD, fun m z => sqt_kp (hks m z) R2.ml (s25.kp R1.mr), h1, h2, un, ll, fun b o hb hr e => s25 b o hr (hsm b o hb hr e), w5, hgo, happ⟩
    | true =>
      rw [if_pos rfl] at hgo
      show if true = true then _ else _
      rw [if_pos rfl]
      obtain ⟨y, rs3, hy1, hgo⟩ := bnd_nox hgo
      rcases bnd_some hgo with ⟨rest', rs4, q1, q2⟩ | ⟨_, _, q1, q2⟩
      · cases q2
        refine ⟨_, _, _, rs2, R5, .val y, rs3, hy1, fun H6 s6 w6 v dv => ?_⟩
        have s26 : Stp r H2 H6 := s25.trans s6
        have hD6 : H6 D = some (TxO P w D Ms) := s26 _ _ rD.symm hD
        have yin : y ∈ out := by rw [← happ]; exact List.mem_append_right _ List.mem_cons_self
        obtain ⟨ws, rfl⟩ := good.2.1 y yin
        cases dv with
        | tup g1 g2 =>
          rename_i xa xs
          have g3 := da_words g2
          subst g3
          have hks6 : ∀ m ∈ ks, SqT G.K H6 m.1 (m.2.map V.str) := fun m z => sqt_kp (hks m z) R2.ml (s26.kp R1.mr)
          have lk : ks.length + (rest'.length + 1) = out.length := by rw [← happ, List.length_append, List.length_map]; rfl
          have lo := good.1
          refine ⟨xa, ws, Ms, rfl, g1, hD6, fun m z => hks6 m (h1 m z), by omega, fun Ms' n1 n2 un' => ?_⟩
          have mem' : (∀ m ∈ Ms', m ∈ ks ++ [(xa, ws)]) ∧ (∀ m ∈ ks ++ [(xa, ws)], m.2 ∈ Ms'.map (·.2)) ∧ Ms'.length ≤ (ks ++ [(xa, ws)]).length := by
            rw [List.length_append, List.length_singleton]
            rcases Classical.em (ws ∈ Ms.map (·.2)) with z | z
            · rw [n1 z]
              refine ⟨fun m y => List.mem_append_left _ (h1 m y), fun m y => ?_, by omega⟩
              rcases List.mem_append.mp y with y | y
              · exact h2 m y
              · rw [List.mem_singleton.mp y]; exact z
            · have pm := n2 z
              refine ⟨fun m y => ?_, fun m y => ?_, by rw [pm.length_eq, List.length_cons]; omega⟩
              · rcases List.mem_cons.mp (pm.mem_iff.mp y) with y | y
                · rw [y]; exact List.mem_append_right _ (List.mem_singleton.mpr rfl)
                · exact List.mem_append_left _ (h1 m y)
              · rw [(pm.map (·.2)).mem_iff, List.map_cons]
                rcases List.mem_append.mp y with y | y
                · exact List.mem_cons_of_mem _ (h2 m y)
                · rw [List.mem_singleton.mp y]; exact List.mem_cons_self
          refine ⟨rfl, hlt, Ms', ks ++ [(xa, ws)], rest', rs3, upd_same, fun m z => ?_, mem'.1, mem'.2.1, un', mem'.2.2, fun b o hb hr e => ?_, row_ne hD6 w6, q1, ?_⟩
          · rcases List.mem_append.mp z with z | z
            · exact sqt_ne hD6 (hks6 m z)
            · rw [List.mem_singleton.mp z]
              exact sqt_ne hD6 g1
          · rw [upd_ne hb]
            exact s26 b o hr (hsm b o hb hr e)
          · rw [List.map_append, List.append_assoc]
            exact happ
      · cases q2
  · have ei : i = ds.length := by omega
    subst ei
    rw [List.drop_length] at hgo
    cases hgo
    rw [List.append_nil] at happ
    refine .inl ⟨jok.stop H2 kp, ?_⟩
    refine sortTx_da (out := out') R2.ml happ.symm hks ?_ hD h1 h2 un fun v H' s d => w1 H' (s12.trans (.of_same s)) (row_same R2.row s) v d
    rw [eo']
    exact Classical.choose_spec good.2.2
theorem e_sortcomp (hk : 1 ≤ k) {elt tg iter : Expr} {ifs : List Expr} {scope : Scope} {p pos pos2 : Pos} {fi : Ev → Mn (List D)} {t : Tgt} {fc : Ev → Mn Bool} {fe : Ev → Mn D} (own : List (Str × Nat)) (hi : SI G k sc N tg iter fi) (ht : PGt G k (sc.blk scope) N tg t) (hc : SP1 G k (sc.blk scope) N ifs fc) (he : SE G k (sc.blk scope) N elt fe)
    (hm : Mg0 G "sorted") (hg : glB sc "sorted" = true := by rfl)
    (hb : blkC N sc.sc scope own = true := by decide +kernel) (hix : ∀ i ∈ t.ix, i ∈ own.map (·.2) := by decide) (hs : ∀ env x, foldedSetIterable iter env x = pure x := by intro _ _; rfl) :
    SE G k sc N (.Call (.Name "sorted" p) [.SetComp elt [⟨tg, iter, ifs, 0⟩] scope pos2] [] pos) (dSortC (own.map (·.2)) fi t fc fe) := fun X W g tk => by
  have ok : BlkOk X.N X.env.scope scope own := by
    rw [g.hN, g.hsc]
    exact blkOk_by hb
  have nd : X.N.Nodup := by rw [g.hN]; exact g.nd
  have uu := units65 g hk
  obtain ⟨u, hu1, hu2⟩ := ht
  have pe := pe_scT (X := X) (own := own) (pos := pos2) g.calm uu nd (hi X W g tk) ok (fun s H C cl fp => hu1 _ (g.blk s H scope cl C fp)) (fun s H C cl fp => hc _ W0 (g.blk s H scope cl C fp) L2.takes0) (fun s H C cl fp => he _ W0 (g.blk s H scope cl C fp) L2.takes0) (hs _)
  refine pe_imp (pe_callB (cr_sortedTx g.calm uu) (gl_of g hg) (by rw [g.hmg]; exact hm) (by decide +kernel) (pa_cons pe pa_nil) (by decide) (by decide) (by rfl) (by rfl)) fun σ H Q hh => ?_
  have z := sc_imp (P := X.prog) (w := X.w) g hu2 hix σ H Q hh
  rw [← g.hK] at z ⊢
  exact z
end
end DL
namespace ST
open PySem PySem.Spec PyProof.Rows L2 DL
def WsO (P : Program) (w : World) (a : Addr) (xs : List Str) : HO := .ext fun h => h.SetOf (PySem.strKind P w) a (fun k => decide (k ∈ sD xs)) (sD xs).length
theorem wsO_ok {P : Program} {w : World} {H : Hp} {h : Heap} {a : Addr} {xs : List Str} (B : h.SetOf (PySem.strKind P w) a (fun k => decide (k ∈ sD xs)) (sD xs).length) : ObjOk P w H h a (WsO P w a xs) := by
  obtain ⟨o, es, ep, t, e, z⟩ := id B
  refine ⟨B, ⟨o, e⟩, fun h1 h2 p k => ?_⟩
  obtain ⟨o', es', ep', t', e', z'⟩ := (show h1.SetOf (PySem.strKind P w) a (fun k => decide (k ∈ sD xs)) (sD xs).length from p)
  exact ⟨o', es', ep', t', k o' e', z'⟩
section
variable {X : Cx}
def rSetWs (K : PySem.W.Frag) (P : Program) (w : World) : List V → Hp → VK → Prop := fun vs H Q => ∃ (l : Addr) (xs : List Str), vs = [V.ref l] ∧ SqT K H l (xs.map V.str) ∧ xs.length < 1000 ∧ ∀ a, H a = none → Q (.ref a) (upd H a (WsO P w a xs))
theorem cr_setWs (hc : X.calm = true) : CallR X (.type "set") (rSetWs X.K X.prog X.w) := by
  intro pins s σ H vs us Q I r ⟨l, xs, e, hl, hf, q⟩
  subst e
  rw [Vals.ref1 r]
  obtain ⟨its, rv, pl, hz⟩ := I.tuple hl
  have hn : H s.heap.objs.size = none := I.hok.fresh (Nat.le_refl _)
  refine call_ws (P := X.prog) (w := X.w) xs (I.ok.hd hc) pl (by simpa using words_vals rv) hf fun H' tk R k => ?_
  exact ⟨.ref s.heap.objs.size, upd H s.heap.objs.size (WsO X.prog X.w s.heap.objs.size xs), I.laid (t' := tk) k (Nat.le_refl _) (wsO_ok R), rfl, q _ hn⟩
def rLenWs (P : Program) (w : World) : List V → Hp → VK → Prop := fun vs H Q => ∃ (a : Addr) (xs : List Str), vs = [V.ref a] ∧ H a = some (WsO P w a xs) ∧ xs.length < 1000 ∧ Q (.int ((sD xs).length : Nat)) H
theorem cr_lenWs : CallR X (.builtin "len") (rLenWs X.prog X.w) := by
  intro pins s σ H vs us Q I r ⟨a, xs, e, ha, hf, q⟩
  subst e
  rw [Vals.ref1 r]
  obtain ⟨o, es, ep, t, ho, hex, hd, _, _, _, hft, hn⟩ := (show s.heap.SetOf (PySem.strKind X.prog X.w) a (fun k => decide (k ∈ sD xs)) (sD xs).length from (I.hok a _ ha).1)
  have len : (sD xs).length ≤ xs.length := by
    have z := sD_le xs []
    simpa [sD] using z
  exact call_len_set ho hex hd hft (by rw [hn]; omega) ⟨.int ((sD xs).length : Nat), H, I.tok _, ⟨_, by rw [hn]⟩, q⟩
end
end ST
namespace DL
open PySem PySem.Spec PyProof.Rows L2 ST
def strsD : List D → Option (List Str)
  | [] => some []
  | .str x :: ds => (strsD ds).map (x :: ·)
  | _ :: _ => none
theorem strsD_map : ∀ ws : List Str, strsD (ws.map PyData.str) = some ws
  | [] => rfl
  | x :: ws => by
    show (strsD (ws.map PyData.str)).map (x :: ·) = _
    rw [strsD_map ws]
    rfl
theorem strsD_of : ∀ {ds : List D} {ws : List Str}, strsD ds = some ws → ds = ws.map PyData.str
  | [], _, h => by cases h; rfl
  | .str x :: ds, ws, h => by
    obtain ⟨us, e1, e2⟩ := Option.map_eq_some_iff.mp (show (strsD ds).map (x :: ·) = some ws from h)
    subst e2
    rw [strsD_of e1]
    rfl
  | .none :: _, _, h => by cases h
  | .bool _ :: _, _, h => by cases h
  | .int _ :: _, _, h => by cases h
  | .list _ :: _, _, h => by cases h
  | .tuple _ :: _, _, h => by cases h
  | .dict _ :: _, _, h => by cases h
def lenSetD : List D → Option D
  | [.tuple ds] => match strsD ds with
    | some xs => if xs.length < 1000 then some (.int ((sD xs).length : Nat)) else none
    | none => none
  | _ => none
section
variable {G : Gm} {k : Nat} {sc : Sx} {N : List Str}
theorem e_lenset {e : Expr} {f : Ev → Mn (List Slot)} {p p2 pos pos2 : Pos} (ha : SA G k sc N [e] f) (hm : Mg0 G "len") (hm2 : Mg0 G "set") (hg : glB sc "len" = true := by rfl) (hg2 : glB sc "set" = true := by rfl)
    (he : ∀ env, starEach [e] env = (false, eval e env) :: starEach [] env := by intro _; rfl) :
    SE G k sc N (.Call (.Name "len" p) [.Call (.Name "set" p2) [e] [] pos2] [] pos) (dFn lenSetD f) :=
  e_arg (rl := fun X vs H Q => rSetWs X.K X.prog X.w vs H fun v H' => rLenWs X.prog X.w [v] H' Q) ha (fun X t g h => by
    exact pe_imp (pe_callB cr_lenWs (gl_of g hg) (by rw [g.hmg]; exact hm) (by decide +kernel) (pa_cons (pe_callTy (cr_setWs g.calm) (gl_of g hg2) (by rw [g.hmg]; exact hm2) (by decide +kernel) h (by decide) (by decide) (he _) (by rfl)) pa_nil) (by decide) (by decide) (by rfl) (by rfl)) fun σ H Q hh => hh)
   (fun X M H vs ds d Q g ml h e hq => by
    unfold lenSetD at e
    split at e
    · rename_i ds'
      obtain ⟨v, rfl, h1⟩ := one_da h
      split at e
      · rename_i xs hx
        split at e
        · rename_i lt
          cases e
          have ex := strsD_of hx
          subst ex
          cases h1 with
          | tup h2 t =>
            have z := da_words t
            subst z
            exact ⟨_, xs, rfl, by rw [g.hK]; exact h2, lt, fun a hn => ⟨a, xs, rfl, upd_same, lt, hq _ _ (same_upd hn) (.int _)⟩⟩
        · cases e
      · cases e
    · cases e)
end
end DL
namespace ST
open PySem PySem.Spec PyProof.Rows L2 HT
theorem back_adj (n : Nat) : Builtin.Slice.sliceAdjust none none (-1) (n : Int) = ((n : Int) - 1, -1) := rfl
theorem back_places (n : Nat) : Builtin.Slice.slicePlaces ((n : Int) - 1) (-1) (-1) = n := by
  unfold Builtin.Slice.slicePlaces
  have h1 : ¬ ((-1 : Int) > 0) := by omega
  simp only [h1, if_false]
  split
  · have : ((n : Int) - 1 - -1 - 1) / (- -1) = (n : Int) - 1 := by
      rw [show (- -1 : Int) = 1 from rfl, Int.ediv_one]
      omega
    omega
  · omega
theorem fm_congr {α β : Type} {f g : α → Option β} : ∀ (l : List α), (∀ x ∈ l, f x = g x) → l.filterMap f = l.filterMap g
  | [], _ => rfl
  | x :: l, h => by
    rw [List.filterMap_cons, List.filterMap_cons, h x List.mem_cons_self, fm_congr l fun y z => h y (List.mem_cons_of_mem _ z)]
theorem back_pick (xs : Array Value) : ((List.range xs.size).filterMap fun (k : Nat) => xs[(((xs.size : Int) - 1) + (k : Int) * (-1)).toNat]?).toArray = xs.toList.reverse.toArray := by
  congr 1
  have e : ∀ k ∈ List.range xs.size, xs[(((xs.size : Int) - 1) + (k : Int) * (-1)).toNat]? = xs.toList.reverse[k]? := fun k hk => by
    have lt := List.mem_range.mp hk
    have e1 : (((xs.size : Int) - 1) + (k : Int) * (-1)).toNat = xs.size - 1 - k := by omega
    rw [e1, List.getElem?_reverse (by rw [Array.length_toList]; exact lt), Array.length_toList, Array.getElem?_toList]
  rw [fm_congr _ e]
  have z := pick_all (α := Value) xs.toList.reverse
  rw [List.length_reverse, Array.length_toList] at z
  exact z
section
variable {P : Program} {w : World} {Ar : Around} {Er : Value → Shared → Prop} {st : Shared}
theorem get_back {t sl : Addr} {its : Array Value} {vs : Value} {Qr : Value → Shared → Prop} (ht : IsTup st.heap t its) (hs : st.heap.IsSliceOf sl .none .none vs) (ps : IsPart vs (some (-1)))
    (q : Qr (.ref st.heap.objs.size) { st with heap := st.heap.push { cls := .type "tuple", data := .seq its.toList.reverse.toArray } }) (hz : its.size ≤ sizeLine) : wpAny (model P w) Ar (getItem (.ref t) (.ref sl)) Qr Er st := by
  obtain ⟨os, hos, hcs, hds⟩ := id hs
  have hT : st.TypeIs (.ref sl) "slice" := ⟨os, hos, hcs⟩
  have room : sizeOk (.seq its.toList.reverse.toArray) := by
    show its.toList.reverse.toArray.size ≤ sizeLine
    rw [List.size_toArray, List.length_reverse, Array.length_toList]
    exact hz
  unfold getItem
  try with_reducible refine wpAny_holding (?_)
  first | refine wpAny_bind (wpAny_pure (?_)) | skip
  refine wpAny_bind (wpAny_sequenceKey ht.typeIs (by decide) (?_))
  refine wpAny_bind (wpAny_callSpecial?_slot (name := Str.ofString "__getitem__") ht.typeIs PyProof.Rows.slot_tuple_getitem (wpAny_call_entry PyProof.Rows.slot_tuple_getitem ht.typeIs entry_tuple_getitem ?_ (args_tuple_getitem _ _)))
  show wpAny (model P w) _ (Builtin.Tuple.tupleItemsOf (.ref t) >>= _) _ _ st
  refine wpAny_bind (tupleItemsOf_ ht (wpAny_bind (wpAny_typeOf hT ?_)))
  rw [if_pos (by decide)]
  refine wpAny_bind ?_
  unfold Builtin.Slice.sliceApplied Builtin.Slice.sliceFields
  refine wpAny_bind (wpAny_bind (wpAny_field hos hds (x := .none) rfl (wpAny_bind (wpAny_field hos hds (x := .none) rfl (wpAny_bind (wpAny_field hos hds (x := vs) rfl (wpAny_pure (?_))))))))
  refine wpAny_bind (slicePart_ ps ?_)
  show wpAny (model P w) _ (if ((-1 : Int) == 0) = true then _ else _) _ _ st
  rw [if_neg (by decide)]
  refine wpAny_bind (slicePart_none (wpAny_bind (slicePart_none (wpAny_bind (wpAny_pure (?_))))))
  show wpAny (model P w) _ (match Builtin.Slice.sliceAdjust none none (-1) (its.size : Int) with | (lo, hi) => pure (lo, (-1 : Int), Builtin.Slice.slicePlaces lo hi (-1))) _ _ st
  rw [back_adj]
  show wpAny (model P w) _ (pure ((its.size : Int) - 1, (-1 : Int), Builtin.Slice.slicePlaces ((its.size : Int) - 1) (-1) (-1))) _ _ st
  rw [back_places]
  refine wpAny_pure ?_
  have no : ¬ (((its.size : Int) - 1 == 0 && (-1 : Int) == 1 && its.size == its.size) = true) := by
    intro z
    rw [Bool.and_eq_true, Bool.and_eq_true] at z
    exact absurd z.1.2 (by decide)
  show wpAny (model P w) _ (if (((its.size : Int) - 1 == 0 && (-1 : Int) == 1 && its.size == its.size) = true) then _ else _) _ _ st
  rw [if_neg no, back_pick]
  first
    | exact wpAny_bind (m := Builtin.Tuple.tupleExact _) (wpAny_newObj_type (wpAny_pure ⟨_, rfl, wpAny_pure q⟩) room)
    | exact wpAny_bind (m := Builtin.Tuple.tupleExact _) (wpAny_newObj_type (wpAny_bind (wpAny_pure (wpAny_pure ⟨_, rfl, wpAny_pure q⟩))) room)
    | exact wpAny_bind (wpAny_bind (m := Builtin.Tuple.tupleExact _) (wpAny_newObj_type (wpAny_pure (wpAny_pure ⟨_, rfl, wpAny_pure q⟩)) room))
    | exact wpAny_bind (wpAny_bind (m := Builtin.Tuple.tupleExact _) (wpAny_newObj_type (wpAny_pure ⟨_, rfl, wpAny_pure q⟩) room))
end
section
variable {X : Cx}
def tRevT (K : PySem.W.Frag) (te : TE) : TE := fun σ H Q => te σ H fun x H1 => ∃ a xs, x = .ref a ∧ SqT K H1 a xs ∧ ∀ p, H1 p = none → Q (.ref p) (upd H1 p (.tup xs.reverse))
theorem pe_revT {e : Expr} {te : TE} {k : Nat} {p1 p2 p3 pos : Pos} (he : PE X e te) : PE X (.Subscript e (.Slice none none (some (.UnaryOp .USub (.Constant (.int 1) k p1) p2)) p3) pos) (tRevT X.K te) := by
  refine ⟨fun pins s σ H Q I h => ?_⟩
  refine Subscript_ (thn (he.run pins s σ H _ I h) fun v s1 ⟨x, H1, I1, r1, a, xs, ex, hx, q⟩ => ?_)
  subst ex
  cases r1
  have one : PO X (some (.UnaryOp .USub (.Constant (.int 1) k p1) p2)) (tPart (tUn (rU fun i => .int (-i)) (tC (.int 1)))) := po_some (pe_un un_neg pe_int)
  refine wpAny_Slice (thn (po_none.run pins s1 σ H1 (fun o H2 => o = none ∧ H2 = H1) I1 ⟨rfl, rfl⟩) fun vl s2 ⟨lo, H2, I2, pl, el, e2⟩ => ?_)
  subst el e2
  refine thn (po_none.run pins s2 σ H2 (fun o H3 => o = none ∧ H3 = H2) I2 ⟨rfl, rfl⟩) fun vu s3 ⟨up, H3, I3, pu, eu, e3⟩ => ?_
  subst eu e3
  refine thn (one.run pins s3 σ H3 (fun o H4 => o = some (-1) ∧ H4 = H3) I3 ⟨1, rfl, -1, rfl, rfl, rfl⟩) fun vs s4 ⟨o, H4, I4, ps, eo, e4⟩ => ?_
  subst eo e4
  cases pl
  cases pu
  have I5 : Inv X pins σ H4 { s4 with heap := s4.heap.push { cls := .type "slice", data := .fields #[.none, .none, vs] } } := I4.kept (t' := s4.toks) fun b ob z => Heap.get?_push_of_some _ z
  obtain ⟨its, r, ht, hz⟩ := I5.tuple hx
  have len := r.length
  show wpAny (model X.prog X.w) X.A (subscriptTail e (.Slice none none (some (.UnaryOp .USub (.Constant (.int 1) k p1) p2)) p3) (.ref a) (.ref s4.heap.objs.size)) (EP X pins σ Q) X.xe { s4 with heap := s4.heap.push { cls := .type "slice", data := .fields #[.none, .none, vs] } }
  refine tail_any (ops := [.ref a, .ref s4.heap.objs.size]) ht.typeIs (PyProof.Rows.slot_tuple_getitem.lookup) ?_ (by with_unfolding_all rfl)
  refine get_back ht (Heap.IsSliceOf.new _ .none .none vs) ps ?_ (by rw [List.size_toArray]; omega)
  exact ⟨.ref _, _, I5.laid (t' := s4.toks) (o := .tup xs.reverse) (fun b ob z => Heap.get?_push_of_some _ z) (Nat.le_refl _) ⟨by rw [List.length_reverse]; exact hz, _, r.reverse, ⟨_, Heap.get?_push_size _ rfl, rfl, 0, rfl⟩⟩, rfl, q _ (I5.hok.fresh (Nat.le_refl _))⟩
end
end ST
namespace DL
open PySem PySem.Spec PyProof.Rows L2 ST
def revD : D → Option D
  | .tuple ds => some (.tuple ds.reverse)
  | _ => none
section
variable {G : Gm} {k : Nat} {sc : Sx} {N : List Str}
theorem dal_reverse {K : PySem.W.Frag} {M : Addr → Prop} {H : Hp} : ∀ {xs : List V} {ds : List D}, DaL K M H xs ds → DaL K M H xs.reverse ds.reverse
  | _, _, .nil => .nil
  | _, _, .cons h t => by
    rw [List.reverse_cons, List.reverse_cons]
    exact (dal_reverse t).append (.cons h .nil)
def dRev (f : Ev → Mn D) (ev : Ev) : Mn D := bnd (f ev) fun x => lft (revD x)
@[simp] theorem dRev_eq (f : Ev → Mn D) (ev : Ev) : dRev f ev = bnd (f ev) fun x => lft (revD x) := rfl
theorem e_rev {e : Expr} {f : Ev → Mn D} {n : Nat} {p1 p2 p3 pos : Pos} (he : SE G k sc N e f) : SE G k sc N (.Subscript e (.Slice none none (some (.UnaryOp .USub (.Constant (.int 1) n p1) p2)) p3) pos) (dRev f) :=
  e_one (rl := fun X x H Q => ∃ a xs, x = .ref a ∧ SqT X.K H a xs ∧ ∀ p, H p = none → Q (.ref p) (upd H p (.tup xs.reverse))) he (fun X t g h => pe_revT h) fun X M H x dx d Q g ml hx e hq => by
    unfold revD at e
    split at e
    · cases e
      cases hx with
      | tup h t => exact ⟨_, _, rfl, by rw [g.hK]; exact h, fun p hp => hq _ _ (same_upd hp) (Da.newT ml hp (dal_reverse t))⟩
    · cases e
end
end DL
noncomputable section
namespace K08
open PySem PySem.Spec PyProof.Rows L2 DL
abbrev topS (j : Nat) : Stmt := PySem.Challenge.pw_queryheld_k08_whole_profiles.main.body.getD j (.Pass ⟨0, 0, 0, 0⟩)
structure Tp (G : Gm) : Prop where
  b_all : Mg0 G "all"
  b_any : Mg0 G "any"
  b_bool : Mg0 G "bool"
  b_dict : Mg0 G "dict"
  b_int : Mg0 G "int"
  b_isinstance : Mg0 G "isinstance"
  b_len : Mg0 G "len"
  b_list : Mg0 G "list"
  b_range : Mg0 G "range"
  b_set : Mg0 G "set"
  b_sorted : Mg0 G "sorted"
  b_str : Mg0 G "str"
  b_tuple : Mg0 G "tuple"
  b_zip : Mg0 G "zip"
  c_WORDS : GlD G "WORDS" PW.c_WORDS
  k_HOLDS_WITH : GlK G "HOLDS_WITH" PW.k_HOLDS_WITH
  k_SIDES : GlK G "SIDES" PW.k_SIDES
  o_SIDES : GlKo G "SIDES" PW.k_SIDES
  x_BadIdentities : ExcF G "BadIdentities"
  x_BadIdentity : ExcF G "BadIdentity"
  x_BadSemantics : ExcF G "BadSemantics"
abbrev st_is_semantics : Stmt := topS 7
abbrev N_is_semantics : List Str := ["value", "part", "words"]
abbrev P_is_semantics : List Str := ["value"]
theorem sc_is_semantics : FnScope N_is_semantics P_is_semantics (defScope st_is_semantics) := ⟨rfl, rfl, rfl, by decide +kernel, rfl, by decide +kernel, by decide +kernel⟩
theorem s_is_semantics {G : Gm} {k : Nat} (B : Tp G)  (hk : 1 ≤ k) : SB G k ⟨defScope st_is_semantics, fun _ => true⟩ N_is_semantics (defBody st_is_semantics) (PW.d_is_semantics) :=
    s_cons (P_if (t_w (w_or (t_not (t_val (e_isi1 .tuple (e_var 0) PyProof.Rows.boot_tuple B.b_isinstance B.b_tuple))) (w_or1 (T_cmp c_ne (e_len (a_cons (e_var 0) (a_nil)) B.b_len) (e_len (a_cons (e_glob B.c_WORDS) (a_nil)) B.b_len))))) (s_one (P_ret (e_bl))) (s_nil))
    (s_one (P_ret (e_all (a_cons (e_lc [("part", 1), ("words", 2)] (i_zip (a_cons (e_var 0) (a_cons (e_glob B.c_WORDS) (a_nil))) B.b_zip) (g_tup [1, 2] (.cons (by rfl) (by rfl) (.cons (by rfl) (by rfl) (.nil)))) (p_nil) (E_cmp (c_in hk) (e_var 1) (e_var 2))) (a_nil)) B.b_all)))
abbrev st_all_semantics : Stmt := topS 8
abbrev N_all_semantics : List Str := ["found", "words", "start", "word"]
abbrev P_all_semantics : List Str := []
theorem sc_all_semantics : FnScope N_all_semantics P_all_semantics (defScope st_all_semantics) := ⟨rfl, rfl, rfl, by decide +kernel, rfl, by decide +kernel, by decide +kernel⟩
theorem s_all_semantics {G : Gm} {k : Nat} (B : Tp G)  : SB G k ⟨defScope st_all_semantics, fun _ => true⟩ N_all_semantics (defBody st_all_semantics) (PW.d_all_semantics) :=
    s_cons (P_set 0 (e_lst (a_cons (e_tup (a_nil)) (a_nil))))
    (s_cons (s_for false (i_seq (e_glob B.c_WORDS)) (g_name 1) (s_one (P_setLc2 0 [("start", 2), ("word", 3)] [3] (i_seq (e_var 0)) (g_name 2) (p_nil) (i_seq (e_var 1)) (g_name 3) (p_nil) (e_tup (a_star (e_var 2) (a_cons (e_var 3) (a_nil)))))))
    (s_one (P_ret (e_tuple (a_cons (e_var 0) (a_nil)) B.b_tuple))))
abbrev st_check_semantics : Stmt := topS 9
abbrev N_check_semantics : List Str := ["value"]
abbrev P_check_semantics : List Str := ["value"]
theorem sc_check_semantics : FnScope N_check_semantics P_check_semantics (defScope st_check_semantics) := ⟨rfl, rfl, rfl, by decide +kernel, rfl, by decide +kernel, by decide +kernel⟩
theorem s_check_semantics {G : Gm} {k : Nat} (B : Tp G) {j_is_semantics : Nat} {f_is_semantics : List Slot → Mn D} (F_is_semantics : FO G j_is_semantics "is_semantics" 1 f_is_semantics) (h_is_semantics : j_is_semantics ≤ k) : SB G k ⟨defScope st_check_semantics, fun _ => true⟩ N_check_semantics (defBody st_check_semantics) (PW.d_check_semantics f_is_semantics) :=
    s_one (P_if (t_not (t_val (e_call F_is_semantics (a_cons (e_var 0) (a_nil)) h_is_semantics))) (s_one (s_raise B.x_BadSemantics)) (s_nil))
abbrev st_identities : Stmt := topS 12
abbrev N_identities : List Str := []
abbrev P_identities : List Str := []
theorem sc_identities : FnScope N_identities P_identities (defScope st_identities) := ⟨rfl, rfl, rfl, by decide +kernel, rfl, by decide +kernel, by decide +kernel⟩
theorem s_identities {G : Gm} {k : Nat} (B : Tp G)  : SB G k ⟨defScope st_identities, fun _ => true⟩ N_identities (defBody st_identities) (PW.d_identities) :=
    s_one (P_ret (e_ktup B.o_SIDES B.b_tuple))
abbrev st_is_identity : Stmt := topS 13
abbrev N_is_identity : List Str := ["value"]
abbrev P_is_identity : List Str := ["value"]
theorem sc_is_identity : FnScope N_is_identity P_is_identity (defScope st_is_identity) := ⟨rfl, rfl, rfl, by decide +kernel, rfl, by decide +kernel, by decide +kernel⟩
theorem s_is_identity {G : Gm} {k : Nat} (B : Tp G)  : SB G k ⟨defScope st_is_identity, fun _ => true⟩ N_is_identity (defBody st_is_identity) (PW.d_is_identity) :=
    s_one (P_ret (e_and (e_isi1 .str (e_var 0) PyProof.Rows.boot_str B.b_isinstance B.b_str) (e_or1 (E_kin B.k_SIDES (e_var 0)))))
abbrev st_check_identity : Stmt := topS 14
abbrev N_check_identity : List Str := ["value"]
abbrev P_check_identity : List Str := ["value"]
theorem sc_check_identity : FnScope N_check_identity P_check_identity (defScope st_check_identity) := ⟨rfl, rfl, rfl, by decide +kernel, rfl, by decide +kernel, by decide +kernel⟩
theorem s_check_identity {G : Gm} {k : Nat} (B : Tp G) {j_is_identity : Nat} {f_is_identity : List Slot → Mn D} (F_is_identity : FO G j_is_identity "is_identity" 1 f_is_identity) (h_is_identity : j_is_identity ≤ k) : SB G k ⟨defScope st_check_identity, fun _ => true⟩ N_check_identity (defBody st_check_identity) (PW.d_check_identity f_is_identity) :=
    s_one (P_if (t_not (t_val (e_call F_is_identity (a_cons (e_var 0) (a_nil)) h_is_identity))) (s_one (s_raise B.x_BadIdentity)) (s_nil))
abbrev st_holds : Stmt := topS 17
abbrev N_holds : List Str := ["semantics", "identity", "words", "word"]
abbrev P_holds : List Str := ["semantics", "identity"]
theorem sc_holds : FnScope N_holds P_holds (defScope st_holds) := ⟨rfl, rfl, rfl, by decide +kernel, rfl, by decide +kernel, by decide +kernel⟩
theorem s_holds {G : Gm} {k : Nat} (B : Tp G) {j_check_semantics : Nat} {f_check_semantics : List Slot → Mn D} (F_check_semantics : FO G j_check_semantics "check_semantics" 1 f_check_semantics) (h_check_semantics : j_check_semantics ≤ k) {j_check_identity : Nat} {f_check_identity : List Slot → Mn D} (F_check_identity : FO G j_check_identity "check_identity" 1 f_check_identity) (h_check_identity : j_check_identity ≤ k) (hk : 1 ≤ k) : SB G k ⟨defScope st_holds, fun _ => true⟩ N_holds (defBody st_holds) (PW.d_holds f_check_semantics f_check_identity) :=
    s_cons (P_expr (e_call F_check_semantics (a_cons (e_var 0) (a_nil)) h_check_semantics))
    (s_cons (P_expr (e_call F_check_identity (a_cons (e_var 1) (a_nil)) h_check_identity))
    (s_one (P_ret (e_any (a_cons (e_lc [("words", 2)] (i_seq (E_kget B.k_HOLDS_WITH (e_var 1))) (g_name 2) (p_nil) (e_all (a_cons (e_lc [("word", 3)] (i_seq (e_var 2)) (g_name 3) (p_nil) (E_cmp (c_in hk) (e_var 3) (e_var 0))) (a_nil)) B.b_all)) (a_nil)) B.b_any))))
abbrev st_profile : Stmt := topS 19
abbrev N_profile : List Str := ["semantics", "identity"]
abbrev P_profile : List Str := ["semantics"]
theorem sc_profile : FnScope N_profile P_profile (defScope st_profile) := ⟨rfl, rfl, rfl, by decide +kernel, rfl, by decide +kernel, by decide +kernel⟩
theorem s_profile {G : Gm} {k : Nat} (B : Tp G) {j_check_semantics : Nat} {f_check_semantics : List Slot → Mn D} (F_check_semantics : FO G j_check_semantics "check_semantics" 1 f_check_semantics) (h_check_semantics : j_check_semantics ≤ k) {j_identities : Nat} {f_identities : List Slot → Mn D} (F_identities : FO G j_identities "identities" 0 f_identities) (h_identities : j_identities ≤ k) {j_holds : Nat} {f_holds : List Slot → Mn D} (F_holds : FO G j_holds "holds" 2 f_holds) (h_holds : j_holds ≤ k) : SB G k ⟨defScope st_profile, fun _ => true⟩ N_profile (defBody st_profile) (PW.d_profile f_check_semantics f_identities f_holds) :=
    s_cons (P_expr (e_call F_check_semantics (a_cons (e_var 0) (a_nil)) h_check_semantics))
    (s_one (P_ret (e_tuple (a_cons (e_lc [("identity", 1)] (i_seq (e_call0 F_identities h_identities)) (g_name 1) (p_one (t_val (e_call F_holds (a_cons (e_var 0) (a_cons (e_var 1) (a_nil))) h_holds))) (e_var 1)) (a_nil)) B.b_tuple)))
abbrev st_profiles : Stmt := topS 20
abbrev N_profiles : List Str := ["semantics"]
abbrev P_profiles : List Str := []
theorem sc_profiles : FnScope N_profiles P_profiles (defScope st_profiles) := ⟨rfl, rfl, rfl, by decide +kernel, rfl, by decide +kernel, by decide +kernel⟩
def d_profiles (f_all_semantics : List Slot → Mn D) (f_profile : List Slot → Mn D) : Ev → Ms :=
    pRet (dFn tupleD (dCons (dSortC [0] (dItm (dCl 0 f_all_semantics (dNil))) (.name 0) (dYes) (dCl 1 f_profile (dCons (dVar 0) (dNil)))) (dNil)))
theorem s_profiles {G : Gm} {k : Nat} (B : Tp G) {j_all_semantics : Nat} {f_all_semantics : List Slot → Mn D} (F_all_semantics : FO G j_all_semantics "all_semantics" 0 f_all_semantics) (h_all_semantics : j_all_semantics ≤ k) {j_profile : Nat} {f_profile : List Slot → Mn D} (F_profile : FO G j_profile "profile" 1 f_profile) (h_profile : j_profile ≤ k) (hk : 1 ≤ k) : SB G k ⟨defScope st_profiles, fun _ => true⟩ N_profiles (defBody st_profiles) (d_profiles f_all_semantics f_profile) :=
    s_one (P_ret (e_tuple (a_cons (e_sortcomp hk [("semantics", 0)] (i_seq (e_call0 F_all_semantics h_all_semantics)) (g_name 0) (p_nil) (e_call F_profile (a_cons (e_var 0) (a_nil)) h_profile) B.b_sorted) (a_nil)) B.b_tuple))
abbrev st_implies : Stmt := topS 21
abbrev N_implies : List Str := ["one", "other"]
abbrev P_implies : List Str := ["one", "other"]
theorem sc_implies : FnScope N_implies P_implies (defScope st_implies) := ⟨rfl, rfl, rfl, by decide +kernel, rfl, by decide +kernel, by decide +kernel⟩
theorem s_implies {G : Gm} {k : Nat} {j_parting : Nat} {f_parting : List Slot → Mn D} (F_parting : FO G j_parting "parting" 2 f_parting) (h_parting : j_parting ≤ k) : SB G k ⟨defScope st_implies, fun _ => true⟩ N_implies (defBody st_implies) (PW.d_implies f_parting) :=
    s_one (P_ret (E_cmp c_is (e_call F_parting (a_cons (e_var 0) (a_cons (e_var 1) (a_nil))) h_parting) (e_non)))
abbrev st_parting : Stmt := topS 22
abbrev N_parting : List Str := ["one", "other", "semantics"]
abbrev P_parting : List Str := ["one", "other"]
theorem sc_parting : FnScope N_parting P_parting (defScope st_parting) := ⟨rfl, rfl, rfl, by decide +kernel, rfl, by decide +kernel, by decide +kernel⟩
theorem s_parting {G : Gm} {k : Nat} {j_check_identity : Nat} {f_check_identity : List Slot → Mn D} (F_check_identity : FO G j_check_identity "check_identity" 1 f_check_identity) (h_check_identity : j_check_identity ≤ k) {j_all_semantics : Nat} {f_all_semantics : List Slot → Mn D} (F_all_semantics : FO G j_all_semantics "all_semantics" 0 f_all_semantics) (h_all_semantics : j_all_semantics ≤ k) {j_holds : Nat} {f_holds : List Slot → Mn D} (F_holds : FO G j_holds "holds" 2 f_holds) (h_holds : j_holds ≤ k) : SB G k ⟨defScope st_parting, fun _ => true⟩ N_parting (defBody st_parting) (PW.d_parting f_check_identity f_all_semantics f_holds) :=
    s_cons (P_expr (e_call F_check_identity (a_cons (e_var 0) (a_nil)) h_check_identity))
    (s_cons (P_expr (e_call F_check_identity (a_cons (e_var 1) (a_nil)) h_check_identity))
    (s_cons (s_for false (i_seq (e_call0 F_all_semantics h_all_semantics)) (g_name 2) (s_one (P_if (t_w (w_and (t_val (e_call F_holds (a_cons (e_var 2) (a_cons (e_var 0) (a_nil))) h_holds)) (w_and1 (t_not (t_val (e_call F_holds (a_cons (e_var 2) (a_cons (e_var 1) (a_nil))) h_holds)))))) (s_one (P_ret (e_var 2))) (s_nil))))
    (s_one (P_ret (e_non)))))
abbrev st_semantics_with : Stmt := topS 23
abbrev N_semantics_with : List Str := ["wanted", "semantics", "identity"]
abbrev P_semantics_with : List Str := ["wanted"]
theorem sc_semantics_with : FnScope N_semantics_with P_semantics_with (defScope st_semantics_with) := ⟨rfl, rfl, rfl, by decide +kernel, rfl, by decide +kernel, by decide +kernel⟩
theorem s_semantics_with {G : Gm} {k : Nat} (B : Tp G) {j__are_identities : Nat} {f__are_identities : List Slot → Mn D} (F__are_identities : FO G j__are_identities "_are_identities" 1 f__are_identities) (h__are_identities : j__are_identities ≤ k) {j_all_semantics : Nat} {f_all_semantics : List Slot → Mn D} (F_all_semantics : FO G j_all_semantics "all_semantics" 0 f_all_semantics) (h_all_semantics : j_all_semantics ≤ k) {j_holds : Nat} {f_holds : List Slot → Mn D} (F_holds : FO G j_holds "holds" 2 f_holds) (h_holds : j_holds ≤ k) : SB G k ⟨defScope st_semantics_with, fun _ => true⟩ N_semantics_with (defBody st_semantics_with) (PW.d_semantics_with f__are_identities f_all_semantics f_holds) :=
    s_cons (P_if (t_not (t_val (e_call F__are_identities (a_cons (e_var 0) (a_nil)) h__are_identities))) (s_one (s_raise B.x_BadIdentities)) (s_nil))
    (s_one (P_ret (e_tuple (a_cons (e_lc [("semantics", 1)] (i_seq (e_call0 F_all_semantics h_all_semantics)) (g_name 1) (p_one (t_val (e_all (a_cons (e_lc [("identity", 2)] (i_seq (e_var 0)) (g_name 2) (p_nil) (e_call F_holds (a_cons (e_var 1) (a_cons (e_var 2) (a_nil))) h_holds)) (a_nil)) B.b_all))) (e_var 1)) (a_nil)) B.b_tuple)))
abbrev st__are_identities : Stmt := topS 24
abbrev N__are_identities : List Str := ["value", "part"]
abbrev P__are_identities : List Str := ["value"]
theorem sc__are_identities : FnScope N__are_identities P__are_identities (defScope st__are_identities) := ⟨rfl, rfl, rfl, by decide +kernel, rfl, by decide +kernel, by decide +kernel⟩
def d__are_identities (f_is_identity : List Slot → Mn D) : Ev → Ms :=
    seqM (pIf (dOr (dNot (dTru (dIsi [.tuple] (dVar 0)))) (dNot (dTru (dFn allD (dCons (dComp [1] (dItm (dVar 0)) (.name 1) (dYes) (dCl 1 f_is_identity (dCons (dVar 1) (dNil)))) (dNil)))))) (pRet (dLit (.bool false))) (sNil))
    (pRet (dCmpE eqD (dFn lenSetD (dCons (dVar 0) (dNil))) (dFn lenD (dCons (dVar 0) (dNil)))))
theorem s__are_identities {G : Gm} {k : Nat} (B : Tp G) {j_is_identity : Nat} {f_is_identity : List Slot → Mn D} (F_is_identity : FO G j_is_identity "is_identity" 1 f_is_identity) (h_is_identity : j_is_identity ≤ k) : SB G k ⟨defScope st__are_identities, fun _ => true⟩ N__are_identities (defBody st__are_identities) (d__are_identities f_is_identity) :=
    s_cons (P_if (t_w (w_or (t_not (t_val (e_isi1 .tuple (e_var 0) PyProof.Rows.boot_tuple B.b_isinstance B.b_tuple))) (w_or1 (t_not (t_val (e_all (a_cons (e_lc [("part", 1)] (i_seq (e_var 0)) (g_name 1) (p_nil) (e_call F_is_identity (a_cons (e_var 1) (a_nil)) h_is_identity)) (a_nil)) B.b_all)))))) (s_one (P_ret (e_bl))) (s_nil))
    (s_one (P_ret (E_cmp c_eq (e_lenset (a_cons (e_var 0) (a_nil)) B.b_len B.b_set) (e_len (a_cons (e_var 0) (a_nil)) B.b_len))))
abbrev st__law_taken : Stmt := topS 26
abbrev N__law_taken : List Str := ["row", "many", "cell", "found"]
abbrev P__law_taken : List Str := ["row", "many"]
theorem sc__law_taken : FnScope N__law_taken P__law_taken (defScope st__law_taken) := ⟨rfl, rfl, rfl, by decide +kernel, rfl, by decide +kernel, by decide +kernel⟩
abbrev st__law_pick : Stmt := topS 27
abbrev N__law_pick : List Str := ["row", "kinds"]
abbrev P__law_pick : List Str := ["row", "kinds"]
theorem sc__law_pick : FnScope N__law_pick P__law_pick (defScope st__law_pick) := ⟨rfl, rfl, rfl, by decide +kernel, rfl, by decide +kernel, by decide +kernel⟩
theorem s__law_pick {G : Gm} {k : Nat} (B : Tp G) {j__law_taken : Nat} {f__law_taken : List Slot → Mn D} (F__law_taken : FO G j__law_taken "_law_taken" 2 f__law_taken) (h__law_taken : j__law_taken ≤ k) : SB G k ⟨defScope st__law_pick, fun _ => true⟩ N__law_pick (defBody st__law_pick) (LW.d__law_pick f__law_taken) :=
    s_one (P_ret (E_ix (e_var 1) (e_call F__law_taken (a_row 0 (a_cons (e_len (a_cons (e_var 1) (a_nil)) B.b_len) (a_nil))) h__law_taken)))
abbrev st__law_alike : Stmt := topS 28
abbrev N__law_alike : List Str := ["found", "due", "k"]
abbrev P__law_alike : List Str := ["found", "due"]
theorem sc__law_alike : FnScope N__law_alike P__law_alike (defScope st__law_alike) := ⟨rfl, rfl, rfl, by decide +kernel, rfl, by decide +kernel, by decide +kernel⟩
theorem s__law_alike {G : Gm} {k : Nat} (B : Tp G) {j__law_alike : Nat} {f__law_alike : List Slot → Mn D} (F__law_alike : FO G j__law_alike "_law_alike" 2 f__law_alike) (h__law_alike : j__law_alike ≤ k) : SB G k ⟨defScope st__law_alike, fun _ => true⟩ N__law_alike (defBody st__law_alike) (LW.d__law_alike f__law_alike) :=
    s_cons (P_if (t_val (e_isi2 .tuple .list (e_var 1) PyProof.Rows.boot_tuple PyProof.Rows.boot_list B.b_isinstance B.b_tuple B.b_list)) (s_cons (P_if (t_w (w_or (t_not (t_val (e_isi2 .tuple .list (e_var 0) PyProof.Rows.boot_tuple PyProof.Rows.boot_list B.b_isinstance B.b_tuple B.b_list))) (w_or1 (T_cmp c_ne (e_isi1 .list (e_var 0) PyProof.Rows.boot_list B.b_isinstance B.b_list) (e_isi1 .list (e_var 1) PyProof.Rows.boot_list B.b_isinstance B.b_list))))) (s_one (P_ret (e_bl))) (s_nil))
    (s_cons (P_if (T_cmp c_ne (e_len (a_cons (e_var 0) (a_nil)) B.b_len) (e_len (a_cons (e_var 1) (a_nil)) B.b_len)) (s_one (P_ret (e_bl))) (s_nil))
    (s_one (P_ret (E_cmp c_eq (e_lc [("k", 2)] (i_range1 (a_cons (e_len (a_cons (e_var 1) (a_nil)) B.b_len) (a_nil)) B.b_range) (g_name 2) (p_one (t_not (t_val (e_call F__law_alike (a_cons (E_ix (e_var 0) (e_var 2)) (a_cons (E_ix (e_var 1) (e_var 2)) (a_nil))) h__law_alike)))) (e_var 2)) (e_lst (a_nil))))))) (s_nil))
    (s_cons (P_if (t_w (w_or (T_cmp c_is (e_var 1) (e_non)) (w_or1 (t_val (e_isi1 .str (e_var 1) PyProof.Rows.boot_str B.b_isinstance B.b_str))))) (s_one (P_ret (e_and (E_cmp c_eq (e_var 0) (e_var 1)) (e_or1 (E_cmp c_eq (e_isi1 .str (e_var 0) PyProof.Rows.boot_str B.b_isinstance B.b_str) (e_isi1 .str (e_var 1) PyProof.Rows.boot_str B.b_isinstance B.b_str)))))) (s_nil))
    (s_one (P_ret (e_and (e_isi1 .int (e_var 0) PyProof.Rows.boot_int B.b_isinstance B.b_int) (e_and (E_cmp c_eq (e_isi1 .bool (e_var 0) PyProof.Rows.boot_bool B.b_isinstance B.b_bool) (e_isi1 .bool (e_var 1) PyProof.Rows.boot_bool B.b_isinstance B.b_bool)) (e_or1 (E_cmp c_eq (e_var 0) (e_var 1))))))))
abbrev st__law_semantics : Stmt := topS 29
abbrev N__law_semantics : List Str := ["row", "first", "second", "third", "fourth"]
abbrev P__law_semantics : List Str := ["row"]
theorem sc__law_semantics : FnScope N__law_semantics P__law_semantics (defScope st__law_semantics) := ⟨rfl, rfl, rfl, by decide +kernel, rfl, by decide +kernel, by decide +kernel⟩
theorem s__law_semantics {G : Gm} {k : Nat} {j__law_pick : Nat} {f__law_pick : List Slot → Mn D} (F__law_pick : FO G j__law_pick "_law_pick" 2 f__law_pick) (h__law_pick : j__law_pick ≤ k) : SB G k ⟨defScope st__law_semantics, fun _ => true⟩ N__law_semantics (defBody st__law_semantics) (LW.d__law_semantics f__law_pick) :=
    s_cons (P_par 1 2 (a_cons (e_call F__law_pick (a_row 0 (a_cons (e_lst (a_cons (e_str) (a_cons (e_str) (a_cons (e_str) (a_nil))))) (a_nil))) h__law_pick) (a_cons (e_call F__law_pick (a_row 0 (a_cons (e_lst (a_cons (e_str) (a_cons (e_str) (a_nil)))) (a_nil))) h__law_pick) (a_nil))))
    (s_cons (P_par 3 4 (a_cons (e_call F__law_pick (a_row 0 (a_cons (e_lst (a_cons (e_str) (a_cons (e_str) (a_nil)))) (a_nil))) h__law_pick) (a_cons (e_call F__law_pick (a_row 0 (a_cons (e_lst (a_cons (e_str) (a_cons (e_str) (a_cons (e_str) (a_cons (e_str) (a_nil)))))) (a_nil))) h__law_pick) (a_nil))))
    (s_one (P_ret (e_tup (a_cons (e_var 1) (a_cons (e_var 2) (a_cons (e_var 3) (a_cons (e_var 4) (a_cons (e_call F__law_pick (a_row 0 (a_cons (e_lst (a_cons (e_str) (a_cons (e_str) (a_nil)))) (a_nil))) h__law_pick) (a_nil))))))))))
abbrev st__law_names : Stmt := topS 30
abbrev N__law_names : List Str := ["some"]
abbrev P__law_names : List Str := []
theorem sc__law_names : FnScope N__law_names P__law_names (defScope st__law_names) := ⟨rfl, rfl, rfl, by decide +kernel, rfl, by decide +kernel, by decide +kernel⟩
theorem s__law_names {G : Gm} {k : Nat}  : SB G k ⟨defScope st__law_names, fun _ => true⟩ N__law_names (defBody st__law_names) (LW.d__law_names) :=
    s_cons (P_set 0 (e_lst (a_cons (e_str) (a_cons (e_str) (a_cons (e_str) (a_cons (e_str) (a_cons (e_str) (a_nil))))))))
    (s_cons (P_set 0 (E_add (e_var 0) (e_lst (a_cons (e_str) (a_cons (e_str) (a_cons (e_str) (a_cons (e_str) (a_cons (e_str) (a_nil)))))))))
    (s_cons (P_set 0 (E_add (e_var 0) (e_lst (a_cons (e_str) (a_cons (e_str) (a_cons (e_str) (a_cons (e_str) (a_cons (e_str) (a_nil)))))))))
    (s_cons (P_set 0 (E_add (e_var 0) (e_lst (a_cons (e_str) (a_cons (e_str) (a_cons (e_str) (a_cons (e_str) (a_cons (e_str) (a_cons (e_str) (a_nil))))))))))
    (s_one (P_ret (E_add (e_var 0) (e_lst (a_cons (e_str) (a_cons (e_str) (a_cons (e_str) (a_cons (e_str) (a_cons (e_str) (a_nil)))))))))))))
abbrev st__law_holds : Stmt := topS 31
abbrev N__law_holds : List Str := ["way", "name", "plain", "top", "kind", "known", "found", "each"]
abbrev P__law_holds : List Str := ["way", "name"]
theorem sc__law_holds : FnScope N__law_holds P__law_holds (defScope st__law_holds) := ⟨rfl, rfl, rfl, by decide +kernel, rfl, by decide +kernel, by decide +kernel⟩
theorem s__law_holds {G : Gm} {k : Nat} (B : Tp G) {j__law_names : Nat} {f__law_names : List Slot → Mn D} (F__law_names : FO G j__law_names "_law_names" 0 f__law_names) (h__law_names : j__law_names ≤ k) (hk : 1 ≤ k) : SB G k ⟨defScope st__law_holds, fun _ => true⟩ N__law_holds (defBody st__law_holds) (LX.d__law_holds f__law_names) :=
    s_cons (s_tgt (e_tup (a_cons (E_cmp c_eq (E_ix (e_var 0) (e_int)) (e_str)) (a_cons (E_cmp c_eq (E_ix (e_var 0) (e_int)) (e_str)) (a_cons (E_cmp c_eq (E_ix (e_var 0) (e_int)) (e_str)) (a_cons (E_cmp c_ne (E_ix (e_var 0) (e_int)) (e_str)) (a_nil)))))) (g_tup [2, 3, 4, 5] (.cons (by rfl) (by rfl) (.cons (by rfl) (by rfl) (.cons (by rfl) (by rfl) (.cons (by rfl) (by rfl) (.nil)))))))
    (s_cons (s_ownD 6 (e_lc [("each", 7)] (i_seq (e_call0 F__law_names h__law_names)) (g_name 7) (p_nil) (e_tup (a_cons (e_var 7) (a_cons (e_bl) (a_nil))))) B.b_dict)
    (s_cons (s_for false (i_seq (e_lst (a_cons (e_str) (a_cons (e_str) (a_cons (e_str) (a_cons (e_str) (a_cons (e_str) (a_cons (e_str) (a_nil))))))))) (g_name 7) (s_one (s_put hk 6 (e_var 7) (e_or (e_var 2) (e_or1 (e_var 3))))))
    (s_cons (s_for false (i_seq (e_lst (a_cons (e_str) (a_cons (e_str) (a_cons (e_str) (a_cons (e_str) (a_nil))))))) (g_name 7) (s_one (s_put hk 6 (e_var 7) (e_var 5))))
    (s_cons (s_puts hk 6 2 (.cons (e_str) (.cons (e_str) (.nil))) (a_cons (e_or (e_var 2) (e_or1 (e_not (e_var 4)))) (a_cons (e_or (e_var 2) (e_or1 (e_var 4))) (a_nil))))
    (s_cons (s_puts hk 6 2 (.cons (e_str) (.cons (e_str) (.nil))) (a_cons (e_or (e_var 2) (e_or (e_var 4) (e_or1 (e_not (e_var 3))))) (a_cons (e_or (e_var 2) (e_or (e_var 4) (e_or1 (e_var 3)))) (a_nil))))
    (s_cons (s_puts hk 6 2 (.cons (e_str) (.cons (e_str) (.nil))) (a_cons (e_and (e_not (e_var 2)) (e_and (e_not (e_var 3)) (e_or1 (e_not (e_var 4))))) (a_cons (e_and (e_not (e_var 2)) (e_or1 (e_not (e_var 3)))) (a_nil))))
    (s_cons (s_puts hk 6 2 (.cons (e_str) (.cons (e_str) (.nil))) (a_cons (e_or (e_var 2) (e_or1 (e_not (e_var 3)))) (a_cons (e_bl) (a_nil))))
    (s_cons (s_put hk 6 (e_str) (e_var 2))
    (s_cons (s_puts hk 6 2 (.cons (e_str) (.cons (e_str) (.nil))) (a_cons (e_and (e_not (e_var 2)) (e_and (e_not (e_var 3)) (e_or1 (E_cmp c_eq (E_ix (e_var 0) (e_int)) (e_str))))) (a_cons (e_and (E_cmp c_eq (E_ix (e_var 0) (e_int)) (e_str)) (e_or1 (e_var 5))) (a_nil))))
    (s_one (s_ret (e_gix hk (e_var 6) (e_var 1)))))))))))))
abbrev st__law_every : Stmt := topS 32
abbrev N__law_every : List Str := ["found", "words", "longer", "one", "word"]
abbrev P__law_every : List Str := []
theorem sc__law_every : FnScope N__law_every P__law_every (defScope st__law_every) := ⟨rfl, rfl, rfl, by decide +kernel, rfl, by decide +kernel, by decide +kernel⟩
theorem s__law_every {G : Gm} {k : Nat}  : SB G k ⟨defScope st__law_every, fun _ => true⟩ N__law_every (defBody st__law_every) (LW.d__law_every) :=
    s_cons (P_set 0 (e_lst (a_cons (e_tup (a_nil)) (a_nil))))
    (s_cons (s_for false (i_seq (e_lst (a_cons (e_lst (a_cons (e_str) (a_cons (e_str) (a_nil)))) (a_cons (e_lst (a_cons (e_str) (a_cons (e_str) (a_nil)))) (a_cons (e_lst (a_cons (e_str) (a_cons (e_str) (a_nil)))) (a_cons (e_lst (a_cons (e_str) (a_cons (e_str) (a_cons (e_str) (a_nil))))) (a_cons (e_lst (a_cons (e_str) (a_cons (e_str) (a_nil)))) (a_nil)))))))) (g_name 1) (s_cons (P_set 2 (e_lst (a_nil)))
    (s_cons (s_for false (i_seq (e_var 0)) (g_name 3) (s_one (P_set 2 (E_add (e_var 2) (e_lc [("word", 4)] (i_seq (e_var 1)) (g_name 4) (p_nil) (E_add (e_var 3) (e_tup (a_cons (e_var 4) (a_nil)))))))))
    (s_one (P_set 0 (e_var 2))))))
    (s_one (P_ret (e_var 0))))
abbrev st__law_profile : Stmt := topS 33
abbrev N__law_profile : List Str := ["way", "name"]
abbrev P__law_profile : List Str := ["way"]
theorem sc__law_profile : FnScope N__law_profile P__law_profile (defScope st__law_profile) := ⟨rfl, rfl, rfl, by decide +kernel, rfl, by decide +kernel, by decide +kernel⟩
theorem s__law_profile {G : Gm} {k : Nat} (B : Tp G) {j__law_names : Nat} {f__law_names : List Slot → Mn D} (F__law_names : FO G j__law_names "_law_names" 0 f__law_names) (h__law_names : j__law_names ≤ k) {j__law_holds : Nat} {f__law_holds : List Slot → Mn D} (F__law_holds : FO G j__law_holds "_law_holds" 2 f__law_holds) (h__law_holds : j__law_holds ≤ k) : SB G k ⟨defScope st__law_profile, fun _ => true⟩ N__law_profile (defBody st__law_profile) (LW.d__law_profile f__law_names f__law_holds) :=
    s_one (P_ret (e_tuple (a_cons (e_lc [("name", 1)] (i_seq (e_call0 F__law_names h__law_names)) (g_name 1) (p_one (t_val (e_call F__law_holds (a_cons (e_var 0) (a_cons (e_var 1) (a_nil))) h__law_holds))) (e_var 1)) (a_nil)) B.b_tuple))
abbrev st__law_bad : Stmt := topS 34
abbrev P__law_bad : List Str := ["work"]
abbrev st_law : Stmt := topS 35
abbrev N_law : List Str := ["script", "row", "way", "every", "turn", "one", "other", "due", "wanted", "good", "each", "name"]
abbrev P_law : List Str := ["script"]
theorem sc_law : FnScope N_law P_law (defScope st_law) := ⟨rfl, rfl, rfl, by decide +kernel, rfl, by decide +kernel, by decide +kernel⟩
end K08
noncomputable section
namespace K08
open PySem PySem.Spec PyProof.Rows L2 DL LW PW
abbrev lawAt (j : Nat) : Stmt := (defBody st_law).getD j (.Pass ⟨0, 0, 0, 0⟩)
def lamBody : Stmt → Expr
  | .Return (some (.Call _ [.Lambda _ b _ _] _ _)) _ => b
  | _ => .Constant .none 0 ⟨0, 0, 0, 0⟩
def lamScope : Stmt → Scope
  | .Return (some (.Call _ [.Lambda _ _ s _] _ _)) _ => s
  | _ => defScope st_law
abbrev sxL : Sx := ⟨defScope st_law, fun _ => true⟩
def turnB (f__law_alike f__law_pick f__law_names f__law_holds f_parting f_implies f__law_taken f_semantics_with : LW.Fs) : Ev → Ms :=
    seqM (pTgt (.tup [5, 6]) (dTup (dCons (dCl 2 f__law_pick (dRow 1 (dCons (dCl 0 f__law_names (dNil)) (dNil)))) (dCons (dCl 2 f__law_pick (dRow 1 (dCons (dCl 0 f__law_names (dNil)) (dNil)))) (dNil)))))
    (seqM (pSet 7 (dComp [10] (dItm (dVar 3)) (.name 10) (dAnd (dTru (dCl 2 f__law_holds (dCons (dVar 10) (dCons (dVar 5) (dNil))))) (dNot (dTru (dCl 2 f__law_holds (dCons (dVar 10) (dCons (dVar 6) (dNil))))))) (dVar 10)))
    (seqM (pIf (dOr (dNot (dTru (dCl 2 f__law_alike (dCons (dCl 2 f_implies (dCons (dVar 5) (dCons (dVar 6) (dNil)))) (dCons (dCmpE eqD (dVar 7) (dLst (dNil))) (dNil)))))) (dNot (dTru (dCl 2 f__law_alike (dCons (dCl 2 f_parting (dCons (dVar 5) (dCons (dVar 6) (dNil)))) (dCons (dIf (dCmp neD (dVar 7) (dLst (dNil))) (dBin ixD (dVar 7) (dLit (.int 0))) (dLit .none)) (dNil))))))) (pRet (dLit (.bool false))) (sNil))
    (seqM (pSet 8 (dFn tupleD (dCons (dComp [11] (dItm (dCl 0 f__law_names (dNil))) (.name 11) (dCmp eqD (dCl 2 f__law_taken (dRow 1 (dCons (dLit (.int 6)) (dNil)))) (dLit (.int 0))) (dVar 11)) (dNil))))
    (seqM (pSet 8 (dIf (dCmp eqD (dCl 2 f__law_taken (dRow 1 (dCons (dLit (.int 2)) (dNil)))) (dLit (.int 0))) (dRev (dVar 8)) (dVar 8)))
    (seqM (pSet 9 (dComp [10] (dItm (dVar 3)) (.name 10) (dCmp eqD (dComp [11] (dItm (dVar 8)) (.name 11) (dNot (dTru (dCl 2 f__law_holds (dCons (dVar 10) (dCons (dVar 11) (dNil)))))) (dVar 11)) (dLst (dNil))) (dVar 10)))
    (pIf (dNot (dTru (dCl 2 f__law_alike (dCons (dCl 1 f_semantics_with (dCons (dVar 8) (dNil))) (dCons (dFn tupleD (dCons (dVar 9) (dNil))) (dNil)))))) (pRet (dLit (.bool false))) (sNil)))))))
def dS1 (f__law_every f__law_semantics : LW.Fs) : Ev → Ms :=
    pPar 2 3 (dCons (dCl 1 f__law_semantics (dRow 1 (dNil))) (dCons (dCl 0 f__law_every (dNil)) (dNil)))
def dS2 (f__law_alike f__law_profile f_profile f_all_semantics : LW.Fs) : Ev → Ms :=
    pIf (dOr (dNot (dTru (dCl 2 f__law_alike (dCons (dCl 0 f_all_semantics (dNil)) (dCons (dFn tupleD (dCons (dVar 3) (dNil))) (dNil)))))) (dNot (dTru (dCl 2 f__law_alike (dCons (dCl 1 f_profile (dCons (dVar 2) (dNil))) (dCons (dCl 1 f__law_profile (dCons (dVar 2) (dNil))) (dNil))))))) (pRet (dLit (.bool false))) (sNil)
def dS4 (f__law_alike f__law_profile f_profiles : LW.Fs) : Ev → Ms :=
    pIf (dNot (dTru (dCl 2 f__law_alike (dCons (dCl 0 f_profiles (dNil)) (dCons (dFn tupleD (dCons (dFn oneSort (dCons (dComp [10] (dItm (dVar 3)) (.name 10) (dYes) (dCl 1 f__law_profile (dCons (dVar 10) (dNil)))) (dNil))) (dNil))) (dNil)))))) (pRet (dLit (.bool false))) (sNil)
def dS3 (f__law_alike f__law_pick f__law_names f__law_holds f_parting f_implies f__law_taken f_semantics_with : LW.Fs) : Ev → Ms :=
    sFor false (dRng rng1 (dCons (dLit (.int 3)) (dNil))) (.name 4) (turnB f__law_alike f__law_pick f__law_names f__law_holds f_parting f_implies f__law_taken f_semantics_with)
def dLam (f__law_pick f_semantics_with : LW.Fs) : Ev → Mn D :=
    dCl 1 f_semantics_with (dCons (dCl 2 f__law_pick (dRow 1 (dCons (dLst (dCons (dLit .none) (dCons (dFn listD (dCons (dVar 8) (dNil))) (dCons (dTup (dCons (dLit (.str "not in")) (dCons (dLit (.str "not in")) (dNil)))) (dCons (dTup (dCons (dLit (.str "Not in")) (dNil))) (dCons (dLit (.str "not in")) (dCons (dTup (dCons (dLit .none) (dNil))) (dNil)))))))) (dNil)))) (dNil))
theorem s_1 {G : Gm} {k : Nat} (B : Tp G) (hk : 1 ≤ k) {j__law_every : Nat} {f__law_every : LW.Fs} (F__law_every : FO G j__law_every "_law_every" 0 f__law_every) (h__law_every : j__law_every ≤ k) {j__law_semantics : Nat} {f__law_semantics : LW.Fs} (F__law_semantics : FO G j__law_semantics "_law_semantics" 1 f__law_semantics) (h__law_semantics : j__law_semantics ≤ k) : SS G k sxL N_law (lawAt 1) (dS1 f__law_every f__law_semantics) :=
    P_par 2 3 (a_cons (e_call F__law_semantics (a_row 1 (a_nil)) h__law_semantics) (a_cons (e_call0 F__law_every h__law_every) (a_nil)))
theorem s_2 {G : Gm} {k : Nat} (B : Tp G) (hk : 1 ≤ k) {j__law_alike : Nat} {f__law_alike : LW.Fs} (F__law_alike : FO G j__law_alike "_law_alike" 2 f__law_alike) (h__law_alike : j__law_alike ≤ k) {j__law_profile : Nat} {f__law_profile : LW.Fs} (F__law_profile : FO G j__law_profile "_law_profile" 1 f__law_profile) (h__law_profile : j__law_profile ≤ k) {j_profile : Nat} {f_profile : LW.Fs} (F_profile : FO G j_profile "profile" 1 f_profile) (h_profile : j_profile ≤ k) {j_all_semantics : Nat} {f_all_semantics : LW.Fs} (F_all_semantics : FO G j_all_semantics "all_semantics" 0 f_all_semantics) (h_all_semantics : j_all_semantics ≤ k) : SS G k sxL N_law (lawAt 2) (dS2 f__law_alike f__law_profile f_profile f_all_semantics) :=
    P_if (t_w (w_or (t_not (t_val (e_call F__law_alike (a_cons (e_call0 F_all_semantics h_all_semantics) (a_cons (e_tuple (a_cons (e_var 3) (a_nil)) B.b_tuple) (a_nil))) h__law_alike))) (w_or1 (t_not (t_val (e_call F__law_alike (a_cons (e_call F_profile (a_cons (e_var 2) (a_nil)) h_profile) (a_cons (e_call F__law_profile (a_cons (e_var 2) (a_nil)) h__law_profile) (a_nil))) h__law_alike)))))) (s_one (P_ret (e_bl))) (s_nil)
theorem s_3 {G : Gm} {k : Nat} (B : Tp G) (hk : 1 ≤ k) {j__law_alike : Nat} {f__law_alike : LW.Fs} (F__law_alike : FO G j__law_alike "_law_alike" 2 f__law_alike) (h__law_alike : j__law_alike ≤ k) {j__law_pick : Nat} {f__law_pick : LW.Fs} (F__law_pick : FO G j__law_pick "_law_pick" 2 f__law_pick) (h__law_pick : j__law_pick ≤ k) {j__law_names : Nat} {f__law_names : LW.Fs} (F__law_names : FO G j__law_names "_law_names" 0 f__law_names) (h__law_names : j__law_names ≤ k) {j__law_holds : Nat} {f__law_holds : LW.Fs} (F__law_holds : FO G j__law_holds "_law_holds" 2 f__law_holds) (h__law_holds : j__law_holds ≤ k) {j_parting : Nat} {f_parting : LW.Fs} (F_parting : FO G j_parting "parting" 2 f_parting) (h_parting : j_parting ≤ k) {j_implies : Nat} {f_implies : LW.Fs} (F_implies : FO G j_implies "implies" 2 f_implies) (h_implies : j_implies ≤ k) {j__law_taken : Nat} {f__law_taken : LW.Fs} (F__law_taken : FO G j__law_taken "_law_taken" 2 f__law_taken) (h__law_taken : j__law_taken ≤ k) {j_semantics_with : Nat} {f_semantics_with : LW.Fs} (F_semantics_with : FO G j_semantics_with "semantics_with" 1 f_semantics_with) (h_semantics_with : j_semantics_with ≤ k) : SS G k sxL N_law (lawAt 3) (dS3 f__law_alike f__law_pick f__law_names f__law_holds f_parting f_implies f__law_taken f_semantics_with) :=
    s_for false (i_range1 (a_cons (e_int) (a_nil)) B.b_range) (g_name 4) (s_cons (P_tgt (e_tup (a_cons (e_call F__law_pick (a_row 1 (a_cons (e_call0 F__law_names h__law_names) (a_nil))) h__law_pick) (a_cons (e_call F__law_pick (a_row 1 (a_cons (e_call0 F__law_names h__law_names) (a_nil))) h__law_pick) (a_nil)))) (g_tup [5, 6] (.cons (by rfl) (by rfl) (.cons (by rfl) (by rfl) (.nil)))))
    (s_cons (P_setLc 7 [("each", 10)] (i_seq (e_var 3)) (g_name 10) (p_one (t_w (w_and (t_val (e_call F__law_holds (a_cons (e_var 10) (a_cons (e_var 5) (a_nil))) h__law_holds)) (w_and1 (t_not (t_val (e_call F__law_holds (a_cons (e_var 10) (a_cons (e_var 6) (a_nil))) h__law_holds))))))) (e_var 10))
    (s_cons (P_if (t_w (w_or (t_not (t_val (e_call F__law_alike (a_cons (e_call F_implies (a_cons (e_var 5) (a_cons (e_var 6) (a_nil))) h_implies) (a_cons (E_cmp c_eq (e_var 7) (e_lst (a_nil))) (a_nil))) h__law_alike))) (w_or1 (t_not (t_val (e_call F__law_alike (a_cons (e_call F_parting (a_cons (e_var 5) (a_cons (e_var 6) (a_nil))) h_parting) (a_cons (e_if (T_cmp c_ne (e_var 7) (e_lst (a_nil))) (E_ix (e_var 7) (e_int)) (e_non)) (a_nil))) h__law_alike)))))) (s_one (P_ret (e_bl))) (s_nil))
    (s_cons (P_set 8 (e_tuple (a_cons (e_lc [("name", 11)] (i_seq (e_call0 F__law_names h__law_names)) (g_name 11) (p_one (T_cmp c_eq (e_call F__law_taken (a_row 1 (a_cons (e_int) (a_nil))) h__law_taken) (e_int))) (e_var 11)) (a_nil)) B.b_tuple))
    (s_cons (P_set 8 (e_if (T_cmp c_eq (e_call F__law_taken (a_row 1 (a_cons (e_int) (a_nil))) h__law_taken) (e_int)) (e_rev (e_var 8)) (e_var 8)))
    (s_cons (P_setLc 9 [("each", 10)] (i_seq (e_var 3)) (g_name 10) (p_one (T_cmp c_eq (e_lc [("name", 11)] (i_seq (e_var 8)) (g_name 11) (p_one (t_not (t_val (e_call F__law_holds (a_cons (e_var 10) (a_cons (e_var 11) (a_nil))) h__law_holds)))) (e_var 11)) (e_lst (a_nil)))) (e_var 10))
    (s_one (P_if (t_not (t_val (e_call F__law_alike (a_cons (e_call F_semantics_with (a_cons (e_var 8) (a_nil)) h_semantics_with) (a_cons (e_tuple (a_cons (e_var 9) (a_nil)) B.b_tuple) (a_nil))) h__law_alike))) (s_one (P_ret (e_bl))) (s_nil)))))))))
theorem s_4 {G : Gm} {k : Nat} (B : Tp G) (hk : 1 ≤ k) {j__law_alike : Nat} {f__law_alike : LW.Fs} (F__law_alike : FO G j__law_alike "_law_alike" 2 f__law_alike) (h__law_alike : j__law_alike ≤ k) {j__law_profile : Nat} {f__law_profile : LW.Fs} (F__law_profile : FO G j__law_profile "_law_profile" 1 f__law_profile) (h__law_profile : j__law_profile ≤ k) {j_profiles : Nat} {f_profiles : LW.Fs} (F_profiles : FO G j_profiles "profiles" 0 f_profiles) (h_profiles : j_profiles ≤ k) : SS G k sxL N_law (lawAt 4) (dS4 f__law_alike f__law_profile f_profiles) :=
    P_if (t_not (t_val (e_call F__law_alike (a_cons (e_call0 F_profiles h_profiles) (a_cons (e_tuple (a_cons (e_sortset hk (a_cons (e_lc [("each", 10)] (i_seq (e_var 3)) (g_name 10) (p_nil) (e_call F__law_profile (a_cons (e_var 10) (a_nil)) h__law_profile)) (a_nil)) B.b_sorted B.b_set) (a_nil)) B.b_tuple) (a_nil))) h__law_alike))) (s_one (P_ret (e_bl))) (s_nil)
theorem e_lam {G : Gm} {k : Nat} (B : Tp G) {j__law_pick : Nat} {f__law_pick : LW.Fs} (F__law_pick : FO G j__law_pick "_law_pick" 2 f__law_pick) (h__law_pick : j__law_pick ≤ k) {j_semantics_with : Nat} {f_semantics_with : LW.Fs} (F_semantics_with : FO G j_semantics_with "semantics_with" 1 f_semantics_with) (h_semantics_with : j_semantics_with ≤ k) : SE G k ⟨lamScope (lawAt 5), fun _ => false⟩ N_law (lamBody (lawAt 5)) (dLam f__law_pick f_semantics_with) :=
    e_call F_semantics_with (a_cons (e_call F__law_pick (a_row 1 (a_cons (e_lst (a_cons (e_non) (a_cons (e_list (a_cons (e_var 8) (a_nil)) B.b_list) (a_cons (e_tup (a_cons (e_str) (a_cons (e_str) (a_nil)))) (a_cons (e_tup (a_cons (e_str) (a_nil))) (a_cons (e_str) (a_cons (e_tup (a_cons (e_non) (a_nil))) (a_nil)))))))) (a_nil))) h__law_pick) (a_nil)) h_semantics_with
end K08
namespace PX
open PySem PySem.Spec PyProof.Rows L2 DL LW
def isIntTo : D → Int → Bool
  | .int i, g => decide (0 ≤ i) && decide (i ≤ g)
  | _, _ => false
abbrev SpIntTo (f : Fs) : Prop := ∀ (d : D) (g : Int), NoDict d → f [.dat d, .dat (.int g)] = pur (.bool (isIntTo d g))
inductive Nd where
  | c (x : Cnd)
  | e (x : Ex)
def Nd.d : Nd → D
  | .c x => x.d
  | .e x => x.d
def Nd.kind : Nd → String
  | .c _ => "condition"
  | .e _ => "expression"
def Nd.size : Nd → Nat
  | .c x => x.size
  | .e x => x.size
theorem col_nd (c : Bool) : NoDict (colD c) := by intro k e; cases c <;> simp [colD] at e
theorem col_ok (c : Bool) : isIntTo (colD c) 1 = true := by cases c <;> rfl
@[simp] theorem gi_e : kinD PW.k_GREATEST (.str "expression") = some false := by simp [kinD, PW.k_GREATEST, List.lookup]
@[simp] theorem gi_c : kinD PW.k_GREATEST (.str "condition") = some false := by simp [kinD, PW.k_GREATEST, List.lookup]
@[simp] theorem gi_p : kinD PW.k_GREATEST (.str "place") = some true := by simp [kinD, PW.k_GREATEST, List.lookup]
@[simp] theorem gg_p : kgetD PW.k_GREATEST (.str "place") = some (.int 1) := by simp [kgetD, PW.k_GREATEST, List.lookup]
abbrev SpFits (f : Fs) : Prop := (∀ d, f [.dat d, .dat (.str "expression")] = pur (.bool true)) ∧ (∀ d, f [.dat d, .dat (.str "condition")] = pur (.bool true)) ∧ ∀ b, f [.dat (colD b), .dat (.str "place")] = pur (.bool true)
theorem fits {f : Fs} (hf : SpIntTo f) : SpFits (dFun 2 2 (PW.d__fits f)) := by
  refine ⟨fun d => ?_, fun d => ?_, fun b => ?_⟩ <;> simp [dFun_eq, PW.d__fits, hf _ _ (col_nd _), col_ok]
theorem fget {k w : String} {d : D} (h : List.lookup [Str.ofString k, Str.ofString w] PW.t_FORMS = some d) : tgetD PW.t_FORMS (.tuple [.str (Str.ofString k), .str (Str.ofString w)]) = some d := by
  show List.lookup [Str.ofString k, Str.ofString w] PW.t_FORMS = some d
  exact h
theorem fnin {k w : String} {d : D} (h : List.lookup [Str.ofString k, Str.ofString w] PW.t_FORMS = some d) : tninD PW.t_FORMS (.tuple [.str (Str.ofString k), .str (Str.ofString w)]) = some false := by
  show some (!(List.lookup [Str.ofString k, Str.ofString w] PW.t_FORMS).isSome) = some false
  rw [h]; rfl
theorem lk_c_p : List.lookup [Str.ofString "condition", Str.ofString "p"] PW.t_FORMS = some (.tuple []) := by simp [PW.t_FORMS, List.lookup]
@[simp] theorem fg_c_p : tgetD PW.t_FORMS (.tuple [.str "condition", .str "p"]) = some (.tuple []) := fget lk_c_p
@[simp] theorem fn_c_p : tninD PW.t_FORMS (.tuple [.str "condition", .str "p"]) = some false := fnin lk_c_p
theorem lk_c_q : List.lookup [Str.ofString "condition", Str.ofString "q"] PW.t_FORMS = some (.tuple []) := by simp [PW.t_FORMS, List.lookup]
@[simp] theorem fg_c_q : tgetD PW.t_FORMS (.tuple [.str "condition", .str "q"]) = some (.tuple []) := fget lk_c_q
@[simp] theorem fn_c_q : tninD PW.t_FORMS (.tuple [.str "condition", .str "q"]) = some false := fnin lk_c_q
theorem lk_c_not : List.lookup [Str.ofString "condition", Str.ofString "not"] PW.t_FORMS = some (.tuple [.str "condition"]) := by simp [PW.t_FORMS, List.lookup]
@[simp] theorem fg_c_not : tgetD PW.t_FORMS (.tuple [.str "condition", .str "not"]) = some (.tuple [.str "condition"]) := fget lk_c_not
@[simp] theorem fn_c_not : tninD PW.t_FORMS (.tuple [.str "condition", .str "not"]) = some false := fnin lk_c_not
theorem lk_c_and : List.lookup [Str.ofString "condition", Str.ofString "and"] PW.t_FORMS = some (.tuple [.str "condition", .str "condition"]) := by simp [PW.t_FORMS, List.lookup]
@[simp] theorem fg_c_and : tgetD PW.t_FORMS (.tuple [.str "condition", .str "and"]) = some (.tuple [.str "condition", .str "condition"]) := fget lk_c_and
@[simp] theorem fn_c_and : tninD PW.t_FORMS (.tuple [.str "condition", .str "and"]) = some false := fnin lk_c_and
theorem lk_c_or : List.lookup [Str.ofString "condition", Str.ofString "or"] PW.t_FORMS = some (.tuple [.str "condition", .str "condition"]) := by simp [PW.t_FORMS, List.lookup]
@[simp] theorem fg_c_or : tgetD PW.t_FORMS (.tuple [.str "condition", .str "or"]) = some (.tuple [.str "condition", .str "condition"]) := fget lk_c_or
@[simp] theorem fn_c_or : tninD PW.t_FORMS (.tuple [.str "condition", .str "or"]) = some false := fnin lk_c_or
theorem lk_e_table : List.lookup [Str.ofString "expression", Str.ofString "table"] PW.t_FORMS = some (.tuple [.str "place"]) := by simp [PW.t_FORMS, List.lookup]
@[simp] theorem fg_e_table : tgetD PW.t_FORMS (.tuple [.str "expression", .str "table"]) = some (.tuple [.str "place"]) := fget lk_e_table
@[simp] theorem fn_e_table : tninD PW.t_FORMS (.tuple [.str "expression", .str "table"]) = some false := fnin lk_e_table
theorem lk_e_union : List.lookup [Str.ofString "expression", Str.ofString "union"] PW.t_FORMS = some (.tuple [.str "expression", .str "expression"]) := by simp [PW.t_FORMS, List.lookup]
@[simp] theorem fg_e_union : tgetD PW.t_FORMS (.tuple [.str "expression", .str "union"]) = some (.tuple [.str "expression", .str "expression"]) := fget lk_e_union
@[simp] theorem fn_e_union : tninD PW.t_FORMS (.tuple [.str "expression", .str "union"]) = some false := fnin lk_e_union
theorem lk_e_intersection : List.lookup [Str.ofString "expression", Str.ofString "intersection"] PW.t_FORMS = some (.tuple [.str "expression", .str "expression"]) := by simp [PW.t_FORMS, List.lookup]
@[simp] theorem fg_e_intersection : tgetD PW.t_FORMS (.tuple [.str "expression", .str "intersection"]) = some (.tuple [.str "expression", .str "expression"]) := fget lk_e_intersection
@[simp] theorem fn_e_intersection : tninD PW.t_FORMS (.tuple [.str "expression", .str "intersection"]) = some false := fnin lk_e_intersection
theorem lk_e_difference : List.lookup [Str.ofString "expression", Str.ofString "difference"] PW.t_FORMS = some (.tuple [.str "expression", .str "expression"]) := by simp [PW.t_FORMS, List.lookup]
@[simp] theorem fg_e_difference : tgetD PW.t_FORMS (.tuple [.str "expression", .str "difference"]) = some (.tuple [.str "expression", .str "expression"]) := fget lk_e_difference
@[simp] theorem fn_e_difference : tninD PW.t_FORMS (.tuple [.str "expression", .str "difference"]) = some false := fnin lk_e_difference
theorem lk_e_filter : List.lookup [Str.ofString "expression", Str.ofString "filter"] PW.t_FORMS = some (.tuple [.str "condition", .str "expression"]) := by simp [PW.t_FORMS, List.lookup]
@[simp] theorem fg_e_filter : tgetD PW.t_FORMS (.tuple [.str "expression", .str "filter"]) = some (.tuple [.str "condition", .str "expression"]) := fget lk_e_filter
@[simp] theorem fn_e_filter : tninD PW.t_FORMS (.tuple [.str "expression", .str "filter"]) = some false := fnin lk_e_filter
end PX
namespace PX
open PySem PySem.Spec PyProof.Rows L2 DL LW
end PX
namespace DL
open PySem PySem.Spec PyProof.Rows L2
section
end
end DL
namespace DL
open PySem PySem.Spec PyProof.Rows L2
section
end
end DL
namespace LZ
open PySem PySem.Spec PyProof.Rows L2 DL
end LZ
namespace PX
open PySem PySem.Spec PyProof.Rows L2 DL LW
section
end
end PX
namespace PX
open PySem PySem.Spec PyProof.Rows L2 DL LW
section
end
end PX
namespace PX
open PySem PySem.Spec PyProof.Rows L2 DL LW
end PX
noncomputable section
namespace K08
open PySem PySem.Spec PyProof.Rows L2 DL LW PW
abbrev Wy := Bool × Bool × Bool × N3 × Bool
abbrev wy (w : Wy) : D := wayD w.1 w.2.1 w.2.2.1 w.2.2.2.1 w.2.2.2.2
def allW : List Wy := [true, false].flatMap fun a => [true, false].flatMap fun b => [true, false].flatMap fun c => [N3.none, N3.unknown, N3.value].flatMap fun n => [true, false].map fun e => (a, b, c, n, e)
abbrev hoW (w : Wy) (i : Idn) : Bool := holdB w.1 w.2.1 w.2.2.1 w.2.2.2.1 w.2.2.2.2 i.name
abbrev nmD (l : List Idn) : List D := l.map fun i => sD i.name
abbrev profI (w : Wy) : List Idn := idns.filter (hoW w)
abbrev profD (w : Wy) : D := .tuple (nmD (profI w))
abbrev SpAllS (f : Fs) : Prop := f [] = pur (.tuple (allW.map wy))
abbrev SpEvery (f : Fs) : Prop := f [] = pur (.list (allW.map wy))
abbrev SpIds (f : Fs) : Prop := f [] = pur (.tuple (nmD idns))
theorem all_run (rs : RS) : dFun 0 4 PW.d_all_semantics [] rs = some (.val (.tuple (allW.map wy)), rs) := by kernel_rfl
theorem all_ok : SpAllS (dFun 0 4 PW.d_all_semantics) := funext all_run
theorem every_run (rs : RS) : dFun 0 5 LW.d__law_every [] rs = some (.val (.list (allW.map wy)), rs) := by kernel_rfl
theorem every_ok : SpEvery (dFun 0 5 LW.d__law_every) := funext every_run
theorem ids_run (rs : RS) : dFun 0 0 PW.d_identities [] rs = some (.val (.tuple (nmD idns)), rs) := by kernel_rfl
theorem ids_ok : SpIds (dFun 0 0 PW.d_identities) := funext ids_run
theorem compGo_flt {α : Type} {t : Tgt} {cond : Ev → Mn Bool} {elt : Ev → Mn D} {ev : Ev} (f g : α → D) (p : α → Bool) : ∀ l : List α, (∀ x ∈ l, ∃ es, t.of (f x) = some es ∧ cond (setE ev t.ix es) = pur (p x) ∧ elt (setE ev t.ix es) = pur (g x)) → compGo t cond elt ev (l.map f) = pur ((l.filter p).map g)
  | [], _ => rfl
  | x :: l, h => by
    obtain ⟨es, e1, e2, e3⟩ := h x List.mem_cons_self
    have ih := compGo_flt f g p l fun y z => h y (List.mem_cons_of_mem _ z)
    have nx : ∀ {α : Type} (a : α), nox (pur a) = pur a := fun a => rfl
    rw [List.map_cons, compGo, e1, lft_some', bnd_pur, e2, nx, bnd_pur]
    cases hp : p x with
    | true =>
      rw [if_pos rfl, e3, nx, bnd_pur, ih, bnd_pur, List.filter_cons_of_pos hp]
      rfl
    | false =>
      rw [if_neg (by decide), ih, List.filter_cons_of_neg (by rw [hp]; decide)]
abbrev SpProf (f : Fs) : Prop := ∀ w : Wy, f [.dat (wy w)] = pur (profD w)
theorem prof_len (w : Wy) : (profI w).length ≤ 26 := Nat.le_trans (List.length_filter_le _ _) (by decide)
theorem prof_ok {fc fi fh : Fs} (h1 : SpChkS fc) (h2 : SpIds fi) (h3 : PW.SpHolds fh) : SpProf (dFun 1 2 (PW.d_profile fc fi fh)) := by
  rintro ⟨a, b, c, n, e⟩
  have k1 := h1 a b c n e
  have it : itmD (.tuple (nmD idns)) = some (nmD idns) := rfl
  have go := compGo_flt (t := .name 1) (cond := dTru (dCl 2 fh (dCons (dVar 0) (dCons (dVar 1) (dNil))))) (elt := dVar 1) (ev := [.dat (wy (a, b, c, n, e)), .hid]) (fun i : Idn => sD i.name) (fun i : Idn => sD i.name) (hoW (a, b, c, n, e)) idns fun i hi => by
    have k3 := h3 a b c n e i hi
    exact ⟨_, rfl, by simp [k3, truD], by simp⟩
  have ln : (profI (a, b, c, n, e)).length ≤ sizeLine := big_ok (by have := prof_len (a, b, c, n, e); rw [lim_eq]; omega)
  have h2' : fi [] = pur (.tuple (nmD idns)) := h2
  simp [dFun_eq, PW.d_profile, k1, h2', it, go, ln, tupleD]
theorem lprof_ok {fn fh : Fs} (h2 : SpLNames fn) (h3 : PW.SpHolds fh) : SpProf (dFun 1 2 (LW.d__law_profile fn fh)) := by
  rintro ⟨a, b, c, n, e⟩
  have it : itmD (.list (nmD idns)) = some (nmD idns) := rfl
  have go := compGo_flt (t := .name 1) (cond := dTru (dCl 2 fh (dCons (dVar 0) (dCons (dVar 1) (dNil))))) (elt := dVar 1) (ev := [.dat (wy (a, b, c, n, e)), .hid]) (fun i : Idn => sD i.name) (fun i : Idn => sD i.name) (hoW (a, b, c, n, e)) idns fun i hi => by
    have k3 := h3 a b c n e i hi
    exact ⟨_, rfl, by simp [k3, truD], by simp⟩
  have ln : (profI (a, b, c, n, e)).length ≤ sizeLine := big_ok (by have := prof_len (a, b, c, n, e); rw [lim_eq]; omega)
  have h2' : fn [] = pur (.list (nmD idns)) := h2
  simp [dFun_eq, LW.d__law_profile, h2', it, go, ln, tupleD]
abbrev prt (i j : Idn) (w : Wy) : Bool := hoW w i && !hoW w j
def oW : Option Wy → D
  | none => .none
  | some w => wy w
abbrev SpPart (f : Fs) : Prop := ∀ i ∈ idns, ∀ j ∈ idns, f [.dat (sD i.name), .dat (sD j.name)] = pur (oW (allW.find? (prt i j)))
theorem part_go {fh : Fs} (h3 : PW.SpHolds fh) (i : Idn) (hi : i ∈ idns) (j : Idn) (hj : j ∈ idns) : ∀ (l : List Wy) (s : DL.Slot),
    fin (sq (forGo (.name 2) (pIf (dAnd (dTru (dCl 2 fh (dCons (dVar 2) (dCons (dVar 0) (dNil))))) (dNot (dTru (dCl 2 fh (dCons (dVar 2) (dCons (dVar 1) (dNil))))))) (pRet (dVar 2)) (sNil)) (l.map wy) [.dat (sD i.name), .dat (sD j.name), s]) (pRet (dLit .none))) = pur (oW (l.find? (prt i j)))
  | [], s => by simp [forGo, oW]
  | w :: l, s => by
    have k1 := h3 w.1 w.2.1 w.2.2.1 w.2.2.2.1 w.2.2.2.2 i hi
    have k2 := h3 w.1 w.2.1 w.2.2.1 w.2.2.2.1 w.2.2.2.2 j hj
    have ih := part_go h3 i hi j hj l (.dat (wy w))
    rw [List.map_cons, forGo_cons, tgt_name, lft_some', bnS_pur, tix_name, List.find?_cons]
    cases h1 : hoW w i with
    | false =>
      have st : pIf (dAnd (dTru (dCl 2 fh (dCons (dVar 2) (dCons (dVar 0) (dNil))))) (dNot (dTru (dCl 2 fh (dCons (dVar 2) (dCons (dVar 1) (dNil))))))) (pRet (dVar 2)) (sNil) [.dat (sD i.name), .dat (sD j.name), .dat (wy w)] = nxM [.dat (sD i.name), .dat (sD j.name), .dat (wy w)] := by
        simp [k1, h1, truD]
      show fin (sq (DL.wl (pIf _ _ _ [.dat (sD i.name), .dat (sD j.name), .dat (wy w)]) _) _) = _
      rw [st, show prt i j w = false by simp [prt, h1]]
      exact ih
    | true => cases h2 : hoW w j with
      | true =>
        have st : pIf (dAnd (dTru (dCl 2 fh (dCons (dVar 2) (dCons (dVar 0) (dNil))))) (dNot (dTru (dCl 2 fh (dCons (dVar 2) (dCons (dVar 1) (dNil))))))) (pRet (dVar 2)) (sNil) [.dat (sD i.name), .dat (sD j.name), .dat (wy w)] = nxM [.dat (sD i.name), .dat (sD j.name), .dat (wy w)] := by
          simp [k1, k2, h1, h2, truD]
        show fin (sq (DL.wl (pIf _ _ _ [.dat (sD i.name), .dat (sD j.name), .dat (wy w)]) _) _) = _
        rw [st, show prt i j w = false by simp [prt, h1, h2]]
        exact ih
      | false =>
        have st : pIf (dAnd (dTru (dCl 2 fh (dCons (dVar 2) (dCons (dVar 0) (dNil))))) (dNot (dTru (dCl 2 fh (dCons (dVar 2) (dCons (dVar 1) (dNil))))))) (pRet (dVar 2)) (sNil) [.dat (sD i.name), .dat (sD j.name), .dat (wy w)] = rtM (wy w) := by
          simp [k1, k2, h1, h2, truD]
        show fin (sq (DL.wl (pIf _ _ _ [.dat (sD i.name), .dat (sD j.name), .dat (wy w)]) _) _) = _
        rw [st, show prt i j w = true by simp [prt, h1, h2]]
        rfl
theorem part_ok {fc fa fh : Fs} (h1 : SpChkI fc) (h2 : SpAllS fa) (h3 : PW.SpHolds fh) : SpPart (dFun 2 3 (PW.d_parting fc fa fh)) := by
  intro i hi j hj
  have k1 := h1 i hi
  have k2 := h1 j hj
  have h2' : fa [] = pur (.tuple (allW.map wy)) := h2
  have it : itmD (.tuple (allW.map wy)) = some (allW.map wy) := rfl
  have go := part_go h3 i hi j hj allW .hid
  rw [dFun_eq]
  simp only [PW.d_parting]
  simp [-pIf_eq, -forGo_cons, k1, k2, h2', it, sFor_f]
  exact go
abbrev SpImp (f : Fs) : Prop := ∀ i ∈ idns, ∀ j ∈ idns, f [.dat (sD i.name), .dat (sD j.name)] = pur (.bool (decide (allW.find? (prt i j) = none)))
theorem imp_ok {fp : Fs} (h : SpPart fp) : SpImp (dFun 2 2 (PW.d_implies fp)) := by
  intro i hi j hj
  have k := h i hi j hj
  have z : ∀ o : Option Wy, isD (oW o) .none = some (decide (o = none)) := fun o => by cases o <;> rfl
  simp [dFun_eq, PW.d_implies, k, z]
end K08
noncomputable section
namespace K08
open PySem PySem.Spec PyProof.Rows L2 DL LW PW
theorem all_bools {α : Type} (p : α → Bool) : ∀ l : List α, allD [.list (l.map fun x => PyData.bool (p x))] = some (.bool (l.all p)) := fun l => by
  have z : ∀ l : List α, bools (l.map fun x => PyData.bool (p x)) = some (l.map p) := fun l => by
    induction l with
    | nil => rfl
    | cons x l ih => simp [bools, ih]
  simp [allD, z]
structure SpIsI (f : Fs) : Prop where
  yes : ∀ i ∈ idns, f [.dat (sD i.name)] = pur (.bool true)
  no1 : f [.dat (.str "Not in")] = pur (.bool false)
  no2 : f [.dat .none] = pur (.bool false)
theorem isI_no1 (rs : RS) : dFun 1 1 PW.d_is_identity [.dat (.str "Not in")] rs = some (.val (.bool false), rs) := by kernel_rfl
theorem isI_no2 (rs : RS) : dFun 1 1 PW.d_is_identity [.dat .none] rs = some (.val (.bool false), rs) := by kernel_rfl
theorem isI_ok : SpIsI (dFun 1 1 PW.d_is_identity) := ⟨is_ok, funext isI_no1, funext isI_no2⟩
/-- what is no tuple of different identities -/
def Bad (d : D) : Prop := d = .none ∨ (∃ ds, d = .list ds) ∨ d = .tuple [sD "not in", sD "not in"] ∨ d = .tuple [.str "Not in"] ∨ d = sD "not in" ∨ d = .tuple [.none]
/-- a tuple of different identities -/
structure Wnt (ws : List Idn) : Prop where
  sub : ∀ i ∈ ws, i ∈ idns
  nd : (ws.map fun i => Str.ofString i.name).Nodup
  len : ws.length ≤ 26
structure SpAre (f : Fs) : Prop where
  yes : ∀ ws, Wnt ws → f [.dat (.tuple (nmD ws))] = pur (.bool true)
  no : ∀ d, Bad d → f [.dat d] = pur (.bool false)
theorem sd_nd : ∀ (xs acc : List Str), (acc ++ xs).Nodup → xs.foldl ST.sD1 acc = acc ++ xs
  | [], acc, _ => by simp
  | x :: xs, acc, h => by
    have nx : x ∉ acc := fun z => by
      have h1 := (List.nodup_append.mp h).2.2 x z x List.mem_cons_self
      exact h1 rfl
    rw [List.foldl_cons, show ST.sD1 acc x = acc ++ [x] from if_neg nx, sd_nd xs (acc ++ [x]) (by rw [List.append_assoc]; exact h), List.append_assoc]
    rfl
theorem nm_strs (ws : List Idn) : strsD (nmD ws) = some (ws.map fun i => Str.ofString i.name) := by
  have z := strsD_map (ws.map fun i => Str.ofString i.name)
  rw [List.map_map] at z
  exact z
theorem len_nd {ws : List Idn} (h : Wnt ws) : lenSetD [.tuple (nmD ws)] = some (.int (ws.length : Nat)) := by
  have e : ST.sD (ws.map fun i => Str.ofString i.name) = ws.map fun i => Str.ofString i.name := by
    have z := sd_nd (ws.map fun i => Str.ofString i.name) [] (by rw [List.nil_append]; exact h.nd)
    simpa [ST.sD] using z
  have l := h.len
  unfold lenSetD
  simp only [nm_strs]
  rw [if_pos (by rw [List.length_map]; omega), e, List.length_map]
theorem are_ok {f : Fs} (h : SpIsI f) : SpAre (dFun 1 2 (d__are_identities f)) := by
  constructor
  · intro ws hw
    have it : itmD (.tuple (nmD ws)) = some (nmD ws) := rfl
    have go := compGo_all (t := .name 1) (e := dCl 1 f (dCons (dVar 1) (dNil))) (ev := [.dat (.tuple (nmD ws)), .hid]) (fun i : Idn => sD i.name) (fun _ => PyData.bool true) ws fun i hi => ⟨_, rfl, by simp [h.yes i (hw.sub i hi)]⟩
    have ln : ws.length ≤ sizeLine := big_ok (by have := hw.len; rw [lim_eq]; omega)
    have al := all_bools (fun _ : Idn => true) ws
    have a2 : (ws.all fun _ => true) = true := by simp
    have l1 := len_nd hw
    have l2 : lenD [.tuple (nmD ws)] = some (.int (ws.length : Nat)) := by simp [lenD]
    have eq : eqD (.int (ws.length : Nat)) (.int (ws.length : Nat)) = some true := by simp
    simp [dFun_eq, d__are_identities, isA, truD, it, go, ln, al, a2, l1, l2, eq]
  · intro d hd
    rcases hd with rfl | ⟨ds, rfl⟩ | rfl | rfl | rfl | rfl
    · simp [dFun_eq, d__are_identities, isA, truD]
    · simp [dFun_eq, d__are_identities, isA, truD]
    · have y : f [.dat (sD "not in")] = pur (.bool true) := h.yes ⟨"not in", .b .notin (.v "A") (.v "B"), .b .anti (.v "A") (.v "B")⟩ (by simp [idns])
      have l1 : lenSetD [.tuple [sD "not in", sD "not in"]] = some (.int 1) := rfl
      have o2 : (2 : Nat) ≤ sizeLine := big_ok (by rw [lim_eq]; decide)
      simp [dFun_eq, d__are_identities, isA, truD, itmD, y, l1, lenD, allD, bools, o2]
    · have y := h.no1
      simp [dFun_eq, d__are_identities, isA, truD, itmD, y, allD, bools]
    · simp [dFun_eq, d__are_identities, isA, truD]
    · have y := h.no2
      simp [dFun_eq, d__are_identities, isA, truD, itmD, y, allD, bools]
abbrev withD (ws : List Idn) : List Wy := allW.filter fun w => ws.all (hoW w)
structure SpWith (f : Fs) : Prop where
  yes : ∀ ws, Wnt ws → f [.dat (.tuple (nmD ws))] = pur (.tuple ((withD ws).map wy))
  no : ∀ d, Bad d → ∀ rs, f [.dat d] rs = some (.exc "BadIdentities" none, rs)
theorem allW_len : allW.length = 48 := rfl
theorem with_ok {fr fa fh : Fs} (h1 : SpAre fr) (h2 : SpAllS fa) (h3 : PW.SpHolds fh) : SpWith (dFun 1 3 (PW.d_semantics_with fr fa fh)) := by
  constructor
  · intro ws hw
    have k1 := h1.yes ws hw
    have h2' : fa [] = pur (.tuple (allW.map wy)) := h2
    have it : itmD (.tuple (allW.map wy)) = some (allW.map wy) := rfl
    have it2 : itmD (.tuple (nmD ws)) = some (nmD ws) := rfl
    have ln2 : ws.length ≤ sizeLine := big_ok (by have := hw.len; rw [lim_eq]; omega)
    have go := compGo_flt (t := .name 1) (cond := dTru (dFn allD (dCons (dComp [2] (dItm (dVar 0)) (.name 2) (dYes) (dCl 2 fh (dCons (dVar 1) (dCons (dVar 2) (dNil))))) (dNil)))) (elt := dVar 1) (ev := [.dat (.tuple (nmD ws)), .hid, .hid]) wy wy (fun w => ws.all (hoW w)) allW fun w _ => by
      have go2 := compGo_all (t := .name 2) (e := dCl 2 fh (dCons (dVar 1) (dCons (dVar 2) (dNil)))) (ev := [.dat (.tuple (nmD ws)), .dat (wy w), .hid]) (fun i : Idn => sD i.name) (fun i => PyData.bool (hoW w i)) ws fun i hi => by
        have k3 := h3 w.1 w.2.1 w.2.2.1 w.2.2.2.1 w.2.2.2.2 i (hw.sub i hi)
        exact ⟨_, rfl, by simp [k3]⟩
      have al := all_bools (hoW w) ws
      exact ⟨_, rfl, by simp [it2, go2, ln2, al, truD], by simp⟩
    have ln : (withD ws).length ≤ sizeLine := big_ok (by
      unfold withD
      have := List.length_filter_le (fun w => ws.all (hoW w)) allW
      rw [allW_len] at this
      rw [lim_eq]; omega)
    simp [dFun_eq, PW.d_semantics_with, k1, truD, h2', it, go, ln, tupleD]
  · intro d hd rs
    have k := h1.no d hd
    simp [dFun_eq, PW.d_semantics_with, k, truD]
    rfl
end K08
noncomputable section
namespace K08
open PySem PySem.Spec PyProof.Rows L2 DL LW PW
def prN : List (List String) := [["absorbing intersection", "difference of union", "union less part", "union over intersection", "filter and", "filter not", "filter complete", "projection of union", "self semijoin", "semijoin and antijoin", "not in", "join over union", "count of union", "distinct difference"],
  ["absorbing intersection", "difference of union", "union less part", "union over intersection", "filter and", "filter not", "filter complete", "projection of union", "self semijoin", "semijoin and antijoin", "not in", "join over union", "count of union", "total of union", "total of parts", "distinct difference"],
  ["absorbing intersection", "difference of union", "union less part", "union over intersection", "filter and", "projection of union", "semijoin and antijoin", "join over union", "count of union", "distinct difference"],
  ["absorbing intersection", "difference of union", "union less part", "union over intersection", "filter and", "projection of union", "semijoin and antijoin", "join over union", "count of union", "total of union", "distinct difference"],
  ["absorbing intersection", "intersection by difference", "difference of union", "add and take", "union over intersection", "filter and", "filter not", "filter complete", "projection of union", "self semijoin", "semijoin and antijoin", "not in", "join over union", "count of union"],
  ["absorbing intersection", "intersection by difference", "difference of union", "add and take", "union over intersection", "filter and", "filter not", "filter complete", "projection of union", "self semijoin", "semijoin and antijoin", "not in", "join over union", "count of union", "total of union", "total of parts"],
  ["absorbing intersection", "intersection by difference", "difference of union", "add and take", "union over intersection", "filter and", "projection of union", "semijoin and antijoin", "join over union", "count of union"],
  ["absorbing intersection", "intersection by difference", "difference of union", "add and take", "union over intersection", "filter and", "projection of union", "semijoin and antijoin", "join over union", "count of union", "total of union"],
  ["idempotent union", "absorbing union", "absorbing intersection", "difference of union", "union less part", "intersection over union", "union over intersection", "filter or", "filter and", "filter not", "filter complete", "self semijoin", "semijoin and antijoin", "not in", "join over union", "inclusion and exclusion", "distinct union", "distinct difference"],
  ["idempotent union", "absorbing union", "absorbing intersection", "difference of union", "union less part", "intersection over union", "union over intersection", "filter or", "filter and", "filter not", "filter complete", "self semijoin", "semijoin and antijoin", "not in", "join over union", "inclusion and exclusion", "total of parts", "distinct union", "distinct difference"],
  ["idempotent union", "absorbing union", "absorbing intersection", "difference of union", "union less part", "intersection over union", "union over intersection", "filter or", "filter and", "semijoin and antijoin", "join over union", "inclusion and exclusion", "distinct union", "distinct difference"],
  ["idempotent union", "absorbing union", "absorbing intersection", "intersection by difference", "difference of union", "union less part", "intersection over union", "union over intersection", "filter or", "filter and", "filter not", "filter complete", "projection of union", "self semijoin", "semijoin and antijoin", "not in", "join as semijoin", "join over union", "inclusion and exclusion", "distinct union", "distinct difference"],
  ["idempotent union", "absorbing union", "absorbing intersection", "intersection by difference", "difference of union", "union less part", "intersection over union", "union over intersection", "filter or", "filter and", "filter not", "filter complete", "projection of union", "self semijoin", "semijoin and antijoin", "not in", "join as semijoin", "join over union", "inclusion and exclusion", "total of parts", "distinct union", "distinct difference"],
  ["idempotent union", "absorbing union", "absorbing intersection", "intersection by difference", "difference of union", "union less part", "intersection over union", "union over intersection", "filter or", "filter and", "projection of union", "semijoin and antijoin", "join as semijoin", "join over union", "inclusion and exclusion", "distinct union", "distinct difference"],
  ["idempotent union", "absorbing union", "absorbing intersection", "intersection by difference", "union less part", "intersection over union", "union over intersection", "filter or", "filter and", "filter not", "filter complete", "self semijoin", "semijoin and antijoin", "not in", "join over union", "inclusion and exclusion", "distinct union"],
  ["idempotent union", "absorbing union", "absorbing intersection", "intersection by difference", "union less part", "intersection over union", "union over intersection", "filter or", "filter and", "filter not", "filter complete", "self semijoin", "semijoin and antijoin", "not in", "join over union", "inclusion and exclusion", "total of parts", "distinct union"],
  ["idempotent union", "absorbing union", "absorbing intersection", "intersection by difference", "union less part", "intersection over union", "union over intersection", "filter or", "filter and", "semijoin and antijoin", "join over union", "inclusion and exclusion", "distinct union"]]
def prL : List (List Str) := prN.map fun l => l.map Str.ofString
abbrev prS (w : Wy) : List Str := (profI w).map fun i => Str.ofString i.name
theorem prof_tx (w : Wy) : profD w = ST.txD (prS w) := by
  show PyData.tuple _ = PyData.tuple _
  rw [List.map_map]
  rfl
abbrev leS (us ws : List Str) : Bool := PySem.W.dataLe false ST.txD us ws
def pl (i : Nat) : List Str := prL.getD i []
theorem pr_in : (allW.all fun w => decide (prS w ∈ prL)) = true := by kernel_rfl
theorem pr_ord : ((List.range 17).all fun i => (List.range 17).all fun j => leS (pl i) (pl j) == decide (i ≤ j)) = true := by kernel_rfl
theorem pr_sort : okSort (prL.map ST.txD) = true := by kernel_rfl
theorem pr_len : prL.length = 17 := by kernel_rfl
def idx (ws : List Str) : Nat := prL.idxOf ws
theorem idx_lt {ws : List Str} (h : ws ∈ prL) : idx ws < 17 := by
  have z := List.idxOf_lt_length_of_mem h
  rwa [pr_len] at z
theorem idx_at {ws : List Str} (h : ws ∈ prL) : pl (idx ws) = ws := by
  have z := List.idxOf_lt_length_of_mem h
  unfold pl idx
  rw [List.getD_eq_getElem?_getD, List.getElem?_eq_getElem z, List.getElem_idxOf z]
  rfl
theorem le_idx {us ws : List Str} (hu : us ∈ prL) (hw : ws ∈ prL) : leS us ws = decide (idx us ≤ idx ws) := by
  have z := List.all_eq_true.mp (List.all_eq_true.mp pr_ord _ (List.mem_range.mpr (idx_lt hu))) _ (List.mem_range.mpr (idx_lt hw))
  rw [idx_at hu, idx_at hw] at z
  exact eq_of_beq z
abbrev leI (us ws : List Str) : Bool := decide (idx us ≤ idx ws)
theorem sort_idx {es : List (List Str)} (h : ∀ ws ∈ es, ws ∈ prL) : srtD (es.map ST.txD) = (es.mergeSort leI).map ST.txD := by
  have z1 := PySem.W.sort_maps (r := leS) (s := PySem.W.dataLe false fun d : D => d) ST.txD (l := es) (fun a _ b _ => rfl)
  have z2 := PySem.W.sort_maps (r := leS) (s := leI) id (l := es) (fun a ha b hb => le_idx (h a ha) (h b hb))
  rw [List.map_id, List.map_id] at z2
  unfold srtD
  rw [← z1, z2]
theorem sort_one {es fs : List (List Str)} (h : ∀ ws ∈ es, ws ∈ prL) (p : es.Perm fs) : es.mergeSort leI = fs.mergeSort leI := by
  have tr : ∀ a b c : List Str, leI a b = true → leI b c = true → leI a c = true := fun a b c h1 h2 => decide_eq_true (Nat.le_trans (of_decide_eq_true h1) (of_decide_eq_true h2))
  have to : ∀ a b : List Str, (leI a b || leI b a) = true := fun a b => by
    rcases Nat.le_total (idx a) (idx b) with z | z <;> simp [leI, z]
  have p2 : (es.mergeSort leI).Perm (fs.mergeSort leI) := (List.mergeSort_perm es leI).trans (p.trans (List.mergeSort_perm fs leI).symm)
  refine p2.eq_of_pairwise (fun a b ha hb h1 h2 => ?_) (List.pairwise_mergeSort tr to es) (List.pairwise_mergeSort tr to fs)
  have ha' := h a ((List.mergeSort_perm es leI).mem_iff.mp ha)
  have hb' := h b (p.mem_iff.mpr ((List.mergeSort_perm fs leI).mem_iff.mp hb))
  have e : idx a = idx b := Nat.le_antisymm (of_decide_eq_true h1) (of_decide_eq_true h2)
  rw [← idx_at ha', ← idx_at hb', e]
end K08
noncomputable section
namespace K08
open PySem PySem.Spec PyProof.Rows L2 DL LW PW
theorem prL_nd : prL.Nodup := by
  refine List.pairwise_iff_getElem.mpr fun i j hi hj lt e => ?_
  rw [pr_len] at hi hj
  have h1 : pl i = prL[i] := by unfold pl; rw [List.getD_eq_getElem?_getD, List.getElem?_eq_getElem (by rw [pr_len]; exact hi)]; rfl
  have h2 : pl j = prL[j] := by unfold pl; rw [List.getD_eq_getElem?_getD, List.getElem?_eq_getElem (by rw [pr_len]; exact hj)]; rfl
  have z := List.all_eq_true.mp (List.all_eq_true.mp pr_ord _ (List.mem_range.mpr hj)) _ (List.mem_range.mpr hi)
  have y := List.all_eq_true.mp (List.all_eq_true.mp pr_ord _ (List.mem_range.mpr hi)) _ (List.mem_range.mpr hj)
  have h12 : pl i = pl j := h1.trans (e.trans h2.symm)
  rw [h12] at z y
  have z := eq_of_beq z
  have y := eq_of_beq y
  rw [z] at y
  have : decide (j ≤ i) = true := by rw [y]; exact decide_eq_true (Nat.le_of_lt lt)
  exact absurd (of_decide_eq_true this) (by omega)
theorem prS_in (w : Wy) (h : w ∈ allW) : prS w ∈ prL := of_decide_eq_true (List.all_eq_true.mp pr_in w h)
abbrev pds : List D := allW.map profD
theorem mem_pds (ws : List Str) : ST.txD ws ∈ pds ↔ ∃ w ∈ allW, prS w = ws := by
  constructor
  · intro h
    obtain ⟨w, hw, e⟩ := List.mem_map.mp h
    rw [prof_tx] at e
    exact ⟨w, hw, txD_inj e⟩
  · rintro ⟨w, hw, rfl⟩
    exact List.mem_map.mpr ⟨w, hw, prof_tx w⟩
def e0 : List (List Str) := prL.filter fun ws => decide (∃ w ∈ allW, prS w = ws)
theorem e0_nd : e0.Nodup := prL_nd.sublist List.filter_sublist
theorem e0_mem (ws : List Str) : ws ∈ e0 ↔ ST.txD ws ∈ pds := by
  rw [mem_pds]
  unfold e0
  rw [List.mem_filter]
  constructor
  · exact fun h => of_decide_eq_true h.2
  · rintro ⟨w, hw, rfl⟩
    exact ⟨prS_in w hw, decide_eq_true ⟨w, hw, rfl⟩⟩
def PO : List D := srtD (e0.map ST.txD)
theorem al_sub {l : List D} (h : ∀ d ∈ l, d ∈ prL.map ST.txD) : PySem.W.AllAlike l ∧ PySem.W.Sortable l := by
  obtain ⟨h1, h2, _⟩ := okSort_un pr_sort
  refine ⟨fun d hd e he => h1 d (h d hd) e (h e he), ?_⟩
  rcases h2 with h2 | h2
  · exact .inl fun d hd => h2 d (h d hd)
  · exact .inr fun d hd => h2 d (h d hd)
theorem sub_pr {es : List (List Str)} (h : ∀ ws, ws ∈ es ↔ ST.txD ws ∈ pds) : ∀ ws ∈ es, ws ∈ prL := fun ws z => by
  obtain ⟨w, hw, rfl⟩ := (mem_pds ws).mp ((h ws).mp z)
  exact prS_in w hw
theorem one_pds : oneSort [.list pds] = some (.list PO) := by
  refine oneSort_eq e0 e0_nd e0_mem (by rw [List.length_map, allW_len]; decide) (fun d hd => ?_) fun es nd mem => ?_
  · obtain ⟨w, _, rfl⟩ := List.mem_map.mp hd
    exact ⟨prS w, prof_tx w⟩
  · have hs := sub_pr mem
    refine ⟨al_sub fun d hd => ?_, ?_⟩
    · obtain ⟨ws, hw, rfl⟩ := List.mem_map.mp hd
      exact List.mem_map.mpr ⟨ws, hs ws hw, rfl⟩
    · have p : es.Perm e0 := (List.perm_ext_iff_of_nodup nd e0_nd).mpr fun ws => (mem ws).trans (e0_mem ws).symm
      unfold PO
      rw [sort_idx hs, sort_idx (sub_pr e0_mem), sort_one hs p]
theorem okA_wds (l : List String) (h : l.length ≤ 100) : OkA 1 (ST.txD (l.map Str.ofString)) := .inr ⟨_, .inl rfl, by rw [List.length_map, List.length_map, lim_eq]; omega, fun x hx => by
  obtain ⟨s, hs, rfl⟩ := List.mem_map.mp hx
  obtain ⟨z, _, rfl⟩ := List.mem_map.mp hs
  exact ⟨z, rfl⟩⟩
theorem pr_short : (prN.all fun l => decide (l.length ≤ 100)) = true := by kernel_rfl
theorem okA_PO : OkA 2 (.tuple PO) := by
  have sub := sub_pr e0_mem
  refine .inr ⟨_, .inl rfl, ?_, fun x hx => ?_⟩
  · unfold PO srtD
    rw [List.length_mergeSort, List.length_map, lim_eq]
    have := List.length_filter_le (fun ws => decide (∃ w ∈ allW, prS w = ws)) prL
    rw [pr_len] at this
    show e0.length ≤ _
    unfold e0
    omega
  · obtain ⟨ws, hw, rfl⟩ := List.mem_map.mp (List.mem_mergeSort.mp hx)
    obtain ⟨l, hl, rfl⟩ := List.mem_map.mp (sub ws hw)
    exact okA_wds l (of_decide_eq_true (List.all_eq_true.mp pr_short l hl))
abbrev SpProfs (f : Fs) : Prop := f [] = pur (.tuple PO)
theorem profs_ok {fa fp : Fs} (h1 : SpAllS fa) (h2 : SpProf fp) : SpProfs (dFun 0 1 (d_profiles fa fp)) := by
  have h1' : fa [] = pur (.tuple (allW.map wy)) := h1
  have it : itmD (.tuple (allW.map wy)) = some (allW.map wy) := rfl
  have go := compGo_all (t := .name 0) (e := dCl 1 fp (dCons (dVar 0) (dNil))) (ev := [.hid]) wy profD allW fun w _ => ⟨_, rfl, by simp [h2 w]⟩
  show dFun 0 1 (d_profiles fa fp) [] = _
  simp [dFun_eq, d_profiles, dSortC, h1', it, go, one_pds, tupleD]
end K08
namespace K08
open PySem PySem.Spec PyProof.Rows L2 DL LW PW
theorem cmul2 (i : Int) : CMul i 48271 := .inr ⟨by decide, by decide⟩
theorem dat1 {K : PySem.W.Frag} {M : Addr → Prop} {r : Rw} {H : Hp} {vs : List V} {m : Int} (h : ArgL K M r H vs [.row, .dat (.int m)]) : vs = [.ref r.a, .int m] := by
  cases h with
  | row h => cases h with
    | dat d h => cases h; cases d; rfl
theorem tkF_some {ss : List Slot} {rs rs' : RS} {o : Out D} (h : tkF ss rs = some (o, rs')) : ∃ m : Int, ss = [.row, .dat (.int m)] ∧ 0 < m ∧ m < 1073741824 ∧ o = .val (.int (tk m rs).1) ∧ rs' = (tk m rs).2 := by
  unfold tkF at h
  split at h
  · rename_i m
    split at h
    · rename_i c
      cases h
      exact ⟨m, rfl, c.1, c.2, rfl, rfl⟩
    · cases h
  · cases h
theorem upd_upd' {H : Hp} {a : Addr} {o o' : HO} : upd (upd H a o) a o' = upd H a o' := by
  funext b
  by_cases h : b = a
  · subst h; rw [upd_same, upd_same]
  · rw [upd_ne h, upd_ne h, upd_ne h]
theorem fo_taken {G : Gm} (h : HasF G "_law_taken" st__law_taken P__law_taken) (B : Tp G) : FO G 1 "_law_taken" 2 tkF := by
  obtain ⟨f, fd, hmg, F, bd⟩ := h.ex
  refine ⟨f, fd, _, hmg, F.kp, bd, rfl, F.okX sc__law_taken (fun vs H Q E h => h.1) fun cdv A outer s H vs Q E hr hsp => ?_⟩
  obtain ⟨hn, M, r, ss, rs, mr, ml, row, ar, o, rs', e, w⟩ := hsp
  obtain ⟨m, rfl, h0, h1, rfl, rfl⟩ := tkF_some e
  obtain rfl := dat1 ar
  refine ⟨_, pss_cons (ps_if (pt_cmpR op_gt (pe_ix ix_list (pv 0) pe_int (fun _ _ => rfl)) pe_int (nomark _))
      (pss_cons (ps_set (i := 3) sc__law_taken.nd rfl (Or.inl rfl) (pe_op op_mod (pe_callTy call_int1 rfl B.b_int PyProof.Rows.boot_int (pa_cons (pe_ix ix_list (pv 0) pe_int (fun _ _ => rfl)) pa_nil)) (pv 1)))
      (pss_cons (ps_asg (pe_op op_fdiv (pe_ix ix_list (pv 0) pe_int (fun _ _ => rfl)) (pv 1)) (pg_sub (pv 0) pe_int set_list))
      (pss_one (ps_ret (pv 3))))) pss_nil)
    (pss_cons (ps_asg (pe_op op_add (pe_ix ix_list (pv 0) pe_int (fun _ _ => rfl)) pe_int) (pg_sub (pv 0) pe_int set_list))
    (pss_cons (ps_if (pt_cmpR op_gt (pe_ix ix_list (pv 0) pe_int (fun _ _ => rfl)) (pe_callB call_len_seq rfl B.b_len PySem.boot_len (pa_cons (pe_ix ix_list (pv 0) pe_int (fun _ _ => rfl)) pa_nil)) (nomark _))
      (pss_cons (ps_asg (pe_op op_mod (pe_callTy call_int1 rfl B.b_int PyProof.Rows.boot_int (pa_cons (pe_op op_add (pe_op op_mul (pe_ix ix_list (pv 0) pe_int (fun _ _ => rfl)) pe_int) pe_int) pa_nil)) pe_int) (pg_sub (pv 0) pe_int set_list))
      (pss_one (ps_ret (pe_op op_mod (pe_callTy call_int1 rfl B.b_int PyProof.Rows.boot_int (pa_cons (pe_op op_fdiv (pe_ix ix_list (pv 0) pe_int (fun _ _ => rfl)) pe_int) pa_nil)) (pv 1))))) pss_nil)
    (pss_cons (ps_set (i := 2) sc__law_taken.nd rfl (Or.inl rfl) (pe_ix ix_list (pe_ix ix_list (pv 0) pe_int (fun _ _ => rfl)) (pe_op op_sub (pe_ix ix_list (pv 0) pe_int (fun _ _ => rfl)) pe_int) (fun _ _ => rfl)))
    (pss_cons (ps_asg (pe_op op_mod (pe_callTy call_int1 rfl B.b_int PyProof.Rows.boot_int (pa_cons (pe_op op_add (pe_op op_add (pe_op op_mul (pe_ix ix_list (pv 0) pe_int (fun _ _ => rfl)) pe_int) (pv 2)) pe_int) pa_nil)) pe_int) (pg_sub (pv 0) pe_int set_list))
    (pss_cons (ps_if (pt_cmpR op_ge (pv 2) (pe_op op_pow pe_int pe_int) (nomark _))
      (pss_one (ps_asg (pe_op op_fdiv (pv 2) (pv 1)) (pg_sub (pv 0) pe_int set_list))) pss_nil)
    (pss_one (ps_ret (pe_op op_mod (pe_callTy call_int1 rfl B.b_int PyProof.Rows.boot_int (pa_cons (pv 2) pa_nil)) (pv 1))))))))), ?_⟩
  have hR : H r.a = some (.lst (rowV r rs)) := row.1.1
  have en : rs.ns = r.ns := row.1.2
  have hS : SqL G.K H r.sc (r.ns.map V.int) := row.2.sq
  have fin : ∀ (rs2 : RS) (d : Int) (H' : Hp), tk m rs = (d, rs2) → rs2.ns = rs.ns → H' = upd H r.a (.lst (rowV r rs2)) → Q (.int d) H' := fun rs2 d H' e1 e2 e3 => by
    subst e3
    rw [e1] at w
    exact w _ stp_upd (row_put mr row stp_upd upd_same e2) _ (.int d)
  refine ⟨_, rfl, r.a, _, _, _, rfl, rfl, .of hR, rfl, _, _, rfl, rfl, _, rfl, ?_⟩
  refine ite2 (fun c => ?_) (fun c => ?_)
  · have c' : 0 < rs.c := of_decide_eq_true c
    refine ⟨_, rfl, r.a, _, _, _, rfl, rfl, .of hR, rfl, .inl ⟨_, rfl, _, rfl, _, _, rfl, rfl, h0, ?_⟩⟩
    refine ⟨_, rfl, r.a, _, _, _, rfl, rfl, .of hR, rfl, _, rfl, _, _, rfl, rfl, ⟨h0, h1⟩, _, rfl, r.a, _, _, 3, rfl, rfl, hR, rfl, ?_⟩
    exact ⟨_, rfl, fin { rs with c := rs.c / m } _ _ (by unfold tk; rw [if_pos c']) rfl rfl⟩
  · have c' : ¬ 0 < rs.c := of_decide_eq_false (Bool.eq_false_iff.mpr c)
    -- row[1] = row[1] + 1
    refine ⟨_, rfl, r.a, _, _, _, rfl, rfl, .of hR, rfl, _, _, rfl, rfl, _, rfl, r.a, _, _, 1, rfl, rfl, hR, rfl, ?_⟩
    have hR1 : upd H r.a (.lst [.ref r.sc, .int ((rs.a : Int) + 1), .int rs.b, .int rs.c]) r.a = some (.lst [.ref r.sc, .int ((rs.a : Int) + 1), .int rs.b, .int rs.c]) := upd_same
    have hS1 : ∀ xs, SqL G.K (upd H r.a (.lst xs)) r.sc (r.ns.map V.int) := fun xs => (sqlm_kp row.2 (stp_upd.kp mr)).sq
    refine ⟨_, rfl, r.a, _, _, _, rfl, rfl, .of hR1, rfl, _, rfl, r.a, _, _, _, rfl, rfl, .of hR1, rfl, r.sc, _, rfl, .inl (hS1 _), _, _, rfl, rfl, _, rfl, ?_⟩
    refine ite2 (fun d => ?_) (fun d => ?_)
    · have d' : ((r.ns.map V.int).length : Int) < (rs.a : Int) + 1 := of_decide_eq_true d
      rw [List.length_map] at d'
      refine ⟨_, rfl, r.a, _, _, _, rfl, rfl, .of hR1, rfl, _, _, rfl, rfl, cmul2 _, _, _, rfl, rfl, .inl ⟨_, rfl, _, _, rfl, rfl, (by show (0 : Int) < 2147483647; decide), _, rfl, r.a, _, _, 2, rfl, rfl, hR1, rfl, ?_⟩⟩
      rw [upd_upd']
      refine ⟨_, rfl, r.a, _, _, _, rfl, rfl, .of upd_same, rfl, _, _, rfl, rfl, ⟨by decide, by decide⟩, .inl ⟨_, rfl, _, rfl, _, _, rfl, rfl, h0, ?_⟩⟩
      exact fin { rs with a := rs.a + 1, b := (rs.b * 48271 + 11) % 2147483647 } _ _ (by unfold tk; rw [if_neg c', if_pos (by rw [en]; omega)]) rfl rfl
    · have d' : ¬ ((r.ns.map V.int).length : Int) < (rs.a : Int) + 1 := of_decide_eq_false (Bool.eq_false_iff.mpr d)
      rw [List.length_map] at d'
      have hcell : atI (r.ns.map V.int) ((rs.a : Int) + 1 - 1) = some (.int (rs.ns.getD rs.a 0)) := by
        rw [show ((rs.a : Int) + 1 - 1) = ((rs.a : Nat) : Int) by omega]
        refine atI_nat ?_
        have hl : rs.a < r.ns.length := by omega
        rw [List.getElem?_map, List.getElem?_eq_getElem hl, en]
        simp [List.getD_eq_getElem?_getD, List.getElem?_eq_getElem hl]
      refine ⟨_, rfl, r.a, _, _, _, rfl, rfl, .of hR1, rfl, _, rfl, r.a, _, _, _, rfl, rfl, .of hR1, rfl, _, _, rfl, rfl, r.sc, _, _, _, rfl, rfl, hS1 _, hcell, ?_⟩
      refine ⟨_, rfl, r.a, _, _, _, rfl, rfl, .of hR1, rfl, _, _, rfl, rfl, cmul2 _, _, rfl, _, _, rfl, rfl, _, _, rfl, rfl, .inl ⟨_, rfl, _, _, rfl, rfl, (by show (0 : Int) < 2147483647; decide), _, rfl, r.a, _, _, 2, rfl, rfl, hR1, rfl, ?_⟩⟩
      rw [upd_upd']
      refine ⟨_, rfl, _, _, rfl, rfl, ⟨by decide, by decide, by decide⟩, _, _, rfl, rfl, _, rfl, ?_⟩
      refine ite2 (fun z => ?_) (fun z => ?_)
      · have z' : (10 : Int) ^ 18 ≤ rs.ns.getD rs.a 0 := of_decide_eq_true z
        refine ⟨_, rfl, _, rfl, _, _, rfl, rfl, ⟨h0, h1⟩, _, rfl, r.a, _, _, 3, rfl, rfl, upd_same, rfl, ?_⟩
        rw [upd_upd']
        refine ⟨_, rfl, .inl ⟨_, rfl, _, rfl, _, _, rfl, rfl, h0, ?_⟩⟩
        exact fin { rs with a := rs.a + 1, b := (rs.b * 48271 + rs.ns.getD rs.a 0 + 11) % 2147483647, c := rs.ns.getD rs.a 0 / m } _ _ (by unfold tk; rw [if_neg c', if_neg (by rw [en]; omega)]; dsimp only; rw [if_pos z']) rfl rfl
      · have z' : ¬ (10 : Int) ^ 18 ≤ rs.ns.getD rs.a 0 := of_decide_eq_false (Bool.eq_false_iff.mpr z)
        refine ⟨_, rfl, .inl ⟨_, rfl, _, rfl, _, _, rfl, rfl, h0, ?_⟩⟩
        exact fin { rs with a := rs.a + 1, b := (rs.b * 48271 + rs.ns.getD rs.a 0 + 11) % 2147483647 } _ _ (by unfold tk; rw [if_neg c', if_neg (by rw [en]; omega)]; dsimp only; rw [if_neg z']) rfl rfl
structure Df (G : Gm) : Prop where
  h_is_semantics : HasF G "is_semantics" st_is_semantics P_is_semantics
  h_all_semantics : HasF G "all_semantics" st_all_semantics P_all_semantics
  h_check_semantics : HasF G "check_semantics" st_check_semantics P_check_semantics
  h_identities : HasF G "identities" st_identities P_identities
  h_is_identity : HasF G "is_identity" st_is_identity P_is_identity
  h_check_identity : HasF G "check_identity" st_check_identity P_check_identity
  h_holds : HasF G "holds" st_holds P_holds
  h_profile : HasF G "profile" st_profile P_profile
  h_profiles : HasF G "profiles" st_profiles P_profiles
  h_implies : HasF G "implies" st_implies P_implies
  h_parting : HasF G "parting" st_parting P_parting
  h_semantics_with : HasF G "semantics_with" st_semantics_with P_semantics_with
  h__are_identities : HasF G "_are_identities" st__are_identities P__are_identities
  h__law_taken : HasF G "_law_taken" st__law_taken P__law_taken
  h__law_pick : HasF G "_law_pick" st__law_pick P__law_pick
  h__law_alike : HasF G "_law_alike" st__law_alike P__law_alike
  h__law_semantics : HasF G "_law_semantics" st__law_semantics P__law_semantics
  h__law_names : HasF G "_law_names" st__law_names P__law_names
  h__law_holds : HasF G "_law_holds" st__law_holds P__law_holds
  h__law_every : HasF G "_law_every" st__law_every P__law_every
  h__law_profile : HasF G "_law_profile" st__law_profile P__law_profile
  h__law_bad : HasF G "_law_bad" st__law_bad P__law_bad
section
variable {G : Gm}
theorem fo_is_semantics (B : Tp G) (h : Df G) : ∃ f, FO G 2 "is_semantics" 1 f ∧ SpSem f := by
  exact ⟨_, fo_has (k := 1) h.h_is_semantics sc_is_semantics (s_is_semantics B (by omega)), sem⟩
theorem fo_check_semantics (B : Tp G) (h : Df G) : ∃ f, FO G 3 "check_semantics" 1 f ∧ SpChkS f := by
  obtain ⟨g0, F0, p0⟩ := fo_is_semantics B h
  exact ⟨_, fo_has (k := 2) h.h_check_semantics sc_check_semantics (s_check_semantics B F0 (by omega)), chkS p0⟩
theorem fo__law_pick (B : Tp G) (h : Df G) : ∃ f, FO G 2 "_law_pick" 2 f ∧ SpPick f := by
  exact ⟨_, fo_has (k := 1) h.h__law_pick sc__law_pick (s__law_pick B (fo_taken h.h__law_taken B) (by omega)), pick taken⟩
theorem fo__law_semantics (B : Tp G) (h : Df G) : ∃ f, FO G 3 "_law_semantics" 1 f ∧ SpLawSem f := by
  obtain ⟨g0, F0, p0⟩ := fo__law_pick B h
  exact ⟨_, fo_has (k := 2) h.h__law_semantics sc__law_semantics (s__law_semantics F0 (by omega)), law_sem p0⟩
theorem fo_alike0 (B : Tp G) (h : Df G) : ∃ f, FO G 3 "_law_alike" 2 f ∧ SpAlikeM f 0 := by
  exact ⟨_, fo_has (k := 2) h.h__law_alike sc__law_alike (s__law_alike B (fo_zero (k := 2) h.h__law_alike rfl) (by omega)), alike_zero⟩
theorem fo_alike1 (B : Tp G) (h : Df G) : ∃ f, FO G 4 "_law_alike" 2 f ∧ SpAlikeM f 1 := by
  obtain ⟨g0, F0, p0⟩ := fo_alike0 B h
  exact ⟨_, fo_has (k := 3) h.h__law_alike sc__law_alike (s__law_alike B F0 (by omega)), alike_step p0⟩
theorem fo_alike2 (B : Tp G) (h : Df G) : ∃ f, FO G 5 "_law_alike" 2 f ∧ SpAlikeM f 2 := by
  obtain ⟨g0, F0, p0⟩ := fo_alike1 B h
  exact ⟨_, fo_has (k := 4) h.h__law_alike sc__law_alike (s__law_alike B F0 (by omega)), alike_step p0⟩
theorem fo_is_identity (B : Tp G) (h : Df G) : ∃ f, FO G 1 "is_identity" 1 f ∧ (∀ i ∈ idns, f [.dat (sD i.name)] = pur (.bool true)) := by
  exact ⟨_, fo_has (k := 0) h.h_is_identity sc_is_identity (s_is_identity B), is_ok⟩
theorem fo_check_identity (B : Tp G) (h : Df G) : ∃ f, FO G 2 "check_identity" 1 f ∧ SpChkI f := by
  obtain ⟨g0, F0, p0⟩ := fo_is_identity B h
  exact ⟨_, fo_has (k := 1) h.h_check_identity sc_check_identity (s_check_identity B F0 (by omega)), chkI_ok p0⟩
theorem fo_identities (B : Tp G) (h : Df G) : ∃ f, FO G 1 "identities" 0 f ∧ SpIds f := by
  exact ⟨_, fo_has (k := 0) h.h_identities sc_identities (s_identities B), ids_ok⟩
theorem fo__law_names (B : Tp G) (h : Df G) : ∃ f, FO G 1 "_law_names" 0 f ∧ SpLNames f := by
  exact ⟨_, fo_has (k := 0) h.h__law_names sc__law_names (s__law_names), lnames_ok⟩
theorem fo__law_holds (B : Tp G) (h : Df G) : ∃ f, FO G 2 "_law_holds" 2 f ∧ SpHolds f := by
  obtain ⟨g0, F0, p0⟩ := fo__law_names B h
  exact ⟨_, fo_has (k := 1) h.h__law_holds sc__law_holds (s__law_holds B F0 (by omega) (by omega)), lholds_ok p0⟩
theorem fo_holds (B : Tp G) (h : Df G) : ∃ f, FO G 4 "holds" 2 f ∧ SpHolds f := by
  obtain ⟨g0, F0, p0⟩ := fo_check_semantics B h
  obtain ⟨g1, F1, p1⟩ := fo_check_identity B h
  exact ⟨_, fo_has (k := 3) h.h_holds sc_holds (s_holds B F0 (by omega) F1 (by omega) (by omega)), holds_ok p0 p1⟩
end
end K08
noncomputable section
namespace K08
open PySem PySem.Spec PyProof.Rows L2 DL LW PW
section
variable {G : Gm}
theorem fo_isI (B : Tp G) (h : Df G) : ∃ f, FO G 1 "is_identity" 1 f ∧ SpIsI f := ⟨_, fo_has (k := 0) h.h_is_identity sc_is_identity (s_is_identity B), isI_ok⟩
theorem fo_are (B : Tp G) (h : Df G) : ∃ f, FO G 2 "_are_identities" 1 f ∧ SpAre f := by
  obtain ⟨g0, F0, p0⟩ := fo_isI B h
  exact ⟨_, fo_has (k := 1) h.h__are_identities sc__are_identities (s__are_identities B F0 (by omega)), are_ok p0⟩
theorem fo_all (B : Tp G) (h : Df G) : ∃ f, FO G 1 "all_semantics" 0 f ∧ SpAllS f := ⟨_, fo_has (k := 0) h.h_all_semantics sc_all_semantics (s_all_semantics B), all_ok⟩
theorem fo_every (B : Tp G) (h : Df G) : ∃ f, FO G 1 "_law_every" 0 f ∧ SpEvery f := ⟨_, fo_has (k := 0) h.h__law_every sc__law_every s__law_every, every_ok⟩
theorem fo_prof (B : Tp G) (h : Df G) : ∃ f, FO G 5 "profile" 1 f ∧ SpProf f := by
  obtain ⟨g0, F0, p0⟩ := fo_check_semantics B h
  obtain ⟨g1, F1, p1⟩ := fo_identities B h
  obtain ⟨g2, F2, p2⟩ := fo_holds B h
  exact ⟨_, fo_has (k := 4) h.h_profile sc_profile (s_profile B F0 (by omega) F1 (by omega) F2 (by omega)), prof_ok p0 p1 p2⟩
theorem fo_lprof (B : Tp G) (h : Df G) : ∃ f, FO G 3 "_law_profile" 1 f ∧ SpProf f := by
  obtain ⟨g1, F1, p1⟩ := fo__law_names B h
  obtain ⟨g2, F2, p2⟩ := fo__law_holds B h
  exact ⟨_, fo_has (k := 2) h.h__law_profile sc__law_profile (s__law_profile B F1 (by omega) F2 (by omega)), lprof_ok p1 p2⟩
theorem fo_profs (B : Tp G) (h : Df G) : ∃ f, FO G 6 "profiles" 0 f ∧ SpProfs f := by
  obtain ⟨g0, F0, p0⟩ := fo_all B h
  obtain ⟨g1, F1, p1⟩ := fo_prof B h
  exact ⟨_, fo_has (k := 5) h.h_profiles sc_profiles (s_profiles B F0 (by omega) F1 (by omega) (by omega)), profs_ok p0 p1⟩
theorem fo_part (B : Tp G) (h : Df G) : ∃ f, FO G 5 "parting" 2 f ∧ SpPart f := by
  obtain ⟨g0, F0, p0⟩ := fo_check_identity B h
  obtain ⟨g1, F1, p1⟩ := fo_all B h
  obtain ⟨g2, F2, p2⟩ := fo_holds B h
  exact ⟨_, fo_has (k := 4) h.h_parting sc_parting (s_parting F0 (by omega) F1 (by omega) F2 (by omega)), part_ok p0 p1 p2⟩
theorem fo_imp (B : Tp G) (h : Df G) : ∃ f, FO G 6 "implies" 2 f ∧ SpImp f := by
  obtain ⟨g0, F0, p0⟩ := fo_part B h
  exact ⟨_, fo_has (k := 5) h.h_implies sc_implies (s_implies F0 (by omega)), imp_ok p0⟩
theorem fo_with (B : Tp G) (h : Df G) : ∃ f, FO G 5 "semantics_with" 1 f ∧ SpWith f := by
  obtain ⟨g0, F0, p0⟩ := fo_are B h
  obtain ⟨g1, F1, p1⟩ := fo_all B h
  obtain ⟨g2, F2, p2⟩ := fo_holds B h
  exact ⟨_, fo_has (k := 4) h.h_semantics_with sc_semantics_with (s_semantics_with B F0 (by omega) F1 (by omega) F2 (by omega)), with_ok p0 p1 p2⟩
end
end K08
noncomputable section
namespace K08
open PySem PySem.Spec PyProof.Rows L2 DL LW PW
section
variable {α : Type} {f : α → D}
theorem sh_l (h : ∀ x, PyData.canLay0 (f x) = true ∧ PyData.depth (f x) ≤ 3) (L : List α) : SeqAt.shaped (.list (L.map f)) = true := by
  have a : ∀ L : List α, PyData.canLayAll0 (L.map f) = true := by
    intro L
    induction L with
    | nil => rfl
    | cons s L ih => simp [PyData.canLayAll0, (h s).1, ih]
  have b : ∀ L : List α, PyData.depthAll (L.map f) ≤ 3 := by
    intro L
    induction L with
    | nil => simp [PyData.depthAll]
    | cons s L ih => simp only [List.map_cons, PyData.depthAll]; have := (h s).2; omega
  have := b L
  simp [SeqAt.shaped, PyData.canLay0, PyData.depth, a]
  omega
theorem eqv_l (L : List α) : PyData.eqv (.list (L.map f)) (.list []) = decide (L = []) := by
  cases L <;> simp [PyData.eqv, PyData.eqvAll]
theorem eq_l (h : ∀ x, PyData.canLay0 (f x) = true ∧ PyData.depth (f x) ≤ 3) (L : List α) : eqD (.list (L.map f)) (.list []) = some (decide (L = [])) := by
  unfold eqD
  rw [if_pos ⟨sh_l h L, sh_l (f := f) h []⟩, eqv_l]
theorem ne_l (h : ∀ x, PyData.canLay0 (f x) = true ∧ PyData.depth (f x) ≤ 3) (L : List α) : neD (.list (L.map f)) (.list []) = some (decide (L ≠ [])) := by
  unfold neD
  rw [if_pos ⟨sh_l h L, sh_l (f := f) h []⟩, eqv_l]
  simp
end
theorem lay_wy (w : Wy) : PyData.canLay0 (wy w) = true ∧ PyData.depth (wy w) ≤ 3 := by
  obtain ⟨a, b, c, n, e⟩ := w
  refine ⟨?_, by simp [wayD, PyData.depth, PyData.depthAll]⟩
  cases a <;> cases b <;> cases c <;> cases e <;> simp [wayD, PyData.canLay0, PyData.canLayAll0, strOk_of]
theorem lay_nm (i : Idn) : PyData.canLay0 (sD i.name) = true ∧ PyData.depth (sD i.name) ≤ 3 := ⟨lay_str _, by simp [PyData.depth]⟩
theorem okA_way (w : Wy) : OkA 1 (wy w) := by
  obtain ⟨a, b, c, n, e⟩ := w
  refine .inr ⟨_, .inl rfl, by show 5 ≤ lim; rw [lim_eq]; decide, fun x hx => ?_⟩
  simp only [List.mem_cons, List.not_mem_nil, or_false] at hx
  rcases hx with rfl | rfl | rfl | rfl | rfl
  · cases a <;> exact ⟨_, rfl⟩
  · cases b <;> exact ⟨_, rfl⟩
  · cases c <;> exact ⟨_, rfl⟩
  · exact ⟨_, rfl⟩
  · cases e <;> exact ⟨_, rfl⟩
theorem okA_ways (l : List Wy) (h : l.length ≤ 48) : OkA 2 (.tuple (l.map wy)) := .inr ⟨_, .inl rfl, by rw [List.length_map, lim_eq]; omega, fun x hx => by
  obtain ⟨w, _, rfl⟩ := List.mem_map.mp hx
  exact okA_way w⟩
theorem okA_up {d : D} (h : OkA 1 d) : OkA 2 d := by
  rcases h with h | ⟨ds, h1, h2, h3⟩
  · exact .inl h
  · exact .inr ⟨ds, h1, h2, fun x hx => .inl (h3 x hx)⟩
theorem okA_o (o : Option Wy) : OkA 2 (oW o) := by
  cases o with
  | none => exact .inl trivial
  | some w => exact okA_up (okA_way w)
theorem okA_b (b : Bool) : OkA 2 (.bool b) := .inl trivial
theorem okA_prof (w : Wy) : OkA 2 (profD w) := okA_up (.inr ⟨_, .inl rfl, by rw [List.length_map, lim_eq]; have := prof_len w; omega, fun x hx => by
  obtain ⟨i, _, rfl⟩ := List.mem_map.mp hx
  exact ⟨_, rfl⟩⟩)
theorem alk {fa : LW.Fs} (ha : SpAlikeM fa 2) {d : D} (h : OkA 2 d) {P L : Ev → Mn D} {ev : Ev} (hp : P ev = pur d) (hl : L ev = pur d) : dNot (dTru (dCl 2 fa (dCons P (dCons L (dNil))))) ev = pur false := by
  have z := ha d h
  simp [hp, hl, z, truD]
theorem chk0 {A : Ev → Mn Bool} {ev : Ev} (h1 : A ev = pur false) : pIf A (pRet (dLit (.bool false))) sNil ev = nxM ev := by
  simp [h1]
theorem chk {A B : Ev → Mn Bool} {ev : Ev} (h1 : A ev = pur false) (h2 : B ev = pur false) : pIf (dOr A B) (pRet (dLit (.bool false))) sNil ev = nxM ev := by
  simp [h1, h2]
/-- names drawn by a test -/
theorem compGo_gv {α : Type} {t : Tgt} {cond : Ev → Mn Bool} {elt : Ev → Mn D} {ev : Ev} (f : α → D) : ∀ l : List α, (∀ x ∈ l, ∃ es, t.of (f x) = some es ∧ Gv (cond (setE ev t.ix es)) (fun _ => True) ∧ elt (setE ev t.ix es) = pur (f x)) → Gv (compGo t cond elt ev (l.map f)) fun ds => ∃ l' : List α, l'.Sublist l ∧ ds = l'.map f
  | [], _ => Gv.pur ⟨[], List.Sublist.refl _, rfl⟩
  | x :: l, h => by
    obtain ⟨es, e1, e2, e3⟩ := h x List.mem_cons_self
    have ih := compGo_gv f l fun y z => h y (List.mem_cons_of_mem _ z)
    have nx : ∀ {α : Type} (a : α), nox (pur a) = pur a := fun a => rfl
    rw [List.map_cons, compGo, e1, lft_some', bnd_pur]
    have e2' : Gv (nox (cond (setE ev t.ix es))) (fun _ => True) := fun rs => by
      obtain ⟨b, rs', q, _⟩ := e2 rs
      exact ⟨b, rs', by unfold nox; rw [q], trivial⟩
    refine Gv.bnd e2' fun b _ => ?_
    cases b with
    | true =>
      rw [if_pos rfl, e3, nx, bnd_pur]
      refine Gv.bnd ih fun ds ⟨l', h1, h2⟩ => ?_
      subst h2
      exact Gv.pur ⟨x :: l', h1.cons₂ x, rfl⟩
    | false =>
      rw [if_neg (by decide)]
      exact ih.imp fun ds ⟨l', h1, h2⟩ => ⟨l', h1.cons x, h2⟩
theorem nm_nd : (idns.map fun i => Str.ofString i.name).Nodup := of_decide_eq_true (by kernel_rfl)
theorem wnt_sub {l : List Idn} (h : l.Sublist idns) : Wnt l := ⟨fun i hi => h.subset hi, nm_nd.sublist (h.map _), Nat.le_trans h.length_le (by decide)⟩
theorem wnt_rev {l : List Idn} (h : Wnt l) : Wnt l.reverse := ⟨fun i hi => h.sub i (List.mem_reverse.mp hi), by rw [List.map_reverse]; exact (List.reverse_perm _).nodup_iff.mpr h.nd, by rw [List.length_reverse]; exact h.len⟩
end K08
noncomputable section
namespace K08
open PySem PySem.Spec PyProof.Rows L2 DL LW PW
structure Sps (fal fpi fna fho fpa fim ftk fwi : LW.Fs) : Prop where
  ali : SpAlikeM fal 2
  pi : SpPick fpi
  na : SpLNames fna
  ho : PW.SpHolds fho
  pa : SpPart fpa
  im : SpImp fim
  tk : SpTk ftk
  wi : SpWith fwi
abbrev EV : D := .list (allW.map wy)
def LEv (ev : Ev) : Prop := ∃ w s4 s5 s6 s7 s8 s9 s10 s11, ev = [.hid, .row, .dat (wy w), .dat EV, s4, s5, s6, s7, s8, s9, s10, s11]
def GEv (ev : Ev) : Prop := ∃ w s4 s5 s6 s7 ws s9 s10 s11, Wnt ws ∧ ev = [.hid, .row, .dat (wy w), .dat EV, s4, s5, s6, s7, .dat (.tuple (nmD ws)), s9, s10, s11]
theorem GEv.l {ev : Ev} (h : GEv ev) : LEv ev := by
  obtain ⟨w, s4, s5, s6, s7, ws, s9, s10, s11, _, rfl⟩ := h
  exact ⟨w, s4, s5, s6, s7, _, s9, s10, s11, rfl⟩
section
variable {fal fpi fna fho fpa fim ftk fwi : LW.Fs}
theorem due_set (S : Sps fal fpi fna fho fpa fim ftk fwi) (w : Wy) (i : Idn) (hi : i ∈ idns) (j : Idn) (hj : j ∈ idns) (s4 s7 s8 s9 s10 s11 : DL.Slot) :
    pSet 7 (dComp [10] (dItm (dVar 3)) (.name 10) (dAnd (dTru (dCl 2 fho (dCons (dVar 10) (dCons (dVar 5) (dNil))))) (dNot (dTru (dCl 2 fho (dCons (dVar 10) (dCons (dVar 6) (dNil))))))) (dVar 10)) [.hid, .row, .dat (wy w), .dat EV, s4, .dat (sD i.name), .dat (sD j.name), s7, s8, s9, s10, s11] = nxM [.hid, .row, .dat (wy w), .dat EV, s4, .dat (sD i.name), .dat (sD j.name), .dat (.list ((allW.filter (prt i j)).map wy)), s8, s9, s10, s11] := by
  have it : itmD EV = some (allW.map wy) := rfl
  have go := compGo_flt (t := .name 10) (cond := dAnd (dTru (dCl 2 fho (dCons (dVar 10) (dCons (dVar 5) (dNil))))) (dNot (dTru (dCl 2 fho (dCons (dVar 10) (dCons (dVar 6) (dNil))))))) (elt := dVar 10) (ev := [.hid, .row, .dat (wy w), .dat EV, s4, .dat (sD i.name), .dat (sD j.name), s7, s8, s9, .hid, s11]) wy wy (prt i j) allW fun x _ => by
    have k1 := S.ho x.1 x.2.1 x.2.2.1 x.2.2.2.1 x.2.2.2.2 i hi
    have k2 := S.ho x.1 x.2.1 x.2.2.1 x.2.2.2.1 x.2.2.2.2 j hj
    refine ⟨_, rfl, ?_, by simp⟩
    cases h1 : hoW x i <;> cases h2 : hoW x j <;> simp [k1, k2, h1, h2, truD, prt]
  have ln : (allW.filter (prt i j)).length ≤ sizeLine := big_ok (by
    have := List.length_filter_le (prt i j) allW
    rw [allW_len] at this
    rw [lim_eq]; omega)
  simp [it, go, ln]
theorem due_chk (S : Sps fal fpi fna fho fpa fim ftk fwi) (w : Wy) (i : Idn) (hi : i ∈ idns) (j : Idn) (hj : j ∈ idns) (s4 s8 s9 s10 s11 : DL.Slot) :
    pIf (dOr (dNot (dTru (dCl 2 fal (dCons (dCl 2 fim (dCons (dVar 5) (dCons (dVar 6) (dNil)))) (dCons (dCmpE eqD (dVar 7) (dLst (dNil))) (dNil)))))) (dNot (dTru (dCl 2 fal (dCons (dCl 2 fpa (dCons (dVar 5) (dCons (dVar 6) (dNil)))) (dCons (dIf (dCmp neD (dVar 7) (dLst (dNil))) (dBin ixD (dVar 7) (dLit (.int 0))) (dLit .none)) (dNil))))))) (pRet (dLit (.bool false))) (sNil) [.hid, .row, .dat (wy w), .dat EV, s4, .dat (sD i.name), .dat (sD j.name), .dat (.list ((allW.filter (prt i j)).map wy)), s8, s9, s10, s11] = nxM [.hid, .row, .dat (wy w), .dat EV, s4, .dat (sD i.name), .dat (sD j.name), .dat (.list ((allW.filter (prt i j)).map wy)), s8, s9, s10, s11] := by
  have k1 := S.im i hi j hj
  have k2 := S.pa i hi j hj
  have hd : (allW.filter (prt i j)).head? = allW.find? (prt i j) := List.head?_filter
  have q1 := eq_l lay_wy (allW.filter (prt i j))
  have q2 := ne_l lay_wy (allW.filter (prt i j))
  generalize allW.filter (prt i j) = L at hd q1 q2 ⊢
  rw [← hd] at k1 k2
  have oe : ([] : List D).length ≤ sizeLine := Nat.zero_le _
  refine chk (alk S.ali (okA_b (decide (L.head? = none))) (by simp [k1]) ?_) (alk S.ali (okA_o L.head?) (by simp [k2]) ?_)
  · cases L with
    | nil => simp [-List.map_nil, q1]
    | cons x L => simp [-List.map_cons, q1]
  · cases L with
    | nil => simp [-List.map_nil, q2, oW]
    | cons x L =>
      have ix : ixD (.list ((x :: L).map wy)) (.int 0) = some (wy x) := atI_nat (j := 0) rfl
      simp [q2, oW, -List.map_cons, ix]
theorem good_set (S : Sps fal fpi fna fho fpa fim ftk fwi) (w : Wy) (ws : List Idn) (hw : Wnt ws) (s4 s5 s6 s7 s9 s10 s11 : DL.Slot) :
    pSet 9 (dComp [10] (dItm (dVar 3)) (.name 10) (dCmp eqD (dComp [11] (dItm (dVar 8)) (.name 11) (dNot (dTru (dCl 2 fho (dCons (dVar 10) (dCons (dVar 11) (dNil)))))) (dVar 11)) (dLst (dNil))) (dVar 10)) [.hid, .row, .dat (wy w), .dat EV, s4, s5, s6, s7, .dat (.tuple (nmD ws)), s9, s10, s11] = nxM [.hid, .row, .dat (wy w), .dat EV, s4, s5, s6, s7, .dat (.tuple (nmD ws)), .dat (.list ((withD ws).map wy)), s10, s11] := by
  have it : itmD EV = some (allW.map wy) := rfl
  have it2 : itmD (.tuple (nmD ws)) = some (nmD ws) := rfl
  have go := compGo_flt (t := .name 10) (cond := dCmp eqD (dComp [11] (dItm (dVar 8)) (.name 11) (dNot (dTru (dCl 2 fho (dCons (dVar 10) (dCons (dVar 11) (dNil)))))) (dVar 11)) (dLst (dNil))) (elt := dVar 10) (ev := [.hid, .row, .dat (wy w), .dat EV, s4, s5, s6, s7, .dat (.tuple (nmD ws)), s9, .hid, s11]) wy wy (fun x => ws.all (hoW x)) allW fun x _ => by
    have go2 := compGo_flt (t := .name 11) (cond := dNot (dTru (dCl 2 fho (dCons (dVar 10) (dCons (dVar 11) (dNil)))))) (elt := dVar 11) (ev := [.hid, .row, .dat (wy w), .dat EV, s4, s5, s6, s7, .dat (.tuple (nmD ws)), s9, .dat (wy x), .hid]) (fun i : Idn => sD i.name) (fun i : Idn => sD i.name) (fun i => !hoW x i) ws fun i hi => by
      have k := S.ho x.1 x.2.1 x.2.2.1 x.2.2.2.1 x.2.2.2.2 i (hw.sub i hi)
      exact ⟨_, rfl, by simp [k, truD], by simp⟩
    have ln2 : (ws.filter fun i => !hoW x i).length ≤ sizeLine := big_ok (by
      have := List.length_filter_le (fun i => !hoW x i) ws
      have := hw.len
      rw [lim_eq]; omega)
    have q := eq_l lay_nm (ws.filter fun i => !hoW x i)
    have e : decide ((ws.filter fun i => !hoW x i) = []) = ws.all (hoW x) := by
      rw [Bool.eq_iff_iff]
      simp [List.filter_eq_nil_iff]
    rw [e] at q
    exact ⟨_, rfl, by simp [it2, go2, ln2, q], by simp⟩
  have ln : (withD ws).length ≤ sizeLine := big_ok (by
    unfold withD
    have := List.length_filter_le (fun w => ws.all (hoW w)) allW
    rw [allW_len] at this
    rw [lim_eq]; omega)
  simp [it, go, ln]
theorem good_chk (S : Sps fal fpi fna fho fpa fim ftk fwi) (w : Wy) (ws : List Idn) (hw : Wnt ws) (s4 s5 s6 s7 s10 s11 : DL.Slot) :
    pIf (dNot (dTru (dCl 2 fal (dCons (dCl 1 fwi (dCons (dVar 8) (dNil))) (dCons (dFn tupleD (dCons (dVar 9) (dNil))) (dNil)))))) (pRet (dLit (.bool false))) (sNil) [.hid, .row, .dat (wy w), .dat EV, s4, s5, s6, s7, .dat (.tuple (nmD ws)), .dat (.list ((withD ws).map wy)), s10, s11] = nxM [.hid, .row, .dat (wy w), .dat EV, s4, s5, s6, s7, .dat (.tuple (nmD ws)), .dat (.list ((withD ws).map wy)), s10, s11] := by
  have k := S.wi.yes ws hw
  have ln : (withD ws).length ≤ 48 := by
    unfold withD
    have := List.length_filter_le (fun w => ws.all (hoW w)) allW
    rwa [allW_len] at this
  exact chk0 (alk S.ali (okA_ways (withD ws) ln) (by simp [k]) (by simp [tupleD]))
theorem wanted_set (S : Sps fal fpi fna fho fpa fim ftk fwi) (w : Wy) (s4 s5 s6 s7 s8 s9 s10 s11 : DL.Slot) :
    GvS (pSet 8 (dFn tupleD (dCons (dComp [11] (dItm (dCl 0 fna (dNil))) (.name 11) (dCmp eqD (dCl 2 ftk (dRow 1 (dCons (dLit (.int 6)) (dNil)))) (dLit (.int 0))) (dVar 11)) (dNil))) [.hid, .row, .dat (wy w), .dat EV, s4, s5, s6, s7, s8, s9, s10, s11]) fun ev => ∃ ws, Wnt ws ∧ ev = [.hid, .row, .dat (wy w), .dat EV, s4, s5, s6, s7, .dat (.tuple (nmD ws)), s9, s10, s11] := by
  have na : fna [] = pur (.list (nmD idns)) := S.na
  have it : itmD (.list (nmD idns)) = some (nmD idns) := rfl
  have go := compGo_gv (t := .name 11) (cond := dCmp eqD (dCl 2 ftk (dRow 1 (dCons (dLit (.int 6)) (dNil)))) (dLit (.int 0))) (elt := dVar 11) (ev := [.hid, .row, .dat (wy w), .dat EV, s4, s5, s6, s7, s8, s9, s10, .hid]) (fun i : Idn => sD i.name) idns fun i _ => by
    refine ⟨_, rfl, ?_, by simp⟩
    simp
    exact Gv.bnd (S.tk 6 (by decide) (by decide)) fun d ⟨x, _, _, e⟩ => by
      subst e
      simp
      exact Gv.pur trivial
  simp [na, it, bnS_bnd, bnd_bnd]
  refine GvS.bnS go fun ds ⟨l, hl, e⟩ => ?_
  subst e
  have ln : l.length ≤ sizeLine := big_ok (by have := hl.length_le; have z : idns.length = 26 := rfl; rw [lim_eq]; omega)
  simp [ln, tupleD]
  exact GvS.nx ⟨l, wnt_sub hl, rfl⟩
theorem turned_set (S : Sps fal fpi fna fho fpa fim ftk fwi) (w : Wy) (ws : List Idn) (hw : Wnt ws) (s4 s5 s6 s7 s9 s10 s11 : DL.Slot) :
    GvS (pSet 8 (dIf (dCmp eqD (dCl 2 ftk (dRow 1 (dCons (dLit (.int 2)) (dNil)))) (dLit (.int 0))) (dRev (dVar 8)) (dVar 8)) [.hid, .row, .dat (wy w), .dat EV, s4, s5, s6, s7, .dat (.tuple (nmD ws)), s9, s10, s11]) fun ev => ∃ ws, Wnt ws ∧ ev = [.hid, .row, .dat (wy w), .dat EV, s4, s5, s6, s7, .dat (.tuple (nmD ws)), s9, s10, s11] := by
  have rv : revD (.tuple (nmD ws)) = some (.tuple (nmD ws.reverse)) := by
    exact congrArg some (congrArg PyData.tuple (List.map_reverse).symm)
  simp [bnS_bnd, bnd_bnd]
  refine GvS.bnS (S.tk 2 (by decide) (by decide)) fun d ⟨x, _, _, e⟩ => ?_
  subst e
  simp
  by_cases h : x = 0
  · subst h
    simp [rv]
    exact GvS.nx ⟨ws.reverse, wnt_rev hw, by simp⟩
  · simp [h]
    exact GvS.nx ⟨ws, hw, rfl⟩
theorem name_pick (S : Sps fal fpi fna fho fpa fim ftk fwi) (w : Wy) (s4 s5 s6 s7 s8 s9 s10 s11 : DL.Slot) :
    GvS (pTgt (.tup [5, 6]) (dTup (dCons (dCl 2 fpi (dRow 1 (dCons (dCl 0 fna (dNil)) (dNil)))) (dCons (dCl 2 fpi (dRow 1 (dCons (dCl 0 fna (dNil)) (dNil)))) (dNil)))) [.hid, .row, .dat (wy w), .dat EV, s4, s5, s6, s7, s8, s9, s10, s11]) fun ev => ∃ i ∈ idns, ∃ j ∈ idns, ev = [.hid, .row, .dat (wy w), .dat EV, s4, .dat (sD i.name), .dat (sD j.name), s7, s8, s9, s10, s11] := by
  have na : fna [] = pur (.list (nmD idns)) := S.na
  have l0 : 0 < (nmD idns).length := by rw [List.length_map]; decide
  have l1 : (nmD idns).length < 1000 := by rw [List.length_map]; decide
  simp [na, bnS_bnd, bnd_bnd]
  refine GvS.bnS (S.pi _ l0 l1) fun d m1 => ?_
  obtain ⟨i, hi, rfl⟩ := List.mem_map.mp m1
  refine GvS.bnS (S.pi _ l0 l1) fun d m2 => ?_
  obtain ⟨j, hj, rfl⟩ := List.mem_map.mp m2
  exact GvS.nx ⟨i, hi, j, hj, rfl⟩
theorem turn_ok (S : Sps fal fpi fna fho fpa fim ftk fwi) (ev : Ev) (h : LEv ev) : GvS (turnB fal fpi fna fho fpa fim ftk fwi ev) GEv := by
  obtain ⟨w, s4, s5, s6, s7, s8, s9, s10, s11, rfl⟩ := h
  unfold turnB
  rw [seqM_eq]
  refine GvS.sq (name_pick S w s4 s5 s6 s7 s8 s9 s10 s11) fun ev ⟨i, hi, j, hj, e⟩ => ?_
  subst e
  rw [seqM_eq, due_set S w i hi j hj, sq_nx, seqM_eq, due_chk S w i hi j hj, sq_nx, seqM_eq]
  refine GvS.sq (wanted_set S w s4 _ _ _ s8 s9 s10 s11) fun ev ⟨ws, hw, e⟩ => ?_
  subst e
  rw [seqM_eq]
  refine GvS.sq (turned_set S w ws hw s4 _ _ _ s9 s10 s11) fun ev ⟨ws, hw, e⟩ => ?_
  subst e
  rw [seqM_eq, good_set S w ws hw, sq_nx, good_chk S w ws hw]
  exact GvS.nx ⟨w, s4, _, _, _, ws, _, s10, s11, hw, rfl⟩
end
end K08
noncomputable section
namespace K08
open PySem PySem.Spec PyProof.Rows L2 DL LW PW
section
variable {fal fpi fna fho fpa fim ftk fwi fev fse flp fpr fas fps : LW.Fs}
theorem rng3 (ev : Ev) : dRng rng1 (dCons (dLit (.int 3)) (dNil)) ev = pur (rngD 0 ((3 : Nat) : Int)) := dRng_pur (ss := [.dat (.int ((3 : Nat) : Int))]) (ds := [.int ((3 : Nat) : Int)]) rfl rfl (rng_len 3 (by rw [lim_eq]; decide))
theorem loop_ok (S : Sps fal fpi fna fho fpa fim ftk fwi) (ev : Ev) (h : LEv ev) : GvS (dS3 fal fpi fna fho fpa fim ftk fwi ev) GEv := by
  have go : ∀ (ds : List D) (ev : Ev), LEv ev → (ds = [] → GEv ev) → GvS (forGo (.name 4) (turnB fal fpi fna fho fpa fim ftk fwi) ds ev) GEv := by
    intro ds
    induction ds with
    | nil => intro ev _ h; exact GvS.nx (h rfl)
    | cons d ds ih =>
      intro ev h _
      obtain ⟨w, s4, s5, s6, s7, s8, s9, s10, s11, rfl⟩ := h
      rw [forGo_cons, tgt_name, lft_some', bnS_pur, tix_name]
      exact GvS.wl (turn_ok S _ ⟨_, _, _, _, _, _, _, _, _, rfl⟩) fun ev g => ih ev g.l fun _ => g
  unfold dS3
  rw [sFor_f, rng3, bnS_pur]
  exact go _ ev h fun z => by cases z
def IEv (ev : Ev) : Prop := ∃ w : Wy, ev = [.hid, .row, .dat (wy w), .dat EV, .hid, .hid, .hid, .hid, .hid, .hid, .hid, .hid]
theorem s1_ok (h1 : SpLawSem fse) (h2 : SpEvery fev) : GvS (dS1 fev fse [.hid, .row, .hid, .hid, .hid, .hid, .hid, .hid, .hid, .hid, .hid, .hid]) IEv := by
  have h2' : fev [] = pur EV := h2
  simp [dS1, pPar_eq, h2', bnS_bnd, bnd_bnd]
  refine GvS.bnS h1 fun d ⟨a, b, c, n, e, ed⟩ => ?_
  subst ed
  exact GvS.nx ⟨(a, b, c, n, e), rfl⟩
theorem s2_ok (ha : SpAlikeM fal 2) (h1 : SpProf flp) (h2 : SpProf fpr) (h3 : SpAllS fas) (w : Wy) (s4 s5 s6 s7 s8 s9 s10 s11 : DL.Slot) :
    dS2 fal flp fpr fas [.hid, .row, .dat (wy w), .dat EV, s4, s5, s6, s7, s8, s9, s10, s11] = nxM [.hid, .row, .dat (wy w), .dat EV, s4, s5, s6, s7, s8, s9, s10, s11] := by
  have h3' : fas [] = pur (.tuple (allW.map wy)) := h3
  have k1 := h1 w
  have k2 := h2 w
  unfold dS2
  exact chk (alk ha (okA_ways allW (by rw [allW_len]; decide)) (by simp [h3']) (by simp [tupleD])) (alk ha (okA_prof w) (by simp [k2]) (by simp [k1]))
theorem s4_ok (ha : SpAlikeM fal 2) (h1 : SpProf flp) (h2 : SpProfs fps) (w : Wy) (s4 s5 s6 s7 s8 s9 s10 s11 : DL.Slot) :
    dS4 fal flp fps [.hid, .row, .dat (wy w), .dat EV, s4, s5, s6, s7, s8, s9, s10, s11] = nxM [.hid, .row, .dat (wy w), .dat EV, s4, s5, s6, s7, s8, s9, s10, s11] := by
  have h2' : fps [] = pur (.tuple PO) := h2
  have it : itmD EV = some (allW.map wy) := rfl
  have go := compGo_all (t := .name 10) (e := dCl 1 flp (dCons (dVar 10) (dNil))) (ev := [.hid, .row, .dat (wy w), .dat EV, s4, s5, s6, s7, s8, s9, .hid, s11]) wy profD allW fun x _ => ⟨_, rfl, by simp [h1 x]⟩
  have ln : allW.length ≤ sizeLine := big_ok (by rw [allW_len, lim_eq]; decide)
  unfold dS4
  exact chk0 (alk ha okA_PO (by simp [h2']) (by simp [it, go, ln, one_pds, tupleD]))
/-- the lambda: what is drawn is refused -/
theorem lam_ok (h1 : SpPick fpi) (h2 : SpWith fwi) (ev : Ev) (h : GEv ev) (rs : RS) : ∃ rs', dLam fpi fwi ev rs = some (.exc "BadIdentities" none, rs') := by
  obtain ⟨w, s4, s5, s6, s7, ws, s9, s10, s11, hw, rfl⟩ := h
  have ls : listD [.tuple (nmD ws)] = some (.list (nmD ws)) := rfl
  have ln : ws.length ≤ sizeLine := big_ok (by have := hw.len; rw [lim_eq]; omega)
  have o : ∀ k : Nat, k ≤ 6 → k ≤ sizeLine := fun k hk => big_ok (by rw [lim_eq]; omega)
  obtain ⟨d, rs', e, m⟩ := h1 [.none, .list (nmD ws), .tuple [sD "not in", sD "not in"], .tuple [.str "Not in"], sD "not in", .tuple [.none]] (by simp) (by simp) rs
  have bad : Bad d := by
    simp only [List.mem_cons, List.not_mem_nil, or_false] at m
    rcases m with rfl | rfl | rfl | rfl | rfl | rfl
    · exact .inl rfl
    · exact .inr (.inl ⟨_, rfl⟩)
    · exact .inr (.inr (.inl rfl))
    · exact .inr (.inr (.inr (.inl rfl)))
    · exact .inr (.inr (.inr (.inr (.inl rfl))))
    · exact .inr (.inr (.inr (.inr (.inr rfl))))
  refine ⟨rs', ?_⟩
  have k := h2.no d bad rs'
  have st : dLam fpi fwi [.hid, .row, .dat (wy w), .dat EV, s4, s5, s6, s7, .dat (.tuple (nmD ws)), s9, s10, s11] = bnd (fpi [.row, .dat (.list [.none, .list (nmD ws), .tuple [sD "not in", sD "not in"], .tuple [.str "Not in"], sD "not in", .tuple [.none]])]) fun d => fwi [.dat d] := by
    simp [dLam, ls, bnd_bnd, o]
  rw [st]
  unfold bnd
  rw [e]
  exact k
end
end K08
namespace K08
open PySem PySem.Spec PyProof.Rows L2 DL
theorem pss_given {X : Cx} {P : Prop} {b : List Stmt} {t : TS} (h : P → PSs X b t) : PSs X b (fun D σ H => P ∧ (σ.length = X.N.length → t D σ H)) := ⟨fun pins s σ H D I q => (h q.1).run pins s σ H D I (q.2 I.len)⟩
abbrev Nbad : List Str := ["work", "e"]
theorem scbad : FnScope Nbad ["work"] (defScope st__law_bad) := ⟨rfl, rfl, rfl, by decide +kernel, rfl, by decide +kernel, by decide +kernel⟩
structure BadF (G : Gm) (CS CB : Addr) : Prop where
  q : G.mg "QueryError" = some (.ref CS)
  b : G.mg "BadIdentities" = some (.ref CB)
  c : PySem.W.exmOne G.K (.ref CB) (.ref CS) = some true
  e : ExcC G.K CB
  k : PySem.W.kitOne G.K (.ref CB) (.ref CB) = some true
def TTbad (CB : Addr) : (XK → Hp → VK → Prop) → Hp → VK → Prop := fun tl H Q =>
  tl (fun cls dd H' => cls = .ref CB ∧ dd = none ∧ Q (.bl true) H') H (fun _ H' => Q (.bl false) H')
theorem bad_gives {G : Gm} {X : Cx} {CS CB g : Addr} {cdg : Value} {q : Str} (hK : X.K = G.K) (hmg : X.mg = G.mg) (F : BadF G CS CB) (B : Tp G) :
    LamX.GivesTo X Nbad "_law_bad" (defScope st__law_bad) g cdg (defBody st__law_bad) "work" q (TTbad CB) := by
  intro f c' s H Q tl act hc h
  refine ⟨_, pss_cons (ps_try_as (X := (cxOf C8.CX0 X.prog X.w X.K X.mg X.base Nbad "_law_bad" (defScope st__law_bad) g cdg X.A X.stack s H C8.E0).nox) (i := 1) (c := .ref CS)
      (tb := fun W D σ H => ∃ Ech : XK, (∀ cls d σ' H', Ech cls d H' → W cls d σ' H') ∧ σ[0]? = some (some (.ref f)) ∧ H c' = some (LamX.CodeO c' q) ∧ tl Ech H (fun _ H' => D.nx σ H'))
      (ts := fun a cls d D σ H => (cls = .ref CB ∧ d = none) ∧ (σ.length = Nbad.length → tSeq (tRet (tCB (rIsE X.K CB a) (tCons (fun σ H Q => ∃ v, σ[1]? = some (some v) ∧ Q v H) (tCons (tC (.ref CB)) tNil)))) tNext D σ H))
      rfl rfl scbad.nd rfl rfl ⟨rfl, by decide, .inl (by show X.mg _ = _; rw [hmg]; exact F.q)⟩ LamX.takes0 (fun W pn xe tk _ => ?_) (fun a oe cls d pn hz hf => ?_)) (pss_one (ps_ret pe_bl)), ?_⟩
  · refine ⟨fun pins s' σ H' D I h' => ?_⟩
    obtain ⟨Ech, hW, h1, h2, h3⟩ := h'
    exact (pss_one (ps_expr (act W pn xe Ech _ _ tk hW))).run pins s' σ H' D I ⟨h1, h2, h3⟩
  · refine pss_given fun ⟨e1, e2⟩ => ?_
    subst e1 e2
    have C : ExcC X.K CB := by rw [hK]; exact F.e
    exact pss_one (ps_ret (pe_callB (call_isE C hz hf) rfl (by show X.mg _ = none; rw [hmg]; exact B.b_isinstance) PyProof.Rows.boot_isinstance (pa_cons (pv 1) (pa_cons (pe_glob (v := .ref CB) (u := .ref CB) rfl (by show X.mg _ = _; rw [hmg]; exact F.b) rfl) pa_nil))))
  · have h0 : (L2.start Nbad [V.ref f])[0]? = some (some (V.ref f)) := rfl
    refine ⟨fun cls dd H' => cls = .ref CB ∧ dd = none ∧ Q (.bl true) H', fun cls d σ' H' ⟨e1, e2, e3⟩ => ?_, h0, hc, h⟩
    subst e1 e2
    refine ⟨true, by show PySem.W.exmOne X.K _ _ = _; rw [hK]; exact F.c, fun _ a ha => ⟨⟨rfl, rfl⟩, fun hl => ?_⟩, fun z => by cases z⟩
    have h1 : (σ'.set 1 (some (V.ref a)))[1]? = some (some (V.ref a)) := by
      rw [List.length_set] at hl
      exact List.getElem?_set_self (by rw [hl]; decide)
    exact ⟨_, h1, .ref CB, .ref CB, true, rfl, fun u r => r, by rw [hK]; exact F.k, e3⟩
end K08
namespace K08
open PySem PySem.Spec PyProof.Rows L2 DL LamX
section
variable {K : PySem.W.Frag} {M : Addr → Prop} {H H' : Hp} {r : Rw} {σ : L2.St} {ev : Ev} {rs rs' : RS}
theorem ext_lst (x : ExtN H H') {a : Addr} {xs : List V} (h : H a = some (.lst xs)) : H' a = some (.lst xs) := x _ _ h fun ps e => by cases e
theorem rd_lst (x : ExtN H H') {a : Addr} {xs : List V} (h : Rd H a (.lst xs)) : Rd H' a (.lst xs) := by
  rcases h with h | ⟨o, h⟩
  · exact .inl (x _ _ h fun ps e => by cases e)
  · exact .inr ⟨o, x _ _ h fun ps e => by cases e⟩
theorem sqt_extn (x : ExtN H H') {a : Addr} {xs : List V} (h : SqT K H a xs) : SqT K H' a xs := by
  rcases h with (h | ⟨o, h⟩) | h
  · exact .inl (.inl (x _ _ h fun ps e => by cases e))
  · exact .inl (.inr ⟨o, x _ _ h fun ps e => by cases e⟩)
  · exact .inr h
mutual
theorem da_extn (x : ExtN H H') : ∀ {v : V} {d : D}, Da K M H v d → Da K M H' v d
  | _, _, .non => .non
  | _, _, .bl b => .bl b
  | _, _, .int i => .int i
  | _, _, .str z => .str z
  | _, _, .lst h n t => .lst (ext_lst x h) n (dal_extn x t)
  | _, _, .tup h t => .tup (sqt_extn x h) (dal_extn x t)
  | _, _, .dct h t n => .dct (x _ _ h fun ps e => by cases e) (fun p z => ⟨sqt_extn x (t p z).1, (t p z).2⟩) n
  | _, _, .txd h n l t => .txd (x _ _ h fun ps e => by cases e) n l (dal_extn x t)
  | _, _, .fzt h n t => .fzt (x _ _ h fun ps e => by cases e) n (dal_extn x t)
theorem dal_extn (x : ExtN H H') : ∀ {vs : List V} {ds : List D}, DaL K M H vs ds → DaL K M H' vs ds
  | _, _, .nil => .nil
  | _, _, .cons h t => .cons (da_extn x h) (dal_extn x t)
end
theorem row_extn (x : ExtN H H') (h : RowAt K M H r rs) : RowAt K M H' r rs := by
  refine ⟨⟨ext_lst x h.1.1, h.1.2⟩, ?_⟩
  rcases h.2 with ⟨q, n⟩ | q
  · exact .inl ⟨rd_lst x q, n⟩
  · exact .inr q
theorem rel_extn (x : ExtN H H') (R : RelE K M r σ H ev rs) : RelE K M r σ H' ev rs := by
  refine ⟨R.mr, fun b m => ?_, row_extn x R.row, fun i s e => ?_, R.len⟩
  · obtain ⟨o, q, mu⟩ := R.ml b m
    cases o with
    | lst xs => exact ⟨_, ext_lst x q, trivial⟩
    | dK kvs => exact ⟨_, x _ _ q (fun ps e => by cases e), trivial⟩
    | _ => exact mu.elim
  · have q := R.slots i s e
    cases s with
    | hid => trivial
    | own _ => trivial
    | row => exact q
    | dat d => obtain ⟨v, h1, h2⟩ := q; exact ⟨v, h1, da_extn x h2⟩
theorem tabs_stp {T : List (Addr × Str)} (h : Tabs T H) (s : Stp r H H') {xs : List V} (hr : H r.a = some (.lst xs)) : Tabs T H' := fun p hp => by
  obtain ⟨ps, h1, h2, h3⟩ := h p hp
  have np : ∀ {b o}, H b = some o → (∀ ys, o ≠ .lst ys) → H' b = some o := fun {b o} e n => s b o (fun z => n xs (by rw [z, hr] at e; exact (Option.some.inj e).symm)) e
  refine ⟨ps, np h1 (fun ys e => by cases e), h2, fun pos cv hc => ?_⟩
  obtain ⟨c, e1, e2⟩ := h3 pos cv hc
  exact ⟨c, e1, np e2 fun ys e => by unfold CodeO at e; cases e⟩
end
structure FnB (G : Gm) : Prop where
  ex : ∃ (g : Addr) (oc : Value) (od : Option Addr) (kV doc pm cdv ct : Value) (an : Option Addr) (osl : Array (Option Value)), G.mg "_law_bad" = some (.ref g) ∧
    G.K.lookup g = some ⟨oc, od, .func (PySem.W.fnOf "_law_bad" "_law_bad" (defArgs st__law_bad) (defBody st__law_bad) (defScope st__law_bad) .none kV doc pm an cdv ct), osl⟩ ∧ PySem.W.codeIn G.K cdv "_law_bad" = true ∧ PySem.W.keepIn G.K (.ref g) = true ∧
    L2.Binds G.K (PySem.W.fnOf "_law_bad" "_law_bad" (defArgs st__law_bad) (defBody st__law_bad) (defScope st__law_bad) .none kV doc pm an cdv ct) ["work"] []
def noArgs : Arguments := { posonlyargs := [], args := [], vararg := none, kwonlyargs := [], kw_defaults := [], kwarg := none, defaults := [] }
theorem pe_bad {G : Gm} {X : Cx} {N : List Str} {k : Nat} {sc : Sx} {CS CB c P : Addr} {body : Expr} {scope : Scope} {p lpos pos : Pos} {fb : Ev → Mn D} (g : Gd G (k + 2) sc N X) (B : Tp G) (F : BadF G CS CB) (W : FnB G)
    (hg : glB sc "_law_bad" = true) (hcode : X.env.code = .ref c) (TB : TabB X.base X.mg c P) (L : LamS sc.sc scope)
    (hb : SE G k ⟨scope, fun _ => false⟩ N body fb) :
    PE X (.Call (.Name "_law_bad" p) [.Lambda noArgs body scope lpos] [] pos) (tLam [(P, X.env.qual ++ "<lambda>")] (TTbad CB) fun E => tE G.K G.mg (fun cls d _ H => E cls d H) fb) := by
  obtain ⟨gg, oc, od, kV, doc, pm, cdv, ct, an, osl, e1, e2, e3, e4, e5⟩ := W.ex
  refine pe_lamcall (Ng := Nbad) (a := "work") (k := k) (gl_of g hg) (by rw [g.hmg]; exact e1) (by rw [g.hK]; exact e4) (by rw [g.hK]; exact e2) (by rw [g.hK]; exact e3) (by rw [g.hK]; exact e5) scbad rfl (.inl rfl)
    (bad_gives g.hK g.hmg F B) TB hcode (List.mem_cons_self) (fun q hq _ => by cases hq with | head => rfl | tail _ z => cases z) g.room (by rw [g.hsc]; exact L) rfl (fun _ _ _ _ _ => rfl) (fun A outer s H E f c' hr => ?_)
  have g2 : Gd G k ⟨scope, fun _ => false⟩ N (lamCx X A outer s H E scope f c') := ⟨g.hN, g.nd, rfl, (fun x e => by cases e), rfl, hr, g.hP, g.hw, g.hK, g.hmg, g.hb⟩
  exact hb _ _ g2 (takes_of rfl rfl rfl rfl)
/-- its reading -/
theorem bad_read {G : Gm} {CS CB : Addr} (F : BadF G CS CB) {T : List (Addr × Str)} {fb : Ev → Mn D} {M : Addr → Prop} {r : Rw} {σ : L2.St} {H : Hp} {ev : Ev} {rs : RS} {Q : VK} (R : RelE G.K M r σ H ev rs) (hT : Tabs T H)
    (hf : ∃ rs', fb ev rs = some (.exc "BadIdentities" none, rs')) (h : ∀ H' rs', RelE G.K M r σ H' ev rs' → Tabs T H' → Q (.bl true) H') :
    tLam T (TTbad CB) (fun E => tE G.K G.mg (fun cls d _ H => E cls d H) fb) σ H Q := by
  refine ⟨hT, fun H1 x T1 => ?_⟩
  obtain ⟨rs', e⟩ := hf
  refine ⟨M, r, ev, rs, rel_extn x R, _, _, e, fun cls dd H' s w a => ?_⟩
  obtain ⟨⟨C, a1, a2⟩, a3⟩ := a
  have eC : C = CB := by
    rw [F.b] at a1
    cases a1
    rfl
  subst eC
  have R1 := rel_extn x R
  exact ⟨a2, a3, h H' rs' (R1.stp s w) (tabs_stp T1 s R1.row.1.1)⟩
end K08
noncomputable section
namespace HM
open PySem PySem.W PySem.Calls PyProof.Rows HandSHeadRun DL
theorem body_in (b : List Stmt) (p : Program) (cv : Value) (fa : Addr) (p2 : Pos) : (Γ0.enter (.body b (envOf p cv fa)) none p2).In A1 := by
  refine ⟨rfl, ?_, (fun l h => nomatch h), (fun g h => nomatch h), ?_⟩
  · show frameCount [(Code.builtin "claim.caller" {}, p2)] + (Code.body b (envOf p cv fa)).weight ≤ 100000
    have e : frameCount [(Code.builtin "claim.caller" {}, p2)] = frameCount [(Code.builtin "claim.caller" {}, default)] := rfl
    have e3 : (Code.body b (envOf p cv fa)).weight ≤ 900 := by
      unfold Code.weight Code.frames Code.isFrame Code.isCreation Code.isCaller
      simp
      split <;> omega
    have e4 : frameCount [(Code.builtin "claim.caller" {}, default)] ≤ 99000 := by decide +kernel
    rw [e]
    omega
  · show (Code.body b (envOf p cv fa)).cUnits + unitsOf [(Code.builtin "claim.caller" {}, p2)] ≤ 1000
    have e : unitsOf [(Code.builtin "claim.caller" {}, p2)] = unitsOf [(Code.builtin "claim.caller" {}, default)] := rfl
    have e4 : unitsOf [(Code.builtin "claim.caller" {}, default)] ≤ 100 := by decide +kernel
    have e3 : (Code.body b (envOf p cv fa)).cUnits ≤ 100 := by
      unfold Code.cUnits Code.frames Code.isFrame
      simp
    rw [e]
    omega
end HM
noncomputable section
namespace HM
open PySem PySem.W PySem.Calls PyProof.Rows HandSHeadRun DL
open L2 (defArgs defBody defScope)
section
variable {F : Spec1} {P : Program} {w : World} {K : PySem.W.Frag} {h base : Heap} {mg : Str → Option Value}
theorem says_all (c : obsK F K = valK F P w) : (F.facts.all (Fc.ok K) && (F.tds.all (fun q => (He.Fa.glo q.1).ok K && (match dicAt K q.1 with
    | some es => kesB K es.toList q.2
    | none => false)) && F.tts.all (fun q => (He.Fa.glo q.1).ok K && (match dicAt K q.1 with
    | some es => ketB K es.toList q.2
    | none => false)) && F.tfs.all (fun q => (He.Fa.glo q.1).ok K && (match dicAt K q.1 with
    | some es => kefB K es.toList q.2
    | none => false)))) = true := congrArg (fun z : Al1 => z.1) c
theorem fact (c : obsK F K = valK F P w) (i : Nat) {f : Fc} (hf : F.facts[i]? = some f := by rfl) : f.ok K = true :=
  List.all_eq_true.mp (Bool.and_eq_true_iff.mp (says_all c)).1 f (List.mem_of_getElem? hf)
theorem f_no (X : K.In h) (Gn : h.Ns mainGlobals mg) {x : Str} (c : (Fc.no x).ok K = true) : mg x = none := PySem.W.mg_none_of X Gn (He.eqO_ok c)
theorem f_con (X : K.In h) (Gn : h.Ns mainGlobals mg) {x : Str} {d : D} (c : (Fc.con x d).ok K = true) : GlD ⟨P, w, K, mg, base⟩ x d := by
  replace c : (match PySem.W.nsIn K mainGlobals x with
    | some (some u) => kdaB K 9 u d
    | _ => false) = true := c
  cases e : PySem.W.nsIn K mainGlobals x with
  | none => rw [e] at c; cases c
  | some o =>
    cases o with
    | none => rw [e] at c; cases c
    | some u =>
      rw [e] at c
      exact GlD.mk' (G := ⟨P, w, K, mg, base⟩) (PySem.W.mg_of X Gn e) (kda_ok c)
theorem f_ex (X : K.In h) (Gn : h.Ns mainGlobals mg) {x : Str} (c : (Fc.ex x).ok K = true) : ExcF ⟨P, w, K, mg, base⟩ x := by
  obtain ⟨c1, c2⟩ := Bool.and_eq_true_iff.mp (show ((He.Fa.glo x).ok K && (He.Fa.exc x).ok K) = true from c)
  obtain ⟨h1, h2, h3, h4⟩ := He.exc_ok c2
  exact ExcF.mk' (G := ⟨P, w, K, mg, base⟩) (He.glo_ok X Gn c1) h1 h2 h3 h4
theorem fn_at (c : obsK F K = valK F P w) (i : Nat) {d : He.FnD} (hd : F.fns[i]? = some d) : He.fnObs K d.at_ = d.val := by
  have e : F.fns.map (fun d => He.fnObs K d.at_) = F.fns.map He.FnD.val := congrArg (fun z : Al1 => z.2.1) c
  have e2 : (F.fns.map fun d => He.fnObs K d.at_)[i]? = (F.fns.map He.FnD.val)[i]? := by rw [e]
  rw [List.getElem?_map, List.getElem?_map, hd] at e2
  exact Option.some.inj e2
abbrev fnd (x : Str) (st : Stmt) : He.FnD := ⟨(x, none), x, x, defArgs st, defBody st, defScope st⟩
theorem f_fun (X : K.In h) (Gn : h.Ns mainGlobals mg) {x : Str} {st : Stmt} (c : obsK F K = valK F P w) (i j : Nat) (hi : F.fns[i]? = some (fnd x st)) (hj : F.facts[j]? = some (.fn x)) :
    ∃ oc od osl kV doc pm an cdv ct, mg x = some (.ref (He.ga K x)) ∧ K.lookup (He.ga K x) = some ⟨oc, od, .func (PySem.W.fnOf x x (defArgs st) (defBody st) (defScope st) .none kV doc pm an cdv ct), osl⟩ ∧ PySem.W.codeIn K cdv x = true ∧ PySem.W.keepIn K (.ref (He.ga K x)) = true := by
  have q := fact c j hj
  obtain ⟨c1, q⟩ := Bool.and_eq_true_iff.mp (show ((He.Fa.glo x).ok K && ((He.Fa.keep x).ok K && (He.Fa.code (x, none) x).ok K)) = true from q)
  obtain ⟨c2, c3⟩ := Bool.and_eq_true_iff.mp q
  obtain ⟨oc, od, osl, kV, doc, pm, an, cdv, ct, l, cd⟩ := He.fn_ok (d := fnd x st) (fn_at c i hi) c3
  exact ⟨oc, od, osl, kV, doc, pm, an, cdv, ct, He.glo_ok X Gn c1, l, cd, c2⟩
theorem f_has (X : K.In h) (Gn : h.Ns mainGlobals mg) {x : Str} {st : Stmt} {ps : List Str} (c : obsK F K = valK F P w) (i j : Nat) (hi : F.fns[i]? = some (fnd x st)) (hj : F.facts[j]? = some (.fn x))
    (b : ∀ (kV doc pm : Value) (an : Option Addr) (cdv ct : Value) (us : List Value), us.length = ps.length → bindArgs (PySem.W.fnOf x x (defArgs st) (defBody st) (defScope st) .none kV doc pm an cdv ct) ⟨us, []⟩ = pure (ps.zip us)) : HasF ⟨P, w, K, mg, base⟩ x st ps := by
  obtain ⟨oc, od, osl, kV, doc, pm, an, cdv, ct, h1, h2, h3, h4⟩ := f_fun X Gn c i j hi hj
  exact HasF.mk' (G := ⟨P, w, K, mg, base⟩) h1 h2 h3 h4 b
theorem dic_ok {x : Str} {es : Array DictEntry} (hd : dicAt K x = some es) : ∃ n, K.lookup (He.ga K x) = some ⟨.type "dict", none, .dict es n, #[]⟩ ∧ ((He.ga K x) == sysModules) = false := by
  unfold dicAt at hd
  split at hd
  · rename_i T es' n sl e
    split at hd
    · rename_i hb
      cases hd
      obtain ⟨b1, b2⟩ := Bool.and_eq_true_iff.mp hb
      obtain ⟨b2, b3⟩ := Bool.and_eq_true_iff.mp b2
      have eT : T = "dict" := of_decide_eq_true b1
      subst eT
      have es0 : sl = #[] := by simpa using b2
      subst es0
      refine ⟨n, e, ?_⟩
      cases z : ((He.ga K x) == sysModules) with
      | false => rfl
      | true => rw [z] at b3; cases b3
    · cases hd
  · cases hd
theorem td_at (c : obsK F K = valK F P w) (i : Nat) {x : Str} {tb : KTab} (hi : F.tds[i]? = some (x, tb)) (g1 : (He.Fa.glo x).ok K = true) {es : Array DictEntry} (hd : dicAt K x = some es) : PySem.W.KeysLit w.params es.toList := by
  have e : F.tds.map (fun q => (dicAt K q.1).map fun es => es.toList.map He.keyOf) ++ F.tfs.map (fun q => (dicAt K q.1).map fun es => es.toList.map He.keyOf) = F.tds.map (fun q => some (He.keysIn w.params (q.2.map (·.1)))) ++ F.tfs.map (fun q => some (He.keysIn w.params (q.2.map (·.1)))) := congrArg (fun z : Al1 => z.2.2.1) c
  have hlt : i < F.tds.length := (List.getElem?_eq_some_iff.mp hi).1
  have e2 := congrArg (fun l => l[i]?) e
  rw [List.getElem?_append_left (by rw [List.length_map]; exact hlt), List.getElem?_append_left (by rw [List.length_map]; exact hlt), List.getElem?_map, List.getElem?_map, hi] at e2
  have e4 : (dicAt K x).map (fun es => es.toList.map He.keyOf) = some (He.keysIn w.params (tb.map (·.1))) := Option.some.inj e2
  rw [hd] at e4
  exact He.keysLit_of (Option.some.inj e4)
theorem f_td (X : K.In h) (Gn : h.Ns mainGlobals mg) {x : Str} {tb : KTab} (c : obsK F K = valK F P w) (i : Nat) (hi : F.tds[i]? = some (x, tb)) : GlK ⟨P, w, K, mg, base⟩ x tb := by
  obtain ⟨a1, _⟩ := Bool.and_eq_true_iff.mp (Bool.and_eq_true_iff.mp (Bool.and_eq_true_iff.mp (says_all c)).2).1
  have a2 := List.all_eq_true.mp a1 _ (List.mem_of_getElem? hi)
  obtain ⟨g1, g2⟩ := Bool.and_eq_true_iff.mp a2
  cases hd : dicAt K x with
  | none => rw [hd] at g2; cases g2
  | some es =>
    rw [hd] at g2
    obtain ⟨n, l1, l2⟩ := dic_ok hd
    exact GlK.mk' (G := ⟨P, w, K, mg, base⟩) (He.glo_ok X Gn g1) l1 (td_at c i hi g1 hd) l2 (kes_ok g2)
end
end HM
namespace K08
open PySem PySem.Spec PyProof.Rows L2 DL LW LamX PW
def spLaw (K : PySem.W.Frag) (P : Addr) : Sp := fun vs H Q _ => ∃ (a : Addr) (ns : List Int), vs = [.ref a] ∧ SqL K H a (ns.map V.int) ∧ H P = some (.tbl #[]) ∧ ∀ H', Q (.bl true) H'
theorem lamS5 : LamS (defScope st_law) (lamScope (lawAt 5)) := lamS_by rfl
def ev0 : Ev := [.hid, .row, .hid, .hid, .hid, .hid, .hid, .hid, .hid, .hid, .hid, .hid]
theorem ev0_own (i : Nat) (ds : Ow) (e : ev0[i]? = some (DL.Slot.own ds)) : False := by
  have h : (DL.Slot.own ds) ∈ ev0 := List.mem_of_getElem? e
  simp [ev0] at h
theorem ok_law {G : Gm} {CS CB c P fa : Addr} {oc : Value} {od : Option Addr} {kV doc pm ct : Value} {an : Option Addr} {osl : Array (Option Value)} (B : Tp G) (h : Df G) (F : BadF G CS CB) (W : FnB G)
    (lk : G.K.lookup fa = some ⟨oc, od, .func (PySem.W.fnOf "law" "law" (defArgs st_law) (defBody st_law) (defScope st_law) .none kV doc pm an (.ref c) ct), osl⟩) (hcd : PySem.W.codeIn G.K (.ref c) "law" = true) (TB : TabB G.base G.mg c P) :
    FnOk G.P G.w G.K G.mg G.base (L2.CX G.P G.w) 12 fa (PySem.W.fnOf "law" "law" (defArgs st_law) (defBody st_law) (defScope st_law) .none kV doc pm an (.ref c) ct) ["script"] (spLaw G.K P) := by
  obtain ⟨fS, FS, pS⟩ := fo__law_semantics B h
  obtain ⟨fE, FE, pE⟩ := fo_every B h
  obtain ⟨fA, FA, pA⟩ := fo_alike2 B h
  obtain ⟨fLp, FLp, pLp⟩ := fo_lprof B h
  obtain ⟨fPr, FPr, pPr⟩ := fo_prof B h
  obtain ⟨fAs, FAs, pAs⟩ := fo_all B h
  obtain ⟨fP, FP, pP⟩ := fo__law_pick B h
  obtain ⟨fN, FN, pN⟩ := fo__law_names B h
  obtain ⟨fH, FH, pH⟩ := fo__law_holds B h
  obtain ⟨fPa, FPa, pPa⟩ := fo_part B h
  obtain ⟨fI, FI, pI⟩ := fo_imp B h
  obtain ⟨fW, FW, pW⟩ := fo_with B h
  obtain ⟨fPs, FPs, pPs⟩ := fo_profs B h
  have S : Sps fA fP fN fH fPa fI tkF fW := ⟨pA, pP, pN, pH, pPa, pI, taken, pW⟩
  refine fn_of lk hcd sc_law (fun vs H Q E q => ?_) (fun A outer s H vs Q E hr hsp => ?_)
  · obtain ⟨a, ns, rfl, _⟩ := q
    rfl
  have g : Gd G 11 sxL N_law (cxOf (L2.CX G.P G.w) G.P G.w G.K G.mg G.base N_law "law" (defScope st_law) fa (.ref c) A outer s H E) := ⟨rfl, sc_law.nd, rfl, fun _ _ => rfl, rfl, hr, rfl, rfl, rfl, rfl, rfl⟩
  obtain ⟨a, ns, rfl, hS, hP, q⟩ := hsp
  have tk : Takes (cxOf (L2.CX G.P G.w) G.P G.w G.K G.mg G.base N_law "law" (defScope st_law) fa (.ref c) A outer s H E) (fun cls d _ H => E cls d H) := takes_of rfl rfl rfl rfl
  refine ⟨_, pss_cons (ps_set (i := 1) sc_law.nd rfl (.inr rfl) (pe_lst (pa_cons (pv 0) (pa_cons pe_int (pa_cons pe_int (pa_cons pe_int pa_nil))))))
    (pss_cons (s_1 B (by decide) FE (by decide) FS (by decide) _ _ g tk (passes_of rfl))
    (pss_cons (s_2 B (by decide) FA (by decide) FLp (by decide) FPr (by decide) FAs (by decide) _ _ g tk (passes_of rfl))
    (pss_cons (s_3 B (by decide) FA (by decide) FP (by decide) FN (by decide) FH (by decide) FPa (by decide) FI (by decide) (fo_taken h.h__law_taken B) (by decide) FW (by decide) _ _ g tk (passes_of rfl))
    (pss_cons (s_4 B (by decide) FA (by decide) FLp (by decide) FPs (by decide) _ _ g tk (passes_of rfl))
    (pss_one (ps_ret (pe_bad (k := 9) g B F W rfl rfl TB lamS5 (e_lam B FP (by decide) FW (by decide))))))))), ?_⟩
  refine ⟨_, rfl, by show 4 ≤ sizeLine; exact size_ok 4, fun p hp => ?_⟩
  have hPp : P ≠ p := ne_of_none hP hp
  have sm : Same H (upd H p (.lst [.ref a, .int 0, .int 15328, .int 0])) := same_upd hp
  generalize hH1 : upd H p (.lst [.ref a, .int 0, .int 15328, .int 0]) = H1 at sm
  have hrow : H1 p = some (.lst [.ref a, .int 0, .int 15328, .int 0]) := by rw [← hH1]; exact upd_same
  have hTab : H1 P = some (.tbl #[]) := sm _ _ hP
  have R : RelS G.K (fun b => b = p) ⟨p, a, ns⟩ (fun b o => H1 b = some o ∧ b ≠ p) ((L2.start N_law [.ref a]).set 1 (some (.ref p))) H1 ev0 ⟨ns, 0, 15328, 0⟩ fun _ => 0 := by
    have av : ∀ b, Av (fun b => b = p) ev0 (fun _ => 0) b → b = p := fun b m => m.elim id fun ⟨i, ⟨ds, e⟩, _⟩ => (ev0_own i ds e).elim
    refine ⟨⟨.inl rfl, fun b m => ⟨.lst [.ref a, .int 0, .int 15328, .int 0], by rw [av b m]; exact hrow, trivial⟩, ⟨⟨hrow, rfl⟩, ?_⟩, fun i s e => ?_, by show 12 ≤ 12; exact Nat.le_refl 12⟩, rfl, fun b o q => q.1, fun o q => q.2 rfl, fun b m n => absurd m n, fun i ds e => (ev0_own i ds e).elim, fun i j ⟨ds, e⟩ => (ev0_own i ds e).elim⟩
    · rcases hS with hS | hS
      · refine .inl ⟨?_, fun m => ?_⟩
        · rcases hS with z | ⟨o, z⟩
          · exact .inl (sm _ _ z)
          · exact .inr ⟨o, sm _ _ z⟩
        · have e := av _ m
          rcases hS with z | ⟨o, z⟩
          · exact absurd e (ne_of_none z hp)
          · exact absurd e (ne_of_none z hp)
      · exact .inr hS
    · match i, e with
      | 0, e => cases e; trivial
      | 1, e => cases e; exact rfl
      | 2, e => cases e; trivial
      | 3, e => cases e; trivial
      | 4, e => cases e; trivial
      | 5, e => cases e; trivial
      | 6, e => cases e; trivial
      | 7, e => cases e; trivial
      | 8, e => cases e; trivial
      | 9, e => cases e; trivial
      | 10, e => cases e; trivial
      | 11, e => cases e; trivial
      | i + 12, e => simp [ev0] at e
  obtain ⟨ev1, rs1, e1, w, z1⟩ := s1_ok pS pE ⟨ns, 0, 15328, 0⟩
  subst z1
  refine ⟨_, _, _, _, _, _, R, _, _, e1, fun σ2 H2 oa2 R2 => ?_⟩
  have e2 := congrFun (s2_ok (fal := fA) (flp := fLp) (fpr := fPr) (fas := fAs) pA pLp pPr pAs w .hid .hid .hid .hid .hid .hid .hid .hid) rs1
  refine ⟨_, _, _, _, _, _, R2, _, _, e2, fun σ3 H3 oa3 R3 => ?_⟩
  obtain ⟨ev3, rs3, e3, g3⟩ := loop_ok S _ ⟨w, _, _, _, _, _, _, _, _, rfl⟩ rs1
  refine ⟨_, _, _, _, _, _, R3, _, _, e3, fun σ4 H4 oa4 R4 => ?_⟩
  obtain ⟨w3, s4, s5, s6, s7, ws, s9, s10, s11, hw, z3⟩ := g3
  subst z3
  have e4 := congrFun (s4_ok (fal := fA) (flp := fLp) (fps := fPs) pA pLp pPs w3 s4 s5 s6 s7 (.dat (.tuple (nmD ws))) s9 s10 s11) rs3
  refine ⟨_, _, _, _, _, _, R4, _, _, e4, fun σ5 H5 oa5 R5 => ?_⟩
  have hTab5 : H5 P = some (.tbl #[]) := R5.prot _ _ ⟨hTab, hPp⟩
  have gl : GEv (lend [.hid, .row, .dat (wy w3), .dat EV, s4, s5, s6, s7, .dat (.tuple (nmD ws)), s9, s10, s11]) := ⟨w3, lendS s4, lendS s5, lendS s6, lendS s7, ws, lendS s9, lendS s10, lendS s11, hw, rfl⟩
  have T5 : ∀ qq : Str, Tabs [(P, qq)] H5 := fun qq q hq => by
    cases hq with
    | head => exact TabS.nil hTab5
    | tail _ z => cases z
  exact bad_read F R5.lent (T5 _) (lam_ok pP pW _ gl _) fun H6 rs6 R6 T6 => q H6
end K08
noncomputable section
namespace HM
open PySem PySem.W PySem.Calls PyProof.Rows HandSHeadRun DL
open L2 (defArgs defBody defScope)
structure SpecL where
  base : Spec1
  law : Str
  more : List (PySem.W.Frag → Bool)
def codeOf (K : PySem.W.Frag) (x : Str) : Addr := match K.lookup (He.ga K x) with
  | some ⟨_, _, .func fd, _⟩ => (match fd.code with
    | .ref c => c
    | _ => 0)
  | _ => 0
def isRefB (v : Value) (c : Addr) : Bool := match v with
  | .ref c' => c' == c
  | _ => false
def hasCodeB (K : PySem.W.Frag) (x : Str) (c : Addr) : Bool := match K.lookup (He.ga K x) with
  | some ⟨_, _, .func fd, _⟩ => isRefB fd.code c
  | _ => false
def tabOf (K : PySem.W.Frag) (c : Addr) : Addr := match K.lookup c with
  | some ⟨_, _, .fields vs, _⟩ => (match (vs[11]? : Option Value) with
    | some (.ref P) => P
    | _ => 0)
  | _ => 0
def isTab (K : PySem.W.Frag) (P : Addr) : Bool := match K.lookup P with
  | some ⟨.none, none, .fields vs, sl⟩ => vs.isEmpty && sl.isEmpty
  | _ => false
theorem isTab_ok {K : PySem.W.Frag} {P : Addr} (h : isTab K P = true) : K.lookup P = some { cls := .none, data := .fields #[] } := by
  unfold isTab at h
  split at h
  · rename_i vs sl e
    obtain ⟨h1, h2⟩ := Bool.and_eq_true_iff.mp h
    have e1 : vs = #[] := by simpa using h1
    have e2 : sl = #[] := by simpa using h2
    subst e1 e2
    exact e
  · cases h
def dropA (K : PySem.W.Frag) (P : Addr) : PySem.W.Frag := K.filter fun q => !(q.1 == P)
theorem drop_look {P : Addr} : ∀ {K : PySem.W.Frag} {a : Addr}, (dropA K P).lookup a = if a = P then none else K.lookup a
  | [], a => by
    show (none : Option Obj) = _
    split <;> rfl
  | (b, o) :: K, a => by
    have ih := drop_look (P := P) (K := K) (a := a)
    unfold dropA at ih ⊢
    rw [List.filter_cons]
    by_cases hb : b = P
    · subst hb
      have z : (!((b, o).1 == b)) = false := by simp
      rw [if_neg (by rw [z]; decide), ih]
      by_cases ha : a = b
      · rw [if_pos ha, if_pos ha]
      · rw [if_neg ha, if_neg ha]
        have n : (a == b) = false := by simpa using ha
        show _ = (match a == b with | true => some o | false => K.lookup a)
        rw [n]
    · have z : (!((b, o).1 == P)) = true := by simpa using hb
      rw [if_pos z]
      show (match a == b with | true => some o | false => (List.filter (fun q : Addr × Obj => !(q.1 == P)) K).lookup a) = _
      by_cases hab : a = b
      · subst hab
        rw [if_neg hb]
        show _ = (match a == a with | true => some o | false => K.lookup a)
        rw [beq_self_eq_true]
      · have n : (a == b) = false := by simpa using hab
        rw [n]
        show (List.filter (fun q : Addr × Obj => !(q.1 == P)) K).lookup a = _
        rw [ih]
        show _ = if a = P then none else (match a == b with | true => some o | false => K.lookup a)
        rw [n]
theorem drop_in {K : PySem.W.Frag} {P : Addr} {h : Heap} (X : K.In h) : (dropA K P).In h := fun a o e => by
  rw [drop_look] at e
  split at e
  · cases e
  · exact X a o e
abbrev AlL : Type := Bool × Al1
def obsL (F : SpecL) (K0 : PySem.W.Frag) : AlL :=
  (isTab K0 (tabOf K0 (codeOf K0 F.law)) && (codeHdIn (dropA K0 (tabOf K0 (codeOf K0 F.law))) (codeOf K0 F.law) (tabOf K0 (codeOf K0 F.law)) && (hasCodeB (dropA K0 (tabOf K0 (codeOf K0 F.law))) F.law (codeOf K0 F.law) &&
    F.more.all fun f => f (dropA K0 (tabOf K0 (codeOf K0 F.law))))), obsK F.base (dropA K0 (tabOf K0 (codeOf K0 F.law))))
def valL (F : SpecL) (p : Program) (w : World) : AlL := (true, valK F.base p w)
def saysL (F : SpecL) (p : Program) (w : World) (h : Heap) : Prop := ∃ (K : PySem.W.Frag) (c P : Addr), K.In h ∧ obsK F.base K = valK F.base p w ∧ codeHdIn K c P = true ∧ K.lookup P = none ∧ h.get? P = some { cls := .none, data := .fields #[] } ∧ hasCodeB K F.law c = true ∧ (F.more.all fun f => f K) = true
theorem saysL_of {F : SpecL} {p : Program} {w : World} {h : Heap} {K0 : PySem.W.Frag} (X : K0.In h) (e : obsL F K0 = valL F p w) : saysL F p w h := by
  have e1 : (isTab K0 (tabOf K0 (codeOf K0 F.law)) && (codeHdIn (dropA K0 (tabOf K0 (codeOf K0 F.law))) (codeOf K0 F.law) (tabOf K0 (codeOf K0 F.law)) && (hasCodeB (dropA K0 (tabOf K0 (codeOf K0 F.law))) F.law (codeOf K0 F.law) &&
    F.more.all fun f => f (dropA K0 (tabOf K0 (codeOf K0 F.law)))))) = true := congrArg (fun z : AlL => z.1) e
  have e2 : obsK F.base (dropA K0 (tabOf K0 (codeOf K0 F.law))) = valK F.base p w := congrArg (fun z : AlL => z.2) e
  obtain ⟨a1, e1⟩ := Bool.and_eq_true_iff.mp e1
  obtain ⟨a2, e1⟩ := Bool.and_eq_true_iff.mp e1
  obtain ⟨a3, a4⟩ := Bool.and_eq_true_iff.mp e1
  exact ⟨_, codeOf K0 F.law, tabOf K0 (codeOf K0 F.law), drop_in X, e2, a2, by rw [drop_look, if_pos rfl], X _ _ (isTab_ok a1), a3, a4⟩
def hookL (F : SpecL) (p : Program) (n0 : Nat) : Hook where
  α := AlL
  obs := fun s => obsL F (He.frG s.heap.get? (addrs n0 s.heap.objs.size))
  val := fun w => valL F p w
  says := fun w h => saysL F p w h
  of := fun _ _ e => saysL_of He.frG_in e
  keeps := fun _ _ _ ⟨K, c, P, hK, r1, r2, r3, r4, r5⟩ k => ⟨K, c, P, PySem.W.Frag.In.keeps hK k, r1, r2, r3, k _ _ r4, r5⟩
def obTL (F : SpecL) (n0 : Nat) (s : SharedT) : AlL := obsL F (He.frG (getT s) (addrs n0 s.n))
theorem obTL_eq {F : SpecL} {p : Program} {n0 : Nat} (s : SharedT) : obTL F n0 s = (hookL F p n0).obs s.abs := by
  have e : getT s = s.abs.heap.get? := funext (getT_eq s)
  have e2 : s.abs.heap.objs.size = s.n := absHeap_size s.tree s.n s.life
  show obsL F (He.frG (getT s) (addrs n0 s.n)) = obsL F (He.frG s.abs.heap.get? (addrs n0 s.abs.heap.objs.size))
  rw [e, e2]
theorem code_is {K : PySem.W.Frag} {x : Str} {c : Addr} {oc : Value} {od : Option Addr} {a1 a2 : Str} {a3 : Arguments} {a4 : List Stmt} {a5 : Scope} {kV doc pm cdv ct dV : Value} {an : Option Addr} {osl : Array (Option Value)} (l : K.lookup (He.ga K x) = some ⟨oc, od, .func (PySem.W.fnOf a1 a2 a3 a4 a5 dV kV doc pm an cdv ct), osl⟩) (h : hasCodeB K x c = true) : cdv = .ref c := by
  unfold hasCodeB at h
  rw [l] at h
  replace h : isRefB cdv c = true := h
  unfold isRefB at h
  split at h
  · rw [beq_iff_eq.mp h]
  · cases h
theorem glo_ns {K : PySem.W.Frag} {x : Str} (h : (Fc.fn x).ok K = true) : PySem.W.nsIn K mainGlobals x = some (some (.ref (He.ga K x))) := He.eqO_ok (Bool.and_eq_true_iff.mp (show ((He.Fa.glo x).ok K && ((He.Fa.keep x).ok K && (He.Fa.code (x, none) x).ok K)) = true from h)).1
end HM
namespace K08
open PySem PySem.Spec PyProof.Rows L2 DL LamX
theorem law_mk {l : PySem.W.OpenLaw} {w : World} {K : PySem.W.Frag} {h : Heap} {mg : Str → Option Value} {fa f c P CS CB : Addr} {oc : Value} {od : Option Addr} {kV doc pm ct : Value} {an : Option Addr} {osl : Array (Option Value)} (X : K.In h) (G : h.Ns mainGlobals mg) (hfa : mg "law" = some (.ref fa))
    (tp : ∀ base, Tp ⟨l.prog, w, K, mg, base⟩) (df : ∀ base, Df ⟨l.prog, w, K, mg, base⟩) (bf : ∀ base, BadF ⟨l.prog, w, K, mg, base⟩ CS CB) (fb : ∀ base, FnB ⟨l.prog, w, K, mg, base⟩)
    (a : PySem.W.nsIn K mainGlobals "law" = some (some (.ref f))) (lk : K.lookup f = some ⟨oc, od, .func (PySem.W.fnOf "law" "law" (defArgs st_law) (defBody st_law) (defScope st_law) .none kV doc pm an (.ref c) ct), osl⟩) (cd : PySem.W.codeIn K (.ref c) "law" = true)
    (hc : PySem.W.codeHdIn K c P = true) (nP : K.lookup P = none) (hP : h.get? P = some (PySem.W.tabObj #[])) : LawAtS l w K (L2.CX l.prog w) 12 63 "script" mg fa h := by
  have e := hfa.symm.trans (PySem.W.mg_of X G a)
  cases e
  refine ⟨PySem.W.fnOf "law" "law" (defArgs st_law) (defBody st_law) (defScope st_law) .none kV doc pm an (.ref c) ct, [(c, P)], spLaw K P, fun q hq => ?_, fun q hq => ?_, fun q hq => ?_, fun s v => .of_eq rfl, fun H a ns _ _ hT hS => ?_, fun base _ _ hb => ?_⟩
  · cases hq with
    | head => exact hP
    | tail _ z => cases z
  · cases hq with
    | head => exact nP
    | tail _ z => cases z
  · cases hq with
    | head => exact PySem.W.codeHd_of_K X hc
    | tail _ z => cases z
  · exact ⟨a, ns, rfl, hS, hT _ (List.mem_cons_self), fun _ => rfl⟩
  · exact ok_law (G := ⟨l.prog, w, K, mg, base⟩) (tp base) (df base) (bf base) (fb base) lk cd (hb _ (List.mem_cons_self))
theorem cx_end {l : PySem.W.OpenLaw} (w : World) (H : Hp) (s : Shared) (e : Value) (s' : Shared) (h : L2.CX l.prog w [] H s (fun _ _ _ => False) e s') : False := by
  obtain ⟨_, _, _, _, _, _, _, _, _, _, _, _, z⟩ := h
  exact z
section
variable {P : Program} {w : World} {K : PySem.W.Frag} {mg : Str → Option Value} {base h : Heap} {x : Str}
theorem bf_mk' {CS CB : Addr} (X : K.In h) (Gn : h.Ns mainGlobals mg) (a : PySem.W.nsIn K mainGlobals "QueryError" = some (some (.ref CS))) (b : PySem.W.nsIn K mainGlobals "BadIdentities" = some (some (.ref CB)))
    (s1 : PySem.W.subIn K (.ref CS) (.type "BaseException") = some true) (s2 : PySem.W.hasDictIn K CS = true) (s3 : PySem.W.typeIn K (.ref CS) = some (.type "type")) (s4 : PySem.W.subIn K (.ref CB) (.ref CS) = some true)
    (hg : PySem.W.findIn K (.ref CB) "__getattribute__" = some (some (.builtin "BaseException.__getattribute__"))) (hk : PySem.W.findIn K (.ref CB) "__getattr__" = some none) (hs : PySem.W.subIn K (.ref CB) (.type "BaseException") = some true) (hd : PySem.W.hasDictIn K CB = true)
    (ha : PySem.W.findIn K (.ref CB) "__class__" = some (some (.builtin "object.__class__"))) (hn : PySem.W.specialIn K (.builtin "object.__class__") "__get__" = some (some (.builtin "getset_descriptor.__get__"))) (ht : PySem.W.takesIn K (.builtin "object.__class__") = some true) (hm : PySem.W.mroIn K CB (.type "object") = some true) :
    BadF ⟨P, w, K, mg, base⟩ CS CB :=
  ⟨PySem.W.mg_of X Gn a, PySem.W.mg_of X Gn b, PySem.W.exm_ref s1 s2 s3 s4, ⟨hg, hk, hs, hd, ha, hn, ht, hm⟩, by unfold PySem.W.kitOne; rw [if_pos (by simp)]⟩
theorem fb_mk' {f : Addr} {oc kV doc pm cdv ct : Value} {od an : Option Addr} {osl : Array (Option Value)} (X : K.In h) (Gn : h.Ns mainGlobals mg) (a : PySem.W.nsIn K mainGlobals "_law_bad" = some (some (.ref f)))
    (l : K.lookup f = some ⟨oc, od, .func (PySem.W.fnOf "_law_bad" "_law_bad" (defArgs st__law_bad) (defBody st__law_bad) (defScope st__law_bad) .none kV doc pm an cdv ct), osl⟩) (c : PySem.W.codeIn K cdv "_law_bad" = true) (k : PySem.W.keepIn K (.ref f) = true) : FnB ⟨P, w, K, mg, base⟩ :=
  ⟨f, oc, od, kV, doc, pm, cdv, ct, an, osl, PySem.W.mg_of X Gn a, l, c, k, (fun_mk (st := st__law_bad) l c k).binds fun _ _ _ _ _ _ us hl => match us, hl with | [_], _ => rfl⟩
end
def bfB (K : PySem.W.Frag) : Bool := ((He.Fa.glo "QueryError").ok K) && (((He.Fa.glo "BadIdentities").ok K) && ((decide (PySem.W.subIn K (.ref (He.ga K "QueryError")) (.type "BaseException") = some true)) && ((PySem.W.hasDictIn K (He.ga K "QueryError")) && ((decide (PySem.W.typeIn K (.ref (He.ga K "QueryError")) = some (.type "type"))) && ((decide (PySem.W.subIn K (.ref (He.ga K "BadIdentities")) (.ref (He.ga K "QueryError")) = some true)) && ((He.eqO (PySem.W.findIn K (.ref (He.ga K "BadIdentities")) "__getattribute__") (some (some (.builtin "BaseException.__getattribute__")))) && ((He.eqO (PySem.W.findIn K (.ref (He.ga K "BadIdentities")) "__getattr__") (some none)) && ((decide (PySem.W.subIn K (.ref (He.ga K "BadIdentities")) (.type "BaseException") = some true)) && ((PySem.W.hasDictIn K (He.ga K "BadIdentities")) && ((He.eqO (PySem.W.findIn K (.ref (He.ga K "BadIdentities")) "__class__") (some (some (.builtin "object.__class__")))) && ((He.eqO (PySem.W.specialIn K (.builtin "object.__class__") "__get__") (some (some (.builtin "getset_descriptor.__get__")))) && ((decide (PySem.W.takesIn K (.builtin "object.__class__") = some true)) && (decide (PySem.W.mroIn K (He.ga K "BadIdentities") (.type "object") = some true))))))))))))))
section
variable {P : Program} {w : World} {K : PySem.W.Frag} {mg : Str → Option Value} {base h : Heap}
theorem bf_of (X : K.In h) (Gn : h.Ns mainGlobals mg) (c : bfB K = true) : BadF ⟨P, w, K, mg, base⟩ (He.ga K "QueryError") (He.ga K "BadIdentities") := by
  obtain ⟨c0, d0⟩ := Bool.and_eq_true_iff.mp (show (((He.Fa.glo "QueryError").ok K) && (((He.Fa.glo "BadIdentities").ok K) && ((decide (PySem.W.subIn K (.ref (He.ga K "QueryError")) (.type "BaseException") = some true)) && ((PySem.W.hasDictIn K (He.ga K "QueryError")) && ((decide (PySem.W.typeIn K (.ref (He.ga K "QueryError")) = some (.type "type"))) && ((decide (PySem.W.subIn K (.ref (He.ga K "BadIdentities")) (.ref (He.ga K "QueryError")) = some true)) && ((He.eqO (PySem.W.findIn K (.ref (He.ga K "BadIdentities")) "__getattribute__") (some (some (.builtin "BaseException.__getattribute__")))) && ((He.eqO (PySem.W.findIn K (.ref (He.ga K "BadIdentities")) "__getattr__") (some none)) && ((decide (PySem.W.subIn K (.ref (He.ga K "BadIdentities")) (.type "BaseException") = some true)) && ((PySem.W.hasDictIn K (He.ga K "BadIdentities")) && ((He.eqO (PySem.W.findIn K (.ref (He.ga K "BadIdentities")) "__class__") (some (some (.builtin "object.__class__")))) && ((He.eqO (PySem.W.specialIn K (.builtin "object.__class__") "__get__") (some (some (.builtin "getset_descriptor.__get__")))) && ((decide (PySem.W.takesIn K (.builtin "object.__class__") = some true)) && (decide (PySem.W.mroIn K (He.ga K "BadIdentities") (.type "object") = some true))))))))))))))) = true from c)
  obtain ⟨c1, d1⟩ := Bool.and_eq_true_iff.mp d0
  obtain ⟨c2, d2⟩ := Bool.and_eq_true_iff.mp d1
  obtain ⟨c3, d3⟩ := Bool.and_eq_true_iff.mp d2
  obtain ⟨c4, d4⟩ := Bool.and_eq_true_iff.mp d3
  obtain ⟨c5, d5⟩ := Bool.and_eq_true_iff.mp d4
  obtain ⟨c6, d6⟩ := Bool.and_eq_true_iff.mp d5
  obtain ⟨c7, d7⟩ := Bool.and_eq_true_iff.mp d6
  obtain ⟨c8, d8⟩ := Bool.and_eq_true_iff.mp d7
  obtain ⟨c9, d9⟩ := Bool.and_eq_true_iff.mp d8
  obtain ⟨c10, d10⟩ := Bool.and_eq_true_iff.mp d9
  obtain ⟨c11, d11⟩ := Bool.and_eq_true_iff.mp d10
  obtain ⟨c12, d12⟩ := Bool.and_eq_true_iff.mp d11
  exact bf_mk' X Gn (He.eqO_ok c0) (He.eqO_ok c1) (of_decide_eq_true c2) c3 (of_decide_eq_true c4) (of_decide_eq_true c5) (He.eqO_ok c6) (He.eqO_ok c7) (of_decide_eq_true c8) c9 (He.eqO_ok c10) (He.eqO_ok c11) (of_decide_eq_true c12) (of_decide_eq_true d12)
end
end K08
noncomputable section
namespace HM
open PySem PySem.W PySem.Calls PyProof.Rows HandSHeadRun DL
open L2 (defArgs defBody defScope)
section
variable {F : Spec1} {P : Program} {w : World} {K : PySem.W.Frag} {h base : Heap} {mg : Str → Option Value}
theorem f_tdo (X : K.In h) (Gn : h.Ns mainGlobals mg) {x : Str} {tb : KTab} (c : HM.obsK F K = HM.valK F P w) (i : Nat) (hi : F.tds[i]? = some (x, tb)) (hl : (ktK tb).length ≤ 1000) : GlKo ⟨P, w, K, mg, base⟩ x tb := by
  obtain ⟨a1, _⟩ := Bool.and_eq_true_iff.mp (Bool.and_eq_true_iff.mp (Bool.and_eq_true_iff.mp (says_all c)).2).1
  obtain ⟨g1, g2⟩ := Bool.and_eq_true_iff.mp (List.all_eq_true.mp a1 _ (List.mem_of_getElem? hi))
  cases hd : dicAt K x with
  | none => rw [hd] at g2; cases g2
  | some es =>
    rw [hd] at g2
    obtain ⟨n, l1, l2⟩ := dic_ok hd
    exact ⟨⟨_, es, n, He.glo_ok X Gn g1, l1, l2, kes_ok g2, hl⟩⟩
end
end HM
noncomputable section
namespace HM
open PySem PySem.W PySem.Calls PyProof.Rows HandSHeadRun DL
open L2 (defArgs defBody defScope)
end HM
noncomputable section
namespace HM
open PySem PySem.W PySem.Calls PyProof.Rows HandSHeadRun DL
open L2 (defArgs defBody defScope)
end HM
set_option maxHeartbeats 0
noncomputable section
namespace K08
open PySem PySem.W PySem.Calls PyProof.Rows HandSHeadRun HM DL
open L2 (defArgs defBody defScope)
abbrev RW : OpenRow := OpenLaw.row PySem.Challenge.rw_queryheld_k08_whole_profiles
def lse0 : List Str := ["QueryError", "BadSemantics", "BadIdentity", "BadIdentities", "WORDS", "is_semantics", "all_semantics", "check_semantics", "SIDES", "identities", "is_identity", "check_identity", "HOLDS_WITH", "holds", "profile", "profiles", "implies", "parting", "semantics_with", "_are_identities", "_law_taken", "_law_pick", "_law_alike", "_law_semantics", "_law_names"]
def lse1 : List Str := ["_law_holds", "_law_every", "_law_profile", "_law_bad"]
def lse : List Str := lse0 ++ (lse1)
def fcs0 : List Fc := [.no "all", .no "any", .no "bool", .no "dict", .no "int", .no "isinstance", .no "len", .no "list", .no "range", .no "set", .no "sorted", .no "str", .no "tuple", .no "zip", .con "WORDS" PW.c_WORDS, .ex "BadIdentities", .ex "BadIdentity", .ex "BadSemantics", .fn "is_semantics", .fn "all_semantics", .fn "check_semantics", .fn "identities", .fn "is_identity", .fn "check_identity", .fn "holds"]
def fcs1 : List Fc := [.fn "profile", .fn "profiles", .fn "implies", .fn "parting", .fn "semantics_with", .fn "_are_identities", .fn "_law_taken", .fn "_law_pick", .fn "_law_alike", .fn "_law_semantics", .fn "_law_names", .fn "_law_holds", .fn "_law_every", .fn "_law_profile", .fn "_law_bad", .fn "law"]
def fcs : List Fc := fcs0 ++ (fcs1)
def fds0 : List He.FnD := [fnd "is_semantics" st_is_semantics, fnd "all_semantics" st_all_semantics, fnd "check_semantics" st_check_semantics, fnd "identities" st_identities, fnd "is_identity" st_is_identity, fnd "check_identity" st_check_identity, fnd "holds" st_holds, fnd "profile" st_profile, fnd "profiles" st_profiles, fnd "implies" st_implies, fnd "parting" st_parting, fnd "semantics_with" st_semantics_with, fnd "_are_identities" st__are_identities, fnd "_law_taken" st__law_taken, fnd "_law_pick" st__law_pick, fnd "_law_alike" st__law_alike, fnd "_law_semantics" st__law_semantics, fnd "_law_names" st__law_names, fnd "_law_holds" st__law_holds, fnd "_law_every" st__law_every, fnd "_law_profile" st__law_profile, fnd "_law_bad" st__law_bad, fnd "law" st_law]
def fds : List He.FnD := fds0
def sp0 : Spec1 := ⟨fcs, fds, [("HOLDS_WITH", PW.k_HOLDS_WITH), ("SIDES", PW.k_SIDES)], [], []⟩
def sp1 : SpecL := ⟨sp0, "law", [bfB]⟩
def qv : Program := view RW.prog [35]
abbrev Rn (w : World) : Prop := RunEq RW qv (hookL sp1 RW.prog 11) (obTL sp1 11) 6000 lse w
theorem run_f (w : World) : Rn (w.withFollow "special-get-raises" false) := by intro os; kernel_rfl
theorem run_t (w : World) : Rn (w.withFollow "special-get-raises" true) := by intro os; kernel_rfl
theorem runs (w : World) : Rn w := byRow2 "special-get-raises" (P := Rn) run_f run_t w
section
variable {P : Program} {w : World} {K : PySem.W.Frag} {h base : Heap} {mg : Str → Option Value}
theorem tp_all (X : K.In h) (Gn : h.Ns mainGlobals mg) (c : HM.obsK sp0 K = HM.valK sp0 P w) : Tp ⟨P, w, K, mg, base⟩ where
  b_all := f_no X Gn (fact c 0)
  b_any := f_no X Gn (fact c 1)
  b_bool := f_no X Gn (fact c 2)
  b_dict := f_no X Gn (fact c 3)
  b_int := f_no X Gn (fact c 4)
  b_isinstance := f_no X Gn (fact c 5)
  b_len := f_no X Gn (fact c 6)
  b_list := f_no X Gn (fact c 7)
  b_range := f_no X Gn (fact c 8)
  b_set := f_no X Gn (fact c 9)
  b_sorted := f_no X Gn (fact c 10)
  b_str := f_no X Gn (fact c 11)
  b_tuple := f_no X Gn (fact c 12)
  b_zip := f_no X Gn (fact c 13)
  c_WORDS := f_con X Gn (fact c 14)
  k_HOLDS_WITH := f_td X Gn c 0 rfl
  k_SIDES := f_td X Gn c 1 rfl
  o_SIDES := f_tdo X Gn c 1 rfl (by decide)
  x_BadIdentities := f_ex X Gn (fact c 15)
  x_BadIdentity := f_ex X Gn (fact c 16)
  x_BadSemantics := f_ex X Gn (fact c 17)
theorem df_all (X : K.In h) (Gn : h.Ns mainGlobals mg) (c : HM.obsK sp0 K = HM.valK sp0 P w) : Df ⟨P, w, K, mg, base⟩ where
  h_is_semantics := f_has X Gn c 0 18 rfl rfl fun _ _ _ _ _ _ us hl => match us, hl with | [_], _ => rfl
  h_all_semantics := f_has X Gn c 1 19 rfl rfl fun _ _ _ _ _ _ us hl => match us, hl with | [], _ => rfl
  h_check_semantics := f_has X Gn c 2 20 rfl rfl fun _ _ _ _ _ _ us hl => match us, hl with | [_], _ => rfl
  h_identities := f_has X Gn c 3 21 rfl rfl fun _ _ _ _ _ _ us hl => match us, hl with | [], _ => rfl
  h_is_identity := f_has X Gn c 4 22 rfl rfl fun _ _ _ _ _ _ us hl => match us, hl with | [_], _ => rfl
  h_check_identity := f_has X Gn c 5 23 rfl rfl fun _ _ _ _ _ _ us hl => match us, hl with | [_], _ => rfl
  h_holds := f_has X Gn c 6 24 rfl rfl fun _ _ _ _ _ _ us hl => match us, hl with | [_, _], _ => rfl
  h_profile := f_has X Gn c 7 25 rfl rfl fun _ _ _ _ _ _ us hl => match us, hl with | [_], _ => rfl
  h_profiles := f_has X Gn c 8 26 rfl rfl fun _ _ _ _ _ _ us hl => match us, hl with | [], _ => rfl
  h_implies := f_has X Gn c 9 27 rfl rfl fun _ _ _ _ _ _ us hl => match us, hl with | [_, _], _ => rfl
  h_parting := f_has X Gn c 10 28 rfl rfl fun _ _ _ _ _ _ us hl => match us, hl with | [_, _], _ => rfl
  h_semantics_with := f_has X Gn c 11 29 rfl rfl fun _ _ _ _ _ _ us hl => match us, hl with | [_], _ => rfl
  h__are_identities := f_has X Gn c 12 30 rfl rfl fun _ _ _ _ _ _ us hl => match us, hl with | [_], _ => rfl
  h__law_taken := f_has X Gn c 13 31 rfl rfl fun _ _ _ _ _ _ us hl => match us, hl with | [_, _], _ => rfl
  h__law_pick := f_has X Gn c 14 32 rfl rfl fun _ _ _ _ _ _ us hl => match us, hl with | [_, _], _ => rfl
  h__law_alike := f_has X Gn c 15 33 rfl rfl fun _ _ _ _ _ _ us hl => match us, hl with | [_, _], _ => rfl
  h__law_semantics := f_has X Gn c 16 34 rfl rfl fun _ _ _ _ _ _ us hl => match us, hl with | [_], _ => rfl
  h__law_names := f_has X Gn c 17 35 rfl rfl fun _ _ _ _ _ _ us hl => match us, hl with | [], _ => rfl
  h__law_holds := f_has X Gn c 18 36 rfl rfl fun _ _ _ _ _ _ us hl => match us, hl with | [_, _], _ => rfl
  h__law_every := f_has X Gn c 19 37 rfl rfl fun _ _ _ _ _ _ us hl => match us, hl with | [], _ => rfl
  h__law_profile := f_has X Gn c 20 38 rfl rfl fun _ _ _ _ _ _ us hl => match us, hl with | [_], _ => rfl
  h__law_bad := f_has X Gn c 21 39 rfl rfl fun _ _ _ _ _ _ us hl => match us, hl with | [_], _ => rfl
end
abbrev dLaw : DefRec := topDef RW.prog 35
theorem e_o1 : opening RW.prog = plainProg RW.prog.main.scope.names := by kernel_rfl
theorem e_o2 (s : Shared) : fenceModules? RW.prog s = some s := by kernel_rfl
theorem e_h1 : defOf qv RW.name = some (dLaw, []) := by kernel_rfl
theorem e_h2 : RW.prog.theDef RW.name = some (dLaw.params, dLaw.body, dLaw.scope) := by kernel_rfl
theorem e_h3 : kwWritten? dLaw.params.kwonlyargs dLaw.params.kw_defaults = some [] := by rfl
theorem e_h6 : (chainsOk qv && opensWell RW.prog && (frees RW.toRowW && RW.within.isEmpty)) = true := by decide +kernel
theorem e_h7 : RW.prog.bare := ⟨rfl, rfl, rfl, rfl, rfl, by decide +kernel⟩
theorem e_nm : dLaw.name = ("law" : PySem.Str) := by kernel_rfl
theorem e_df : dLaw.params.defaults = [] := by kernel_rfl
theorem e_call : WalkO qv lse (XL qv []) (hookL sp1 RW.prog 11).says RW.toRowW dLaw [] fun f vs => PySem.call f vs := by
  refine LamX.walk_ofTsE (l := PySem.Challenge.rw_queryheld_k08_whole_profiles) (n := 63) (k := 12) (x := "script") (CX := fun w => L2.CX (PySem.Challenge.rw_queryheld_k08_whole_profiles).prog w) rfl (by decide) e_df ⟨rfl, by decide, by decide⟩ ?F cx_end
  intro w mg fa h Y G hmg0
  obtain ⟨K, cc, P, KX, c, hcd, nP, hP, hcode, hmore⟩ := Y
  refine ⟨K, KX, ?_⟩
  have hmg : mg ("law" : PySem.Str) = some (.ref fa) := by
    rw [← e_nm]
    exact hmg0
  have bb : bfB K = true := List.all_eq_true.mp hmore bfB (List.mem_cons_self)
  obtain ⟨oc, od, osl, kV, doc, pm, an, cdv, ct, h1, h2, h3, h4⟩ := f_fun (st := st_law) KX G c 22 40 rfl rfl
  obtain ⟨oc', od', osl', kV', doc', pm', an', cdv', ct', q1, q2, q3, q4⟩ := f_fun (st := st__law_bad) KX G c 21 39 rfl rfl
  have ec := code_is h2 hcode
  subst ec
  exact law_mk KX G hmg (fun base => tp_all KX G c) (fun base => df_all KX G c) (fun base => bf_of KX G bb) (fun base => fb_mk' KX G (glo_ns (fact c 39)) q2 q3 q4) (glo_ns (fact c 40)) h2 h3 hcd nP hP
end K08
end
open PySem PySem.W PySem.Calls PyProof.Rows
theorem PySem.Challenge.cw_queryheld_k08_whole_profiles_holds : PySem.Challenge.rw_queryheld_k08_whole_profiles.Holds := by
  w_on; o_law
  refine HandSHeadRun.head_any (r := K08.RW) (q := K08.qv) (H := HM.hookL K08.sp1 K08.RW.prog 11) (ob := HM.obTL K08.sp1 11) (M := 6000) (loose := K08.lse) (fun s => HM.obTL_eq s) K08.e_o1 K08.e_o2 K08.runs K08.e_h1 K08.e_h2 K08.e_h3 ?h4 ?h5 K08.e_h6 K08.e_h7 ?hw K08.e_call
  case h4 => decide +kernel
  case h5 => decide +kernel
  case hw => w_witness2
