import PyProof.Rows.All
import Wide.All
import OpenK.AllK
import Wide.FinOn
import PyProof.EqAt
import PyProof.EqKinds
import PyProof.TupleCall
import HandS.ForMost
import HandS.ForExc
import HandS.ExcOwn
import HandS.IsInst
import KE.KDictKeyed
import KE.KDictCopyH
import KE.DataEq
import HandS.Deep
import HandS.TupAny
import HandS.More
import HandS.Flow
import HandS.Zip
import KE.DataCmp
import KE.DataFind
import KE.DataMinMax
import KE.SortData
import HandS.TupMul
import HandS.Style
import KE.KStateDown
import HandS.Head2
import HandS.Dict
import PyProof.DictDisplay
import HandS.HeadHook3
import HandS.HeadWalk
import KE.GoesEnum
import KE.SortKeyHeap
import HandS.SortKw
import HandS.Keys
import KE.KDictList
import HandS.Star
import KE.KDictPairs
import KE.KDictZip
import KE.GoesMore
import KE.GoesZip
import HandS.Small
import HandS.CallLocal
import KE.KDictSum
import HandS.Rev
import HandS.RaiseMore
import HandS.Strs
import KE.GoesComp
import KE.GoesRaise
import HandS.Lambda
import HandS.EndTab
import HandS.ExcIs
import HandS.Text
import PyProof.StrOps2
import PySem.Challenge.RW_queryheld_k10_whole_texts
set_option Elab.async false
set_option linter.all false
set_option maxRecDepth 100000
set_option maxHeartbeats 4000000
namespace DL
open PySem PySem.Spec PyProof.Rows L2
abbrev D := PyData
def SqLM (K : PySem.W.Frag) (M : Addr → Prop) (H : Hp) (a : Addr) (xs : List V) : Prop :=
  (Rd H a (.lst xs) ∧ ¬ M a) ∨
    ∃ (o : Obj) (its : Array Value) (n : Nat), K.lookup a = some o ∧ o.cls = .type "list" ∧ o.dict = none ∧ o.data = .seq its n ∧ its.size ≤ sizeLine ∧ Vals xs its.toList
theorem SqLM.sq {K : PySem.W.Frag} {M : Addr → Prop} {H : Hp} {a : Addr} {xs : List V} (h : SqLM K M H a xs) : SqL K H a xs := by
  rcases h with ⟨h, _⟩ | h
  · exact .inl h
  · exact .inr h
def lfV : Leaf → V
  | .none => .non
  | .num i => .int i
  | .text x => .str x
def lfD : Leaf → D
  | .none => .none
  | .num i => .int i
  | .text x => .str x
/-- no text: the hash is the program's alone -/
def lfN : Leaf → Bool
  | .text _ => false
  | _ => true
def lfH : Leaf → Int
  | .none => reduceHash 0xFCA86420
  | .num i => hashInt i
  | .text _ => 0
def lfsH (ks : List Leaf) : Int := reduceHash (Builtin.Tuple.tupleHashOf (ks.map lfH))
abbrev Rk := List Leaf × Addr × Int
def RkV (p : Rk) (q : List Leaf × Addr × Value) : Prop := p.1 = q.1 ∧ p.2.1 = q.2.1 ∧ RelV (.int p.2.2) q.2.2
def dctO (a : Addr) (ps : List Rk) : HO := .ext fun h => (a == sysModules) = false ∧ ps.length ≤ sizeLine ∧ ∃ xs : List (List Leaf × Addr × Value), Paired RkV ps xs ∧
  ∃ o es ep, h.get? a = some o ∧ o.ExactDict ∧ o.data = .dict es ep ∧ es.toList = xs.map fun x => ⟨lfsH x.1, .ref x.2.1, x.2.2⟩
/-- a dict with text keys, its values data -/
def tkV : List Str → List V → List (Key × V)
  | k :: ks, v :: vs => (.inr k, v) :: tkV ks vs
  | _, _ => []
def skD (p : Str × D) : D × D := (.str p.1, p.2)
def rkD (p : Rk) : D × D := (.tuple (p.1.map lfD), .int p.2.2)
mutual
inductive Da (K : PySem.W.Frag) (M : Addr → Prop) (H : Hp) : V → D → Prop
  | non : Da K M H .non .none
  | bl (b : Bool) : Da K M H (.bl b) (.bool b)
  | int (i : Int) : Da K M H (.int i) (.int i)
  | str (x : Str) : Da K M H (.str x) (.str x)
  | lst {a : Addr} {xs : List V} {ds : List D} : H a = some (.lst xs) → ¬ M a → DaL K M H xs ds → Da K M H (.ref a) (.list ds)
  | tup {a : Addr} {xs : List V} {ds : List D} : SqT K H a xs → DaL K M H xs ds → Da K M H (.ref a) (.tuple ds)
  | dct {a : Addr} {ps : List Rk} : H a = some (dctO a ps) → (∀ p ∈ ps, SqT K H p.2.1 (p.1.map lfV) ∧ p.1.all lfN = true) → (ps.map (·.1)).Nodup → Da K M H (.ref a) (.dict (ps.map rkD))
  | txd {a : Addr} {kvs : List (Str × D)} {xs : List V} : H a = some (.dK (tkV (kvs.map (·.1)) xs)) → ¬ M a → (kvs ≠ [] ∧ (kvs.map (·.1)).Nodup) → DaL K M H xs (kvs.map (·.2)) → Da K M H (.ref a) (.dict (kvs.map skD))
  | fzt {a : Addr} {o : Obj} {xs : List V} {ds : List D} : H a = some (.frz o (.tup xs)) → o.dict = none → DaL K M H xs ds → Da K M H (.ref a) (.dict [(.tuple ds, .none)])
inductive DaL (K : PySem.W.Frag) (M : Addr → Prop) (H : Hp) : List V → List D → Prop
  | nil : DaL K M H [] []
  | cons {v : V} {vs : List V} {d : D} {ds : List D} : Da K M H v d → DaL K M H vs ds → DaL K M H (v :: vs) (d :: ds)
end
/-- M holds lists and dicts with text keys alone -/
def mutO : HO → Prop
  | .lst _ => True
  | .dK _ => True
  | _ => False
def Ml (M : Addr → Prop) (H : Hp) : Prop := ∀ b, M b → ∃ o, H b = some o ∧ mutO o
/-- all that was tracked, but M, is as it was -/
def Kp (M : Addr → Prop) (H H' : Hp) : Prop := ∀ b o, ¬ M b → H b = some o → H' b = some o
theorem Kp.refl {M : Addr → Prop} (H : Hp) : Kp M H H := fun _ _ _ h => h
theorem Kp.trans {M : Addr → Prop} {H H1 H2 : Hp} (a : Kp M H H1) (b : Kp M H1 H2) : Kp M H H2 := fun c o n h => b c o n (a c o n h)
theorem Kp.of_same {M : Addr → Prop} {H H' : Hp} (a : Same H H') : Kp M H H' := fun c o _ h => a c o h
theorem Kp.mono {M M' : Addr → Prop} {H H' : Hp} (a : Kp M H H') (h : ∀ b, M b → M' b) : Kp M' H H' := fun c o n q => a c o (fun z => n (h c z)) q
section
variable {K : PySem.W.Frag} {M M' : Addr → Prop} {H H' : Hp}
theorem frz_kp {a : Addr} {o : Obj} {xs : List V} (h : H a = some (.frz o (.tup xs))) (ml : Ml M H) (k : Kp M H H') : H' a = some (.frz o (.tup xs)) := k _ _ (fun m => by
  obtain ⟨ys, e, q⟩ := ml _ m
  rw [h] at e; cases e; exact q) h
theorem sqt_kp {a : Addr} {xs : List V} (h : SqT K H a xs) (ml : Ml M H) (k : Kp M H H') : SqT K H' a xs := by
  rcases h with (h | ⟨o, h⟩) | h
  · refine .inl (.inl (k _ _ (fun m => ?_) h))
    obtain ⟨ys, e, q⟩ := ml _ m
    rw [h] at e; cases e; exact q
  · refine .inl (.inr ⟨o, k _ _ (fun m => ?_) h⟩)
    obtain ⟨ys, e, q⟩ := ml _ m
    rw [h] at e; cases e; exact q
  · exact .inr h
theorem sqt_same {a : Addr} {xs : List V} (s : Same H H') (h : SqT K H a xs) : SqT K H' a xs := by
  rcases h with (h | ⟨o, h⟩) | h
  · exact .inl (.inl (s _ _ h))
  · exact .inl (.inr ⟨o, s _ _ h⟩)
  · exact .inr h
theorem sqlm_kp {a : Addr} {xs : List V} (h : SqLM K M H a xs) (k : Kp M H H') : SqLM K M H' a xs := by
  rcases h with ⟨h | ⟨o, h⟩, n⟩ | h
  · exact .inl ⟨.inl (k _ _ n h), n⟩
  · exact .inl ⟨.inr ⟨o, k _ _ n h⟩, n⟩
  · exact .inr h
theorem sqlm_sub {a : Addr} {xs : List V} (h : SqLM K M H a xs) (s : ∀ b, M' b → M b) : SqLM K M' H a xs := by
  rcases h with ⟨h, n⟩ | h
  · exact .inl ⟨h, fun z => n (s _ z)⟩
  · exact .inr h
theorem dct_kp (ml : Ml M H) (k : Kp M H H') {a : Addr} {ps : List Rk} (h : H a = some (dctO a ps)) : H' a = some (dctO a ps) :=
  k _ _ (fun m => by obtain ⟨xs, e, q⟩ := ml _ m; rw [h] at e; cases e; exact q) h
mutual
theorem Da.kp (ml : Ml M H) (k : Kp M H H') : ∀ {v : V} {d : D}, Da K M H v d → Da K M H' v d
  | _, _, .non => .non
  | _, _, .bl b => .bl b
  | _, _, .int i => .int i
  | _, _, .str x => .str x
  | _, _, .lst h n t => .lst (k _ _ n h) n (DaL.kp ml k t)
  | _, _, .tup h t => .tup (sqt_kp h ml k) (DaL.kp ml k t)
  | _, _, .dct h t n => .dct (dct_kp ml k h) (fun p z => ⟨sqt_kp (t p z).1 ml k, (t p z).2⟩) n
  | _, _, .txd h n l t => .txd (k _ _ n h) n l (DaL.kp ml k t)
  | _, _, .fzt h n t => .fzt (frz_kp h ml k) n (DaL.kp ml k t)
theorem DaL.kp (ml : Ml M H) (k : Kp M H H') : ∀ {vs : List V} {ds : List D}, DaL K M H vs ds → DaL K M H' vs ds
  | _, _, .nil => .nil
  | _, _, .cons h t => .cons (Da.kp ml k h) (DaL.kp ml k t)
end
mutual
theorem Da.sub (s : ∀ b, M' b → M b) : ∀ {v : V} {d : D}, Da K M H v d → Da K M' H v d
  | _, _, .non => .non
  | _, _, .bl b => .bl b
  | _, _, .int i => .int i
  | _, _, .str x => .str x
  | _, _, .lst h n t => .lst h (fun z => n (s _ z)) (DaL.sub s t)
  | _, _, .tup h t => .tup h (DaL.sub s t)
  | _, _, .dct h t n => .dct h t n
  | _, _, .txd h n l t => .txd h (fun z => n (s _ z)) l (DaL.sub s t)
  | _, _, .fzt h n t => .fzt h n (DaL.sub s t)
theorem DaL.sub (s : ∀ b, M' b → M b) : ∀ {vs : List V} {ds : List D}, DaL K M H vs ds → DaL K M' H vs ds
  | _, _, .nil => .nil
  | _, _, .cons h t => .cons (Da.sub s h) (DaL.sub s t)
end
mutual
theorem Da.same (s : Same H H') : ∀ {v : V} {d : D}, Da K M H v d → Da K M H' v d
  | _, _, .non => .non
  | _, _, .bl b => .bl b
  | _, _, .int i => .int i
  | _, _, .str x => .str x
  | _, _, .lst h n t => .lst (s _ _ h) n (DaL.same s t)
  | _, _, .tup h t => .tup (sqt_same s h) (DaL.same s t)
  | _, _, .dct h t n => .dct (s _ _ h) (fun p z => ⟨sqt_same s (t p z).1, (t p z).2⟩) n
  | _, _, .txd h n l t => .txd (s _ _ h) n l (DaL.same s t)
  | _, _, .fzt h n t => .fzt (s _ _ h) n (DaL.same s t)
theorem DaL.same (s : Same H H') : ∀ {vs : List V} {ds : List D}, DaL K M H vs ds → DaL K M H' vs ds
  | _, _, .nil => .nil
  | _, _, .cons h t => .cons (Da.same s h) (DaL.same s t)
end
/-- no list within -/
def noL : D → Bool
  | .none => true
  | .bool _ => true
  | .int _ => true
  | .str _ => true
  | .list _ => false
  | .tuple ds => noLs ds
  | .dict _ => false
where noLs : List D → Bool
  | [] => true
  | d :: ds => noL d && noLs ds
mutual
theorem Da.any : ∀ {v : V} {d : D}, noL d = true → Da K M H v d → Da K M' H v d
  | _, _, _, .non => .non
  | _, _, _, .bl b => .bl b
  | _, _, _, .int i => .int i
  | _, _, _, .str x => .str x
  | _, _, n, .lst h _ t => by simp [noL] at n
  | _, _, n, .tup h t => .tup h (DaL.any (by simpa [noL] using n) t)
  | _, _, n, .dct _ _ _ => by simp [noL] at n
  | _, _, n, .txd _ _ _ _ => by simp [noL] at n
  | _, _, n, .fzt _ _ _ => by simp [noL] at n
theorem DaL.any : ∀ {vs : List V} {ds : List D}, noL.noLs ds = true → DaL K M H vs ds → DaL K M' H vs ds
  | _, _, _, .nil => .nil
  | _, _, n, .cons h t => by
    simp only [noL.noLs, Bool.and_eq_true] at n
    exact .cons (Da.any n.1 h) (DaL.any n.2 t)
end
mutual
theorem Da.dp : ∀ {v : V} {d : D}, Da K M H v d → d.plain = true → Dp K H v d
  | _, _, .non, _ => .non
  | _, _, .bl b, _ => .bl b
  | _, _, .int i, _ => .int i
  | _, _, .str x, _ => .str x
  | _, _, .lst h _ t, p => .lst (.of h) (DaL.dp t p)
  | _, _, .tup h t, p => .tup h (DaL.dp t p)
  | _, _, .fzt _ _ _, p => absurd p Bool.false_ne_true
theorem DaL.dp : ∀ {vs : List V} {ds : List D}, DaL K M H vs ds → PyData.plainAll ds = true → DpAll K H vs ds
  | _, _, .nil, _ => .nil
  | _, _, .cons h t, p => .cons (Da.dp h (Bool.and_eq_true_iff.mp p).1) (DaL.dp t (Bool.and_eq_true_iff.mp p).2)
end
theorem DaL.length : ∀ {vs : List V} {ds : List D}, DaL K M H vs ds → vs.length = ds.length
  | _, _, .nil => rfl
  | _, _, .cons _ t => congrArg (· + 1) (DaL.length t)
theorem DaL.get : ∀ {vs : List V} {ds : List D} {i : Nat} {d : D}, DaL K M H vs ds → ds[i]? = some d → ∃ v, vs[i]? = some v ∧ Da K M H v d
  | _, _, _, _, .nil, e => by simp at e
  | _, _, 0, _, .cons h _, e => by simp at e; subst e; exact ⟨_, rfl, h⟩
  | _, _, i + 1, d, .cons _ t, e => by
    obtain ⟨v, h1, h2⟩ := DaL.get (i := i) (d := d) t (by simpa using e)
    exact ⟨v, by simpa using h1, h2⟩
theorem DaL.append : ∀ {vs ws : List V} {ds es : List D}, DaL K M H vs ds → DaL K M H ws es → DaL K M H (vs ++ ws) (ds ++ es)
  | _, _, _, _, .nil, q => q
  | _, _, _, _, .cons h t, q => .cons h (DaL.append t q)
theorem DaL.dropLast : ∀ {vs : List V} {ds : List D}, DaL K M H vs ds → DaL K M H vs.dropLast ds.dropLast
  | _, _, .nil => .nil
  | _, _, .cons h .nil => .nil
  | _, _, .cons h (.cons h2 t) => .cons h (DaL.dropLast (.cons h2 t))
theorem DaL.take : ∀ {vs : List V} {ds : List D} (n : Nat), DaL K M H vs ds → DaL K M H (vs.take n) (ds.take n)
  | _, _, 0, _ => by simp; exact .nil
  | _, _, _ + 1, .nil => .nil
  | _, _, n + 1, .cons h t => .cons h (DaL.take n t)
theorem DaL.drop : ∀ {vs : List V} {ds : List D} (n : Nat), DaL K M H vs ds → DaL K M H (vs.drop n) (ds.drop n)
  | _, _, 0, t => t
  | _, _, _ + 1, .nil => .nil
  | _, _, n + 1, .cons h t => DaL.drop n t
/-- a new object leaves M and what is tracked -/
theorem Ml.upd {p : Addr} {o : HO} (ml : Ml M H) (hp : H p = none) : Ml M (upd H p o) := fun b m => by
  obtain ⟨xs, e, q⟩ := ml b m
  exact ⟨xs, by rw [upd_ne (ne_of_none e hp)]; exact e, q⟩
theorem same_upd {p : Addr} {o : HO} (hp : H p = none) : Same H (upd H p o) := fun b u q => by rw [upd_ne (ne_of_none q hp)]; exact q
theorem Ml.fresh {p : Addr} (ml : Ml M H) (hp : H p = none) : ¬ M p := fun m => by
  obtain ⟨xs, e, _⟩ := ml p m
  rw [hp] at e; cases e
/-- a fresh tuple, a fresh list -/
theorem Da.newT {p : Addr} {vs : List V} {ds : List D} (ml : Ml M H) (hp : H p = none) (h : DaL K M H vs ds) : Da K M (upd H p (.tup vs)) (.ref p) (.tuple ds) :=
  .tup (.inl (.inl upd_same)) (h.kp ml (.of_same (same_upd hp)))
theorem Da.newL {p : Addr} {vs : List V} {ds : List D} (ml : Ml M H) (hp : H p = none) (h : DaL K M H vs ds) : Da K M (upd H p (.lst vs)) (.ref p) (.list ds) :=
  .lst upd_same (ml.fresh hp) (h.kp ml (.of_same (same_upd hp)))
end
structure RS where
  ns : List Int
  a : Nat
  b : Int
  c : Int
inductive Out (α : Type) where
  | val (a : α)
  | exc (cls : Str) (idx : Option Int)
abbrev Mn (α : Type) := RS → Option (Out α × RS)
/-- what a frame owns: a list, a dict with text keys -/
inductive Ow where
  | l (ds : List D)
  | d (kvs : List (Str × D))
instance : Coe (List D) Ow := ⟨Ow.l⟩
def Ow.ds : Ow → List D
  | .l ds => ds
  | .d kvs => kvs.map (·.2)
def Ow.ho : Ow → List V → HO
  | .l _, xs => .lst xs
  | .d kvs, xs => .dK (tkV (kvs.map (·.1)) xs)
theorem Ow.mut (o : Ow) (xs : List V) : mutO (o.ho xs) := by cases o <;> trivial
inductive Slot where
  | hid
  | dat (d : D)
  | row
  | own (o : Ow)
abbrev Ev := List Slot
/-- where the row stands, and its script -/
structure Rw where
  a : Addr
  sc : Addr
  ns : List Int
def RowAt (K : PySem.W.Frag) (M : Addr → Prop) (H : Hp) (r : Rw) (rs : RS) : Prop :=
  (H r.a = some (.lst [.ref r.sc, .int (rs.a : Int), .int rs.b, .int rs.c]) ∧ rs.ns = r.ns) ∧ SqLM K M H r.sc (r.ns.map V.int)
/-- all that was tracked but the row -/
def Stp (r : Rw) (H H' : Hp) : Prop := ∀ b o, b ≠ r.a → H b = some o → H' b = some o
theorem Stp.refl {r : Rw} (H : Hp) : Stp r H H := fun _ _ _ h => h
theorem Stp.trans {r : Rw} {H H1 H2 : Hp} (a : Stp r H H1) (b : Stp r H1 H2) : Stp r H H2 := fun c o n h => b c o n (a c o n h)
theorem Stp.of_same {r : Rw} {H H' : Hp} (a : Same H H') : Stp r H H' := fun c o _ h => a c o h
theorem Stp.kp {M : Addr → Prop} {r : Rw} {H H' : Hp} (mr : M r.a) (a : Stp r H H') : Kp M H H' := fun b o n h => a b o (fun z => n (z ▸ mr)) h
def SlotAt (K : PySem.W.Frag) (M : Addr → Prop) (r : Rw) (σ : L2.St) (H : Hp) (i : Nat) : Slot → Prop
  | .hid => True
  | .own _ => True
  | .dat d => ∃ v, σ[i]? = some (some v) ∧ Da K M H v d
  | .row => σ[i]? = some (some (.ref r.a))
structure RelE (K : PySem.W.Frag) (M : Addr → Prop) (r : Rw) (σ : L2.St) (H : Hp) (ev : Ev) (rs : RS) : Prop where
  mr : M r.a
  ml : Ml M H
  row : RowAt K M H r rs
  slots : ∀ i s, ev[i]? = some s → SlotAt K M r σ H i s
  len : ev.length ≤ σ.length
section
variable {K : PySem.W.Frag} {M : Addr → Prop} {r : Rw} {σ : L2.St} {H H' H1 : Hp} {ev : Ev} {rs rs' : RS}
theorem Ml.stp (mr : M r.a) (ml : Ml M H) (s : Stp r H H') (rw' : RowAt K M H' r rs') : Ml M H' := fun b m => by
  by_cases e : b = r.a
  · obtain ⟨⟨q, _⟩, _⟩ := rw'
    exact ⟨.lst _, by rw [e]; exact q, trivial⟩
  · obtain ⟨xs, q, mu⟩ := ml b m
    exact ⟨xs, s _ _ e q, mu⟩
theorem SlotAt.kp {i : Nat} (ml : Ml M H) (k : Kp M H H') : ∀ {s : Slot}, SlotAt K M r σ H i s → SlotAt K M r σ H' i s
  | .hid, _ => trivial
  | .own _, _ => trivial
  | .dat d, ⟨v, e, h⟩ => ⟨v, e, h.kp ml k⟩
  | .row, h => h
theorem RelE.stp (R : RelE K M r σ H ev rs) (s : Stp r H H') (rw' : RowAt K M H' r rs') : RelE K M r σ H' ev rs' :=
  ⟨R.mr, R.ml.stp R.mr s rw', rw', fun i t e => (R.slots i t e).kp R.ml (s.kp R.mr), R.len⟩
theorem RowAt.new {p : Addr} {o : HO} (ml : Ml M H) (mr : M r.a) (h : RowAt K M H r rs) (hp : H p = none) : RowAt K M (upd H p o) r rs := by
  obtain ⟨⟨e, e'⟩, q⟩ := h
  exact ⟨⟨by rw [upd_ne (ne_of_none e hp)]; exact e, e'⟩, sqlm_kp q (.of_same (same_upd hp))⟩
theorem RelE.new {p : Addr} {o : HO} (R : RelE K M r σ H ev rs) (hp : H p = none) : RelE K M r σ (upd H p o) ev rs :=
  R.stp (.of_same (same_upd hp)) (R.row.new R.ml R.mr hp)
end
def ExA (mg : Str → Option Value) (x : Str) (i : Option Int) (cls : Value) (dd : Option Addr) (H : Hp) : Prop :=
  (∃ C, mg x = some (.ref C) ∧ cls = .ref C) ∧ (match i with
    | none => dd = none
    | some n => ∃ d, dd = some d ∧ H d = some (.xd [(("index" : Str), V.int n)]))
/-- what is wanted of an outcome -/
def Wan {α : Type} (K : PySem.W.Frag) (mg : Str → Option Value) (M : Addr → Prop) (r : Rw) (H : Hp) (rs' : RS) (E : XK) (V : α → Hp → Prop) : Out α → Prop
  | .val d => ∀ H', Stp r H H' → RowAt K M H' r rs' → V d H'
  | .exc x i => ∀ cls dd H', Stp r H H' → RowAt K M H' r rs' → ExA mg x i cls dd H' → E cls dd H'
def tE (K : PySem.W.Frag) (mg : Str → Option Value) (W : WX) (f : Ev → Mn D) : TE := fun σ H Q =>
  ∃ M r ev rs, RelE K M r σ H ev rs ∧ ∃ o rs', f ev rs = some (o, rs') ∧ Wan K mg M r H rs' (fun cls dd H' => W cls dd σ H') (fun d H' => ∀ v, Da K M H' v d → Q v H') o
def tT (K : PySem.W.Frag) (mg : Str → Option Value) (W : WX) (f : Ev → Mn Bool) : TT := fun σ H Q =>
  ∃ M r ev rs, RelE K M r σ H ev rs ∧ ∃ o rs', f ev rs = some (o, rs') ∧ Wan K mg M r H rs' (fun cls dd H' => W cls dd σ H') (fun b H' => Q b H') o
/-- arguments: data, or the row -/
inductive ArgL (K : PySem.W.Frag) (M : Addr → Prop) (r : Rw) (H : Hp) : List V → List Slot → Prop
  | nil : ArgL K M r H [] []
  | dat {v : V} {d : D} {vs : List V} {ss : List Slot} : Da K M H v d → ArgL K M r H vs ss → ArgL K M r H (v :: vs) (.dat d :: ss)
  | row {vs : List V} {ss : List Slot} : ArgL K M r H vs ss → ArgL K M r H (.ref r.a :: vs) (.row :: ss)
theorem ArgL.kp {K : PySem.W.Frag} {M : Addr → Prop} {r : Rw} {H H' : Hp} (ml : Ml M H) (k : Kp M H H') : ∀ {vs : List V} {ss : List Slot}, ArgL K M r H vs ss → ArgL K M r H' vs ss
  | _, _, .nil => .nil
  | _, _, .dat h t => .dat (h.kp ml k) (ArgL.kp ml k t)
  | _, _, .row t => .row (ArgL.kp ml k t)
theorem ArgL.length {K : PySem.W.Frag} {M : Addr → Prop} {r : Rw} {H : Hp} : ∀ {vs : List V} {ss : List Slot}, ArgL K M r H vs ss → vs.length = ss.length
  | _, _, .nil => rfl
  | _, _, .dat _ t => congrArg (· + 1) (ArgL.length t)
  | _, _, .row t => congrArg (· + 1) (ArgL.length t)
def tAr (K : PySem.W.Frag) (mg : Str → Option Value) (W : WX) (f : Ev → Mn (List Slot)) : TA := fun σ H Q =>
  ∃ M r ev rs, RelE K M r σ H ev rs ∧ ∃ o rs', f ev rs = some (o, rs') ∧ Wan K mg M r H rs' (fun cls dd H' => W cls dd σ H') (fun ss H' => ∀ vs, ArgL K M r H' vs ss → Q vs H') o
structure Gm where
  P : Program
  w : World
  K : PySem.W.Frag
  mg : Str → Option Value
  base : Heap
/-- a scope; which of its cells are stored here -/
structure Sx where
  sc : Scope
  fc : Str → Bool
structure Gd (G : Gm) (k : Nat) (sc : Sx) (N : List Str) (X : Cx) : Prop where
  hN : X.N = N
  nd : N.Nodup
  hsc : X.env.scope = sc.sc
  hfc : ∀ x, sc.fc x = true → X.fn x = true
  calm : X.calm = true
  room : Room k X.A
  hP : X.prog = G.P
  hw : X.w = G.w
  hK : X.K = G.K
  hmg : X.mg = G.mg
  hb : X.base = G.base
  top : sc.fc ("" : Str) = true → X.stack = X.env :: X.outer
def SE (G : Gm) (k : Nat) (sc : Sx) (N : List Str) (e : Expr) (f : Ev → Mn D) : Prop := ∀ (X : Cx) (W : WX), Gd G k sc N X → Takes X W → PE X e (tE G.K G.mg W f)
def ST (G : Gm) (k : Nat) (sc : Sx) (N : List Str) (e : Expr) (f : Ev → Mn Bool) : Prop := ∀ (X : Cx) (W : WX), Gd G k sc N X → Takes X W → PT X e (tT G.K G.mg W f)
def SA (G : Gm) (k : Nat) (sc : Sx) (N : List Str) (es : List Expr) (f : Ev → Mn (List Slot)) : Prop := ∀ (X : Cx) (W : WX), Gd G k sc N X → Takes X W → PA X es (tAr G.K G.mg W f)
theorem pe_imp {X : Cx} {e : Expr} {t t' : TE} (h : PE X e t) (i : ∀ σ H Q, t' σ H Q → t σ H Q) : PE X e t' := ⟨fun pins s σ H Q I q => h.run pins s σ H Q I (i σ H Q q)⟩
theorem pt_imp {X : Cx} {e : Expr} {t t' : TT} (h : PT X e t) (i : ∀ σ H Q, t' σ H Q → t σ H Q) : PT X e t' := ⟨fun pins s σ H Q I q => h.run pins s σ H Q I (i σ H Q q)⟩
theorem pa_imp {X : Cx} {e : List Expr} {t t' : TA} (h : PA X e t) (i : ∀ σ H Q, t' σ H Q → t σ H Q) : PA X e t' := ⟨fun pos pins s σ H Q I q => h.run pos pins s σ H Q I (i σ H Q q)⟩
theorem pss_imp {X : Cx} {e : List Stmt} {t t' : TS} (h : PSs X e t) (i : ∀ D σ H, t' D σ H → t D σ H) : PSs X e t' := ⟨fun pins s σ H D I q => h.run pins s σ H D I (i D σ H q)⟩
theorem ps_imp {X : Cx} {e : Stmt} {t t' : TS} (h : PS X e t) (i : ∀ D σ H, t' D σ H → t D σ H) : PS X e t' := ⟨fun pins s σ H D I q => h.run pins s σ H D I (i D σ H q)⟩
def pur {α : Type} (a : α) : Mn α := fun rs => some (.val a, rs)
def bnd {α β : Type} (m : Mn α) (f : α → Mn β) : Mn β := fun rs => match m rs with
  | none => none
  | some (.val a, rs') => f a rs'
  | some (.exc x i, rs') => some (.exc x i, rs')
def lft {α : Type} (o : Option α) : Mn α := fun rs => match o with
  | none => none
  | some a => some (.val a, rs)
theorem bnd_some {α β : Type} {m : Mn α} {f : α → Mn β} {rs : RS} {o : Out β} {rs' : RS} (h : bnd m f rs = some (o, rs')) :
    (∃ a rs1, m rs = some (.val a, rs1) ∧ f a rs1 = some (o, rs')) ∨ ∃ x i, m rs = some (.exc x i, rs') ∧ o = .exc x i := by
  unfold bnd at h
  split at h
  · cases h
  · rename_i a rs1 e; exact .inl ⟨a, rs1, e, h⟩
  · rename_i x i rs1 e; cases h; exact .inr ⟨x, i, e, rfl⟩
theorem lft_some {α : Type} {v : Option α} {rs rs' : RS} {o : Out α} (h : lft v rs = some (o, rs')) : ∃ a, v = some a ∧ o = .val a ∧ rs' = rs := by
  unfold lft at h
  split at h
  · cases h
  · rename_i a; cases h; exact ⟨a, rfl, rfl, rfl⟩
end DL
namespace DL
open PySem PySem.Spec PyProof.Rows L2
section
variable {K : PySem.W.Frag} {mg : Str → Option Value} {M : Addr → Prop} {r : Rw} {σ : L2.St} {H H' H1 : Hp} {ev : Ev} {rs rs' : RS} {W : WX}
theorem Wan.stp {α : Type} {E : XK} {V : α → Hp → Prop} {o : Out α} (w : Wan K mg M r H rs' E V o) (s : Stp r H H1) : Wan K mg M r H1 rs' E V o := by
  cases o with
  | val a => exact fun H' s' rw' => w H' (s.trans s') rw'
  | exc x i => exact fun cls dd H' s' rw' e => w cls dd H' (s.trans s') rw' e
theorem Wan.exc {α β : Type} {E : XK} {V : α → Hp → Prop} {V' : β → Hp → Prop} {x : Str} {i : Option Int} (w : Wan K mg M r H rs' E V (.exc x i)) : Wan K mg M r H rs' E V' (.exc x i) := w
theorem tE_bnd {β : Type} {fa : Ev → Mn D} {kk : D → Mn β} {o : Out β} {Vb : β → Hp → Prop} {Q1 : VK} (R : RelE K M r σ H ev rs) (h : bnd (fa ev) kk rs = some (o, rs')) (w : Wan K mg M r H rs' (fun cls dd H' => W cls dd σ H') Vb o)
    (c : ∀ x rs1 H1 v, RelE K M r σ H1 ev rs1 → Stp r H H1 → Da K M H1 v x → kk x rs1 = some (o, rs') → Wan K mg M r H1 rs' (fun cls dd H' => W cls dd σ H') Vb o → Q1 v H1) : tE K mg W fa σ H Q1 := by
  rcases bnd_some h with ⟨x, rs1, e1, e2⟩ | ⟨x, i, e1, rfl⟩
  · refine ⟨M, r, ev, rs, R, .val x, rs1, e1, fun H1 s1 w1 v d1 => ?_⟩
    exact c x rs1 H1 v (R.stp s1 w1) s1 d1 e2 (w.stp s1)
  · exact ⟨M, r, ev, rs, R, .exc x i, rs', e1, w.exc⟩
theorem tT_bnd {β : Type} {fa : Ev → Mn Bool} {kk : Bool → Mn β} {o : Out β} {Vb : β → Hp → Prop} {Q1 : Bool → Hp → Prop} (R : RelE K M r σ H ev rs) (h : bnd (fa ev) kk rs = some (o, rs')) (w : Wan K mg M r H rs' (fun cls dd H' => W cls dd σ H') Vb o)
    (c : ∀ x rs1 H1, RelE K M r σ H1 ev rs1 → Stp r H H1 → kk x rs1 = some (o, rs') → Wan K mg M r H1 rs' (fun cls dd H' => W cls dd σ H') Vb o → Q1 x H1) : tT K mg W fa σ H Q1 := by
  rcases bnd_some h with ⟨x, rs1, e1, e2⟩ | ⟨x, i, e1, rfl⟩
  · refine ⟨M, r, ev, rs, R, .val x, rs1, e1, fun H1 s1 w1 => ?_⟩
    exact c x rs1 H1 (R.stp s1 w1) s1 e2 (w.stp s1)
  · exact ⟨M, r, ev, rs, R, .exc x i, rs', e1, w.exc⟩
theorem tAr_bnd {β : Type} {fa : Ev → Mn (List Slot)} {kk : List Slot → Mn β} {o : Out β} {Vb : β → Hp → Prop} {Q1 : List V → Hp → Prop} (R : RelE K M r σ H ev rs) (h : bnd (fa ev) kk rs = some (o, rs')) (w : Wan K mg M r H rs' (fun cls dd H' => W cls dd σ H') Vb o)
    (c : ∀ x rs1 H1 vs, RelE K M r σ H1 ev rs1 → Stp r H H1 → ArgL K M r H1 vs x → kk x rs1 = some (o, rs') → Wan K mg M r H1 rs' (fun cls dd H' => W cls dd σ H') Vb o → Q1 vs H1) : tAr K mg W fa σ H Q1 := by
  rcases bnd_some h with ⟨x, rs1, e1, e2⟩ | ⟨x, i, e1, rfl⟩
  · refine ⟨M, r, ev, rs, R, .val x, rs1, e1, fun H1 s1 w1 v d1 => ?_⟩
    exact c x rs1 H1 v (R.stp s1 w1) s1 d1 e2 (w.stp s1)
  · exact ⟨M, r, ev, rs, R, .exc x i, rs', e1, w.exc⟩
end
section
variable {G : Gm} {k : Nat} {sc : Sx} {N : List Str}
def visB (sc : Sx) (x : Str) : Bool := match sc.sc.names.lookup x with
  | some .local => true
  | some .cell => true
  | some .free => true
  | _ => false
theorem vis_of {sc : Sx} {x : Str} (h : visB sc x = true) : Vis sc.sc x := by
  unfold visB at h
  split at h <;> first | exact .inl (by assumption) | exact .inr (.inl (by assumption)) | exact .inr (.inr (by assumption)) | cases h
def glB (sc : Sx) (x : Str) : Bool := match sc.sc.names.lookup x with
  | some .globalImplicit => true
  | _ => false
theorem gl_of {X : Cx} {x : Str} (g : Gd G k sc N X) (h : glB sc x = true) : Gl X x := by
  unfold glB at h
  split at h
  · rename_i e
    show X.env.scope.names.lookup x = _
    rw [g.hsc]; exact e
  · cases h
def getE (ev : Ev) (i : Nat) : Option D := match ev[i]? with
  | some (.dat d) => some d
  | _ => none
theorem getE_some {ev : Ev} {i : Nat} {d : D} (h : getE ev i = some d) : ev[i]? = some (.dat d) := by
  unfold getE at h
  split at h
  · rename_i e; cases h; exact e
  · cases h
def dVar (i : Nat) (ev : Ev) : Mn D := lft (getE ev i)
theorem e_var (i : Nat) {x : Str} {p : Pos} (hi : N[i]? = some x := by rfl) (hv : visB sc x = true := by rfl) (hd : (x == ("__debug__" : Str)) = false := by decide) (hcd : (x == ("__classdict__" : Str)) = false := by decide) : SE G k sc N (.Name x p) (dVar i) := by
  intro X W g tk
  refine pe_imp (pe_var (i := i) (by rw [g.hN]; exact hi) (by rw [g.hsc]; exact vis_of hv) hd hcd) fun σ H Q h => ?_
  obtain ⟨M, r, ev, rs, R, o, rs', e, w⟩ := h
  obtain ⟨d, e1, rfl, rfl⟩ := lft_some e
  obtain ⟨v, e2, hd⟩ := R.slots i _ (getE_some e1)
  exact ⟨v, e2, w H (.refl H) R.row v hd⟩
def dLit (d : D) (_ : Ev) : Mn D := pur d
theorem e_int {i : Int} {j : Nat} {p : Pos} : SE G k sc N (.Constant (.int i) j p) (dLit (.int i)) := fun X W g tk => pe_imp pe_int fun σ H Q h => by
  obtain ⟨M, r, ev, rs, R, o, rs', e, w⟩ := h
  cases e
  exact w H (.refl H) R.row _ (.int i)
theorem e_bl {b : Bool} {j : Nat} {p : Pos} : SE G k sc N (.Constant (.bool b) j p) (dLit (.bool b)) := fun X W g tk => pe_imp pe_bl fun σ H Q h => by
  obtain ⟨M, r, ev, rs, R, o, rs', e, w⟩ := h
  cases e
  exact w H (.refl H) R.row _ (.bl b)
theorem e_non {j : Nat} {p : Pos} : SE G k sc N (.Constant .none j p) (dLit .none) := fun X W g tk => pe_imp pe_non fun σ H Q h => by
  obtain ⟨M, r, ev, rs, R, o, rs', e, w⟩ := h
  cases e
  exact w H (.refl H) R.row _ .non
theorem e_str {x : Str} {j : Nat} {p : Pos} : SE G k sc N (.Constant (.str x) j p) (dLit (.str x)) := fun X W g tk => pe_imp pe_str fun σ H Q h => by
  obtain ⟨M, r, ev, rs, R, o, rs', e, w⟩ := h
  cases e
  exact w H (.refl H) R.row _ (.str x)
/-- a module's constant that is data -/
def GlD (G : Gm) (x : Str) (d : D) : Prop := ∃ u v, G.mg x = some u ∧ RelV v u ∧ ∀ M H, Da G.K M H v d
theorem e_glob {x : Str} {d : D} {p : Pos} (h : GlD G x d) (hg : glB sc x = true := by rfl) (hdb : (x == ("__debug__" : Str)) = false := by decide) : SE G k sc N (.Name x p) (dLit d) := fun X W g tk => by
  obtain ⟨u, v, h1, h2, h3⟩ := h
  refine pe_imp (pe_glob (gl_of g hg) (by rw [g.hmg]; exact h1) h2 hdb) fun σ H Q h => ?_
  obtain ⟨M, r, ev, rs, R, o, rs', e, w⟩ := h
  cases e
  exact w H (.refl H) R.row _ (h3 M H)
theorem e_bin {e a b : Expr} {fa fb : Ev → Mn D} {op : D → D → Option D} {rl : Cx → R2} (ha : SE G k sc N a fa) (hb : SE G k sc N b fb) (mk : ∀ X ta tb, Gd G k sc N X → PE X a ta → PE X b tb → PE X e (tOp (rl X) ta tb))
    (hr : ∀ X M H x y dx dy d Q, Gd G k sc N X → Ml M H → Da G.K M H x dx → Da G.K M H y dy → op dx dy = some d → (∀ v H', Same H H' → Da G.K M H' v d → Q v H') → rl X x y H Q) :
    SE G k sc N e (fun ev => bnd (fa ev) fun x => bnd (fb ev) fun y => lft (op x y)) := fun X W g tk => by
  refine pe_imp (mk X _ _ g (ha X W g tk) (hb X W g tk)) fun σ H Q h => ?_
  obtain ⟨M, r, ev, rs, R, o, rs', e, w⟩ := h
  refine tE_bnd R e w fun x rs1 H1 v R1 s1 d1 e1 w1 => tE_bnd R1 e1 w1 fun y rs2 H2 u R2 s2 d2 e2 w2 => ?_
  obtain ⟨d, e3, rfl, rfl⟩ := lft_some e2
  refine hr X M H2 v u x y d Q g R2.ml (d1.kp R1.ml (s2.kp R.mr)) d2 e3 fun z H3 s3 d3 => ?_
  exact w2 H3 (.of_same s3) (by
    obtain ⟨⟨q1, q1'⟩, q2⟩ := R2.row
    exact ⟨⟨s3 _ _ q1, q1'⟩, sqlm_kp q2 (.of_same s3)⟩) z d3
theorem row_same {K : PySem.W.Frag} {M : Addr → Prop} {r : Rw} {rs : RS} {H H' : Hp} (h : RowAt K M H r rs) (s : Same H H') : RowAt K M H' r rs := by
  obtain ⟨⟨q1, q1'⟩, q2⟩ := h
  exact ⟨⟨s _ _ q1, q1'⟩, sqlm_kp q2 (.of_same s)⟩
theorem e_one {e a : Expr} {fa : Ev → Mn D} {op : D → Option D} {rl : Cx → V → Hp → VK → Prop} (ha : SE G k sc N a fa) (mk : ∀ X ta, Gd G k sc N X → PE X a ta → PE X e (fun σ H Q => ta σ H fun x H1 => rl X x H1 Q))
    (hr : ∀ X M H x dx d Q, Gd G k sc N X → Ml M H → Da G.K M H x dx → op dx = some d → (∀ v H', Same H H' → Da G.K M H' v d → Q v H') → rl X x H Q) :
    SE G k sc N e (fun ev => bnd (fa ev) fun x => lft (op x)) := fun X W g tk => by
  refine pe_imp (mk X _ g (ha X W g tk)) fun σ H Q h => ?_
  obtain ⟨M, r, ev, rs, R, o, rs', e, w⟩ := h
  refine tE_bnd R e w fun x rs1 H1 v R1 s1 d1 e1 w1 => ?_
  obtain ⟨d, e3, rfl, rfl⟩ := lft_some e1
  exact hr X M H1 v x d Q g R1.ml d1 e3 fun z H3 s3 d3 => w1 H3 (.of_same s3) (row_same R1.row s3) z d3
def dNil (_ : Ev) : Mn (List Slot) := pur []
def dCons (f : Ev → Mn D) (g : Ev → Mn (List Slot)) (ev : Ev) : Mn (List Slot) := bnd (f ev) fun d => bnd (g ev) fun ss => pur (.dat d :: ss)
def isRow : Option Slot → Bool
  | some .row => true
  | _ => false
theorem isRow_some {o : Option Slot} (h : isRow o = true) : o = some .row := by
  unfold isRow at h
  split at h
  · rfl
  · cases h
def dRow (i : Nat) (g : Ev → Mn (List Slot)) (ev : Ev) : Mn (List Slot) := if isRow ev[i]? = true then bnd (g ev) fun ss => pur (.row :: ss) else fun _ => none
theorem a_nil : SA G k sc N [] dNil := fun X W g tk => pa_imp pa_nil fun σ H Q h => by
  obtain ⟨M, r, ev, rs, R, o, rs', e, w⟩ := h
  cases e
  exact w H (.refl H) R.row [] .nil
theorem a_cons {e : Expr} {es : List Expr} {f : Ev → Mn D} {ff : Ev → Mn (List Slot)} (h1 : SE G k sc N e f) (h2 : SA G k sc N es ff) (hs : ∀ env, starEach (e :: es) env = (false, eval e env) :: starEach es env := by intro _; rfl) : SA G k sc N (e :: es) (dCons f ff) := fun X W g tk => by
  refine pa_imp (pa_cons (h1 X W g tk) (h2 X W g tk) (hs _)) fun σ H Q h => ?_
  obtain ⟨M, r, ev, rs, R, o, rs', e, w⟩ := h
  refine tE_bnd R e w fun x rs1 H1 v R1 s1 d1 e1 w1 => tAr_bnd R1 e1 w1 fun ss rs2 H2 vs R2 s2 d2 e2 w2 => ?_
  cases e2
  exact w2 H2 (.refl _) R2.row _ (.dat (d1.kp R1.ml (s2.kp R.mr)) d2)
theorem a_row (i : Nat) {x : Str} {p : Pos} {es : List Expr} {ff : Ev → Mn (List Slot)} (h2 : SA G k sc N es ff) (hi : N[i]? = some x := by rfl) (hv : visB sc x = true := by rfl) (hd : (x == ("__debug__" : Str)) = false := by decide) (hcd : (x == ("__classdict__" : Str)) = false := by decide) :
    SA G k sc N (.Name x p :: es) (dRow i ff) := fun X W g tk => by
  refine pa_imp (pa_cons (pe_var (i := i) (by rw [g.hN]; exact hi) (by rw [g.hsc]; exact vis_of hv) hd hcd) (h2 X W g tk) rfl) fun σ H Q h => ?_
  obtain ⟨M, r, ev, rs, R, o, rs', e, w⟩ := h
  unfold dRow at e
  split at e
  · rename_i er
    refine ⟨.ref r.a, R.slots i _ (isRow_some er), ?_⟩
    refine tAr_bnd R e w fun ss rs2 H2 vs R2 s2 d2 e2 w2 => ?_
    cases e2
    exact w2 H2 (.refl _) R2.row _ (.row d2)
  · cases e
/-- all data -/
def dats : List Slot → Option (List D)
  | [] => some []
  | .dat d :: ss => (dats ss).map (d :: ·)
  | _ :: _ => none
theorem ArgL.dats {K : PySem.W.Frag} {M : Addr → Prop} {r : Rw} {H : Hp} : ∀ {vs : List V} {ss : List Slot} {ds : List D}, ArgL K M r H vs ss → DL.dats ss = some ds → DaL K M H vs ds
  | _, _, _, .nil, e => by cases e; exact .nil
  | _, _, _, .dat h t, e => by
    unfold DL.dats at e
    cases q : DL.dats _ with
    | none => rw [q] at e; cases e
    | some es => rw [q] at e; cases e; exact .cons h (ArgL.dats t q)
  | _, _, _, .row t, e => by simp [DL.dats] at e
def dTup (f : Ev → Mn (List Slot)) (ev : Ev) : Mn D := bnd (f ev) fun ss => lft (if ss.length ≤ sizeLine then (dats ss).map .tuple else none)
def dLst (f : Ev → Mn (List Slot)) (ev : Ev) : Mn D := bnd (f ev) fun ss => lft (if ss.length ≤ sizeLine then (dats ss).map .list else none)
theorem e_tup {es : List Expr} {x1 : Nat} {p : Pos} {f : Ev → Mn (List Slot)} (h : SA G k sc N es f) : SE G k sc N (.Tuple es x1 p) (dTup f) := fun X W g tk => by
  refine pe_imp (pe_tup (h X W g tk)) fun σ H Q h => ?_
  obtain ⟨M, r, ev, rs, R, o, rs', e, w⟩ := h
  refine tAr_bnd R e w fun ss rs2 H2 vs R2 s2 d2 e2 w2 => ?_
  obtain ⟨d, e3, rfl, rfl⟩ := lft_some e2
  split at e3
  · rename_i hl
    cases q : dats ss with
    | none => rw [q] at e3; cases e3
    | some ds =>
      rw [q] at e3; cases e3
      refine ⟨by rw [d2.length]; exact hl, fun p hp => ?_⟩
      exact w2 _ (.of_same (same_upd hp)) (row_same R2.row (same_upd hp)) _ (Da.newT R2.ml hp (d2.dats q))
  · cases e3
theorem e_lst {es : List Expr} {p : Pos} {f : Ev → Mn (List Slot)} (h : SA G k sc N es f) : SE G k sc N (.List es p) (dLst f) := fun X W g tk => by
  refine pe_imp (pe_lst (h X W g tk)) fun σ H Q h => ?_
  obtain ⟨M, r, ev, rs, R, o, rs', e, w⟩ := h
  refine tAr_bnd R e w fun ss rs2 H2 vs R2 s2 d2 e2 w2 => ?_
  obtain ⟨d, e3, rfl, rfl⟩ := lft_some e2
  split at e3
  · rename_i hl
    cases q : dats ss with
    | none => rw [q] at e3; cases e3
    | some ds =>
      rw [q] at e3; cases e3
      refine ⟨by rw [d2.length]; exact hl, fun p hp => ?_⟩
      exact w2 _ (.of_same (same_upd hp)) (row_same R2.row (same_upd hp)) _ (Da.newL R2.ml hp (d2.dats q))
  · cases e3
def spF (G : Gm) (n : Nat) (φ : List Slot → Mn D) : Sp := fun vs H Q E => vs.length = n ∧
  ∃ M r ss rs, M (Rw.a r) ∧ Ml M H ∧ RowAt G.K M H r rs ∧ ArgL G.K M r H vs ss ∧ ∃ o rs', φ ss rs = some (o, rs') ∧ Wan G.K G.mg M r H rs' E (fun d H' => ∀ v, Da G.K M H' v d → Q v H') o
def FO (G : Gm) (k : Nat) (x : Str) (n : Nat) (φ : List Slot → Mn D) : Prop :=
  ∃ (f : Addr) (fd : FuncData) (ps : List Str), G.mg x = some (.ref f) ∧ PySem.W.keepIn G.K (.ref f) = true ∧ Binds G.K fd ps [] ∧ ps.length = n ∧ FnOk G.P G.w G.K G.mg G.base (L2.CX G.P G.w) k f fd ps (spF G n φ)
/-- less is said -/
theorem FO.less {j : Nat} {x : Str} {n : Nat} {φ φ' : List Slot → Mn D} (h : FO G j x n φ) (l : ∀ ss rs o, φ' ss rs = some o → ss.length = n → φ ss rs = some o) : FO G j x n φ' := by
  obtain ⟨f, fd, ps, h1, h2, h3, h4, h5⟩ := h
  refine ⟨f, fd, ps, h1, h2, h3, h4, h5.imp fun vs H Q E q => ?_⟩
  obtain ⟨hn, M, r, ss, rs, m, ml, ro, ar, o, rs', e, w⟩ := q
  exact ⟨hn, M, r, ss, rs, m, ml, ro, ar, o, rs', l _ _ _ e (by rw [← ar.length]; exact hn), w⟩
def dCl (n : Nat) (φ : List Slot → Mn D) (f : Ev → Mn (List Slot)) (ev : Ev) : Mn D := bnd (f ev) fun ss => if ss.length = n then φ ss else fun _ => none
theorem e_call {x : Str} {n j : Nat} {φ : List Slot → Mn D} {p pos : Pos} {e : Expr} {es : List Expr} {f : Ev → Mn (List Slot)} (F : FO G j x n φ) (ha : SA G k sc N (e :: es) f) (hj : j ≤ k := by decide) (hg : glB sc x = true := by rfl) (hdb : (x == ("__debug__" : Str)) = false := by decide)
    (he : ∀ env, starEach (e :: es) env = (false, eval e env) :: starEach es env := by intro _; rfl) (hpl : ∀ env, (backTo pos (starEach es env)).any (·.1) = false := by intro _; rfl) : SE G k sc N (.Call (.Name x p) (e :: es) [] pos) (dCl n φ f) := fun X W g tk => by
  obtain ⟨fa, fd, ps, h1, h2, h3, h4, h5⟩ := F
  have F' : FnOk X.prog X.w X.K X.mg X.base (L2.CX X.prog X.w) j fa fd ps (spF G n φ) := by rw [g.hP, g.hw, g.hK, g.hmg, g.hb]; exact h5
  refine pe_imp (pe_callS F' (g.room.mono hj) (gl_of g hg) (by rw [g.hmg]; exact h1) (by rw [g.hK]; exact h2) (by rw [g.hK]; exact h3) (fun σ => passAt tk σ) (ha X W g tk) hdb (he _) (hpl _)) fun σ H Q h => ?_
  obtain ⟨M, r, ev, rs, R, o, rs', e, w⟩ := h
  refine tAr_bnd R e w fun ss rs2 H2 vs R2 s2 d2 e2 w2 => ?_
  split at e2
  · rename_i hl
    exact ⟨by rw [d2.length]; exact hl, M, r, ss, rs2, R2.mr, R2.ml, R2.row, d2, o, rs', e2, w2⟩
  · cases e2
end
end DL
namespace DL
open PySem PySem.Spec PyProof.Rows L2
section
variable {G : Gm} {k : Nat} {sc : Sx} {N : List Str}
theorem atI_da {K : PySem.W.Frag} {M : Addr → Prop} {H : Hp} {vs : List V} {ds : List D} {i : Int} {d : D} (h : DaL K M H vs ds) (e : atI ds i = some d) : ∃ v, atI vs i = some v ∧ Da K M H v d := by
  unfold atI at e ⊢
  rw [h.length]
  cases q : ixN ds.length i with
  | none => rw [q] at e; cases e
  | some j =>
    rw [q] at e
    obtain ⟨v, h1, h2⟩ := h.get (i := j) e
    exact ⟨v, h1, h2⟩
def ixD : D → D → Option D
  | .tuple ds, .int i => atI ds i
  | .list ds, .int i => atI ds i
  | .str z, .int i => if z.length ≤ sizeLine then (atI z.cps.toList i).map fun c => .str ⟨#[c]⟩ else none
  | _, _ => none
theorem e_ix {a b : Expr} {fa fb : Ev → Mn D} {p : Pos} (ha : SE G k sc N a fa) (hb : SE G k sc N b fb) (hs : ∀ o i, subscripted b false o i = operate [o, i] (getItem o i) := by intro _ _; rfl) :
    SE G k sc N (.Subscript a b p) (fun ev => bnd (fa ev) fun x => bnd (fb ev) fun y => lft (ixD x y)) := by
  refine e_bin (rl := fun X => rIx X.K) ha hb (fun X ta tb g h1 h2 => pe_ix ix_seq h1 h2 hs) fun X M H x y dx dy d Q g ml hx hy e hq => ?_
  rw [g.hK]
  cases hx with
  | tup h t =>
    cases hy with
    | int i =>
      obtain ⟨v, h1, h2⟩ := atI_da t e
      exact .inr (.inl ⟨_, _, i, v, rfl, rfl, h, h1, hq v H (.refl H) h2⟩)
    | _ => cases e
  | lst h n t =>
    cases hy with
    | int i =>
      obtain ⟨v, h1, h2⟩ := atI_da t e
      exact .inl ⟨_, _, i, v, rfl, rfl, .of h, h1, hq v H (.refl H) h2⟩
    | _ => cases e
  | str z =>
    cases hy with
    | int i =>
      have e : (if z.length ≤ sizeLine then (atI z.cps.toList i).map (fun c => PyData.str ⟨#[c]⟩) else none) = some d := e
      split at e
      · rename_i hl
        cases q : atI z.cps.toList i with
        | none => rw [q] at e; cases e
        | some c => rw [q] at e; cases e; exact .inr (.inr ⟨z, i, c, rfl, rfl, hl, q, hq _ H (.refl H) (.str _)⟩)
      · cases e
    | _ => cases e
  | _ => cases hy <;> cases e
def cutL (xs : List D) (lo hi : Option Int) : List D := (xs.drop (HT.sIx xs.length 0 lo)).take (HT.sIx xs.length xs.length hi - HT.sIx xs.length 0 lo)
theorem cut_da {K : PySem.W.Frag} {M : Addr → Prop} {H : Hp} {vs : List V} {ds : List D} (h : DaL K M H vs ds) (lo hi : Option Int) : DaL K M H (cutV vs lo hi) (cutL ds lo hi) := by
  unfold cutV cutL
  rw [h.length]
  exact (h.drop _).take _
/-- x[lo:] -/
def slLo : D → D → Option D
  | .tuple ds, .int i => some (.tuple (cutL ds (some i) none))
  | .list ds, .int i => some (.list (cutL ds (some i) none))
  | _, _ => none
def slHi : D → D → Option D
  | .tuple ds, .int i => some (.tuple (cutL ds none (some i)))
  | .list ds, .int i => some (.list (cutL ds none (some i)))
  | _, _ => none
theorem sl_any {X : Cx} : SlR X (fun x lo hi H Q => rSlA X.K x lo hi H Q ∨ rSlL X.K x lo hi H Q) := sl_tupA.or sl_list
theorem cutV_whole {xs : List V} {lo hi : Option Int} (hw : HT.sIx xs.length 0 lo = 0 ∧ HT.sIx xs.length xs.length hi = xs.length) : cutV xs lo hi = xs := by
  unfold cutV
  rw [hw.1, hw.2, List.drop_zero, Nat.sub_zero, List.take_length]
theorem sl_go {K : PySem.W.Frag} {M : Addr → Prop} {H : Hp} {Q : VK} {x : V} {dx : D} {lo hi : Option Int} {d : D} (ml : Ml M H) (hx : Da K M H x dx) (e : (match dx with
    | .tuple ds => some (PyData.tuple (cutL ds lo hi))
    | .list ds => some (PyData.list (cutL ds lo hi))
    | _ => none) = some d) (hq : ∀ v H', Same H H' → Da K M H' v d → Q v H') : rSlA K x lo hi H Q ∨ rSlL K x lo hi H Q := by
  cases hx with
  | tup h t =>
    cases e
    refine .inl ⟨_, _, rfl, h, fun hw => ?_, fun hw p hp => ?_⟩
    · refine hq _ _ (.refl _) (.tup h ?_)
      have q := cut_da t lo hi
      rw [cutV_whole hw] at q
      exact q
    · exact hq _ _ (same_upd hp) (Da.newT ml hp (cut_da t lo hi))
  | lst h n t =>
    cases e
    exact .inr ⟨_, _, rfl, .of h, fun p hp => hq _ _ (same_upd hp) (Da.newL ml hp (cut_da t lo hi))⟩
  | _ => cases e
theorem pe_sl {X : Cx} {a : Expr} {ta : TE} {lo hi : Option Expr} {tl th : TO} {p1 p2 : Pos} (h1 : PE X a ta) (hl : PO X lo tl) (hu : PO X hi th) : PE X (.Subscript a (.Slice lo hi none p1) p2) (tSl (fun x l u H Q => rSlA X.K x l u H Q ∨ rSlL X.K x l u H Q) ta tl th) := pe_slice sl_any h1 hl hu
theorem e_slLo {a b : Expr} {fa fb : Ev → Mn D} {p1 p2 : Pos} (ha : SE G k sc N a fa) (hb : SE G k sc N b fb) : SE G k sc N (.Subscript a (.Slice (some b) none none p1) p2) (fun ev => bnd (fa ev) fun x => bnd (fb ev) fun y => lft (slLo x y)) := by
  refine e_bin (rl := fun X x y H Q => ∃ i, y = .int i ∧ (rSlA X.K x (some i) none H Q ∨ rSlL X.K x (some i) none H Q)) ha hb (fun X ta tb g h1 h2 => pe_imp (pe_sl h1 (po_some h2) po_none) fun σ H Q h => h) fun X M H x y dx dy d Q g ml hx hy e hq => ?_
  rw [g.hK]
  cases hy with
  | int i =>
    refine ⟨i, rfl, sl_go (d := d) ml hx ?_ hq⟩
    cases dx <;> first | exact e | cases e
  | _ => cases dx <;> cases e
theorem e_slHi {a b : Expr} {fa fb : Ev → Mn D} {p1 p2 : Pos} (ha : SE G k sc N a fa) (hb : SE G k sc N b fb) : SE G k sc N (.Subscript a (.Slice none (some b) none p1) p2) (fun ev => bnd (fa ev) fun x => bnd (fb ev) fun y => lft (slHi x y)) := by
  refine e_bin (rl := fun X x y H Q => ∃ i, y = .int i ∧ (rSlA X.K x none (some i) H Q ∨ rSlL X.K x none (some i) H Q)) ha hb (fun X ta tb g h1 h2 => pe_imp (pe_sl h1 po_none (po_some h2)) fun σ H Q h => h) fun X M H x y dx dy d Q g ml hx hy e hq => ?_
  rw [g.hK]
  cases hy with
  | int i =>
    refine ⟨i, rfl, sl_go (d := d) ml hx ?_ hq⟩
    cases dx <;> first | exact e | cases e
  | _ => cases dx <;> cases e
def CmpR (G : Gm) (k : Nat) (sc : Sx) (N : List Str) (op : CmpOp) (f : D → D → Option Bool) : Prop :=
  ∀ X, Gd G k sc N X → ∃ rl : R2, OpR X (compareOp op) rl ∧ ∀ M H x y dx dy b Q, Ml M H → Da G.K M H x dx → Da G.K M H y dy → f dx dy = some b → Q (.bl b) H → rl x y H Q
theorem e_cmp {a b : Expr} {fa fb : Ev → Mn D} {op : CmpOp} {f : D → D → Option Bool} {p : Pos} (c : CmpR G k sc N op f) (ha : SE G k sc N a fa) (hb : SE G k sc N b fb) (hm : behindInMarks op b = false := by first | exact nomark _ (by decide) (by decide) | rfl) :
    SE G k sc N (.Compare a [op] [b] p) (fun ev => bnd (fa ev) fun x => bnd (fb ev) fun y => lft ((f x y).map .bool)) := fun X W g tk => by
  obtain ⟨rl, ho, hr⟩ := c X g
  refine pe_imp (pe_cmpR ho (ha X W g tk) (hb X W g tk) hm) fun σ H Q h => ?_
  obtain ⟨M, r, ev, rs, R, o, rs', e, w⟩ := h
  refine tE_bnd R e w fun x rs1 H1 v R1 s1 d1 e1 w1 => tE_bnd R1 e1 w1 fun y rs2 H2 u R2 s2 d2 e2 w2 => ?_
  obtain ⟨d, e3, rfl, rfl⟩ := lft_some e2
  cases q : f x y with
  | none => rw [q] at e3; cases e3
  | some c => rw [q] at e3; cases e3; exact hr M H2 v u x y c Q R2.ml (d1.kp R1.ml (s2.kp R.mr)) d2 q (w2 H2 (.refl _) R2.row _ (.bl c))
theorem t_cmp {a b : Expr} {fa fb : Ev → Mn D} {op : CmpOp} {f : D → D → Option Bool} {p : Pos} (c : CmpR G k sc N op f) (ha : SE G k sc N a fa) (hb : SE G k sc N b fb) (hm : behindInMarks op b = false := by first | exact nomark _ (by decide) (by decide) | rfl) :
    ST G k sc N (.Compare a [op] [b] p) (fun ev => bnd (fa ev) fun x => bnd (fb ev) fun y => lft (f x y)) := fun X W g tk => by
  obtain ⟨rl, ho, hr⟩ := c X g
  refine pt_imp (pt_cmpR ho (ha X W g tk) (hb X W g tk) hm) fun σ H Q h => ?_
  obtain ⟨M, r, ev, rs, R, o, rs', e, w⟩ := h
  refine tE_bnd R e w fun x rs1 H1 v R1 s1 d1 e1 w1 => tE_bnd R1 e1 w1 fun y rs2 H2 u R2 s2 d2 e2 w2 => ?_
  obtain ⟨c, e3, rfl, rfl⟩ := lft_some e2
  exact hr M H2 v u x y c _ R2.ml (d1.kp R1.ml (s2.kp R.mr)) d2 e3 ⟨c, rfl, w2 H2 (.refl _) R2.row⟩
theorem plain_sh {d : D} (h : SeqAt.shaped d = true) : d.plain = true := PyData.plain_of_canLay0 d (SeqAt.canLay_of_shaped h)
def eqD (x y : D) : Option Bool := if SeqAt.shaped x = true ∧ SeqAt.shaped y = true then some (PyData.eqv x y) else none
def neD (x y : D) : Option Bool := if SeqAt.shaped x = true ∧ SeqAt.shaped y = true then some (!PyData.eqv x y) else none
theorem c_eq : CmpR G k sc N .Eq eqD := fun X g => ⟨_, op_eqD g.room.units, fun M H x y dx dy b Q ml hx hy e q => by
  unfold eqD at e
  split at e
  · rename_i hs; cases e; rw [g.hK]; exact ⟨dx, dy, hx.dp (plain_sh hs.1), hy.dp (plain_sh hs.2), hs.1, hs.2, q⟩
  · cases e⟩
theorem c_ne : CmpR G k sc N .NotEq neD := fun X g => ⟨_, op_neD g.room.units, fun M H x y dx dy b Q ml hx hy e q => by
  unfold neD at e
  split at e
  · rename_i hs; cases e; rw [g.hK]; exact ⟨dx, dy, hx.dp (plain_sh hs.1), hy.dp (plain_sh hs.2), hs.1, hs.2, q⟩
  · cases e⟩
def ltD : D → D → Option Bool
  | .int i, .int j => some (decide (i < j))
  | .str x, .str y => some (decide (x.cps.toList < y.cps.toList))
  | _, _ => none
def leD : D → D → Option Bool
  | .int i, .int j => some (decide (i ≤ j))
  | _, _ => none
def gtD : D → D → Option Bool
  | .int i, .int j => some (decide (j < i))
  | _, _ => none
theorem c_lt : CmpR G k sc N .Lt ltD := fun X g => ⟨_, op_lt.or op_lt_str, fun M H x y dx dy b Q ml hx hy e q => by
  cases hx <;> cases hy <;> first
    | cases e; done
    | (cases e; exact .inl ⟨_, _, rfl, rfl, q⟩)
    | (cases e; exact .inr ⟨_, _, rfl, rfl, q⟩)⟩
theorem c_le : CmpR G k sc N .LtE leD := fun X g => ⟨_, op_le, fun M H x y dx dy b Q ml hx hy e q => by
  cases hx <;> cases hy <;> first
    | cases e; done
    | (cases e; exact ⟨_, _, rfl, rfl, q⟩)⟩
theorem c_gt : CmpR G k sc N .Gt gtD := fun X g => ⟨_, op_gt, fun M H x y dx dy b Q ml hx hy e q => by
  cases hx <;> cases hy <;> first
    | cases e; done
    | (cases e; exact ⟨_, _, rfl, rfl, q⟩)⟩
/-- x is y, y None or a bool -/
def isD : D → D → Option Bool
  | .none, .none => some true
  | _, .none => some false
  | .bool a, .bool b => some (decide (a = b))
  | _, .bool _ => some false
  | _, _ => none
def isnD (x y : D) : Option Bool := (isD x y).map (!·)
def rIsD (K : PySem.W.Frag) : R2 := fun x y H Q => ∃ M dx dy b, Da K M H x dx ∧ Da K M H y dy ∧ isD dx dy = some b ∧ Q (.bl b) H
def rIsnD (K : PySem.W.Frag) : R2 := fun x y H Q => ∃ M dx dy b, Da K M H x dx ∧ Da K M H y dy ∧ isD dx dy = some b ∧ Q (.bl (!b)) H
theorem is_fact {X : Cx} {K : PySem.W.Frag} {M : Addr → Prop} {H : Hp} {x y : V} {dx dy : D} {b : Bool} {v u : Value} (hx : Da K M H x dx) (hy : Da K M H y dy) (e : isD dx dy = some b) (rx : RelV x v) (ry : RelV y u) : plainIs v u = true ∧ (v == u) = b := by
  cases hy with
  | non =>
    cases ry
    cases hx with
    | non => cases rx; cases e; exact ⟨rfl, rfl⟩
    | bl c => cases rx; cases e; exact ⟨rfl, rfl⟩
    | int i => obtain ⟨t, rfl⟩ := rx; cases e; exact ⟨rfl, rfl⟩
    | str z => obtain ⟨t, rfl⟩ := rx; cases e; exact ⟨rfl, rfl⟩
    | lst h n t => cases rx; cases e; exact ⟨rfl, rfl⟩
    | tup h t => cases rx; cases e; exact ⟨rfl, rfl⟩
    | dct h t n => cases rx; cases e; exact ⟨rfl, rfl⟩
    | txd h n l t => cases rx; cases e; exact ⟨rfl, rfl⟩
    | fzt h n t => cases rx; cases e; exact ⟨rfl, rfl⟩
  | bl c =>
    cases ry
    cases hx with
    | non => cases rx; cases e; exact ⟨rfl, rfl⟩
    | bl c' =>
      cases rx
      have e : some (decide (c' = c)) = some b := e
      cases e
      refine ⟨rfl, ?_⟩
      cases c <;> cases c' <;> rfl
    | int i => obtain ⟨t, rfl⟩ := rx; cases e; exact ⟨rfl, rfl⟩
    | str z => obtain ⟨t, rfl⟩ := rx; cases e; exact ⟨rfl, rfl⟩
    | lst h n t => cases rx; cases e; exact ⟨rfl, rfl⟩
    | tup h t => cases rx; cases e; exact ⟨rfl, rfl⟩
    | dct h t n => cases rx; cases e; exact ⟨rfl, rfl⟩
    | txd h n l t => cases rx; cases e; exact ⟨rfl, rfl⟩
    | fzt h n t => cases rx; cases e; exact ⟨rfl, rfl⟩
  | _ => cases hx <;> cases e
theorem op_isD {X : Cx} : OpR X (compareOp .Is) (rIsD X.K) := by
  intro pins s σ H x y v u Q I rx ry h
  obtain ⟨M, dx, dy, b, hx, hy, e, q⟩ := h
  obtain ⟨p, e2⟩ := is_fact (X := X) hx hy e rx ry
  exact wpAny_is_plain p ⟨.bl b, H, I, by rw [e2]; rfl, q⟩
theorem op_isnD {X : Cx} : OpR X (compareOp .IsNot) (rIsnD X.K) := by
  intro pins s σ H x y v u Q I rx ry h
  obtain ⟨M, dx, dy, b, hx, hy, e, q⟩ := h
  obtain ⟨p, e2⟩ := is_fact (X := X) hx hy e rx ry
  exact wpAny_isNot_plain p ⟨.bl (!b), H, I, by rw [e2]; rfl, q⟩
theorem c_is : CmpR G k sc N .Is isD := fun X g => ⟨_, op_isD, fun M H x y dx dy b Q ml hx hy e q => by rw [g.hK]; exact ⟨M, dx, dy, b, hx, hy, e, q⟩⟩
theorem c_isn : CmpR G k sc N .IsNot isnD := fun X g => ⟨_, op_isnD, fun M H x y dx dy b Q ml hx hy e q => by
  unfold isnD at e
  cases h : isD dx dy with
  | none => rw [h] at e; cases e
  | some c => rw [h] at e; cases e; rw [g.hK]; exact ⟨M, dx, dy, c, hx, hy, h, q⟩⟩
/-- x in y, y a list or a tuple, of flat things or of data -/
def inD (x y : D) : Option Bool := match y with
  | .list ds => if SeqAt.shaped x = true ∧ SeqAt.shaped (.list ds) = true then some (ds.any fun z => PyData.eqv z x) else none
  | .tuple ds => if flatD x = true ∧ ds.all flatD = true then some (ds.any fun z => PyData.eqv z x) else none
  | _ => none
where flatD : D → Bool
  | .none => true
  | .bool _ => true
  | .int _ => true
  | .str _ => true
  | _ => false
theorem flat_v {K : PySem.W.Frag} {M : Addr → Prop} {H : Hp} {x : V} {d : D} (h : Da K M H x d) (f : inD.flatD d = true) : flatV x = true := by
  cases h <;> first | rfl | cases f
theorem flat_vs {K : PySem.W.Frag} {M : Addr → Prop} {H : Hp} : ∀ {xs : List V} {ds : List D}, DaL K M H xs ds → ds.all inD.flatD = true → xs.all flatV = true
  | _, _, .nil, _ => rfl
  | _, _, .cons h t, f => by
    simp only [List.all_cons, Bool.and_eq_true] at f ⊢
    exact ⟨flat_v h f.1, flat_vs t f.2⟩
theorem eqV_d {K : PySem.W.Frag} {M : Addr → Prop} {H : Hp} {x y : V} {dx dy : D} (hx : Da K M H x dx) (hy : Da K M H y dy) (fx : inD.flatD dx = true) (fy : inD.flatD dy = true) : eqV x y = PyData.eqv dx dy := by
  cases hx <;> cases hy <;> first | (simp only [PyData.eqv, eqV]; done) | rfl | cases fx | cases fy
theorem any_d {K : PySem.W.Frag} {M : Addr → Prop} {H : Hp} {x : V} {dx : D} (hx : Da K M H x dx) (fx : inD.flatD dx = true) : ∀ {ys : List V} {ds : List D}, DaL K M H ys ds → ds.all inD.flatD = true → inV x ys = ds.any fun z => PyData.eqv z dx
  | _, _, .nil, _ => rfl
  | _, _, .cons h t, f => by
    simp only [List.all_cons, Bool.and_eq_true] at f
    have ih := any_d hx fx t f.2
    unfold inV at ih ⊢
    rw [List.any_cons, List.any_cons, ih, eqV_d h hx f.1 fx]
theorem in_go {X : Cx} {M : Addr → Prop} {H : Hp} {x y : V} {dx dy : D} {b : Bool} (hx : Da X.K M H x dx) (hy : Da X.K M H y dy) (e : inD dx dy = some b) :
    (∃ ds, dy = .list ds ∧ SeqAt.shaped dx = true ∧ SeqAt.shaped (.list ds) = true ∧ b = ds.any fun z => PyData.eqv z dx) ∨ (∃ p xs, y = .ref p ∧ (SqL X.K H p xs ∨ SqT X.K H p xs) ∧ flatV x = true ∧ xs.all flatV = true ∧ inV x xs = b) := by
  unfold inD at e
  split at e
  · rename_i ds
    split at e
    · rename_i hs; cases e; exact .inl ⟨ds, rfl, hs.1, hs.2, rfl⟩
    · cases e
  · rename_i ds
    split at e
    · rename_i hs
      cases e
      cases hy with
      | tup h t => exact .inr ⟨_, _, rfl, .inr h, flat_v hx hs.1, flat_vs t hs.2, any_d hx hs.1 t hs.2⟩
    · cases e
  · cases e
theorem units65 {X : Cx} (g : Gd G k sc N X) (hk : 1 ≤ k) : X.A.units + 65 < cLine := by
  have := (g.room.mono hk).un
  omega
theorem c_in (hk : 1 ≤ k := by decide) : CmpR G k sc N .In inD := fun X g => ⟨_, (op_inD (units65 g hk)).or op_in_seq, fun M H x y dx dy b Q ml hx hy e q => by
  rw [← g.hK] at hx hy
  rcases in_go hx hy e with ⟨ds, rfl, h1, h2, rfl⟩ | ⟨p, xs, rfl, h1, h2, h3, rfl⟩
  · exact .inl ⟨dx, ds, hx.dp (plain_sh h1), hy.dp (plain_sh h2), h1, h2, q⟩
  · exact .inr ⟨p, xs, rfl, h1, h2, h3, q⟩⟩
def ninD (x y : D) : Option Bool := (inD x y).map (!·)
theorem c_nin (hk : 1 ≤ k := by decide) : CmpR G k sc N .NotIn ninD := fun X g => ⟨_, (op_notInD (units65 g hk)).or op_notIn_seq, fun M H x y dx dy b Q ml hx hy e q => by
  rw [← g.hK] at hx hy
  unfold ninD at e
  cases h : inD dx dy with
  | none => rw [h] at e; cases e
  | some c =>
    rw [h] at e; cases e
    rcases in_go hx hy h with ⟨ds, rfl, h1, h2, rfl⟩ | ⟨p, xs, rfl, h1, h2, h3, rfl⟩
    · exact .inl ⟨dx, ds, hx.dp (plain_sh h1), hy.dp (plain_sh h2), h1, h2, q⟩
    · exact .inr ⟨p, xs, rfl, h1, h2, h3, q⟩⟩
end
end DL
namespace DL
open PySem PySem.Spec PyProof.Rows L2
section
variable {G : Gm} {k : Nat} {sc : Sx} {N : List Str}
def truD : D → Option Bool
  | .none => some false
  | .bool b => some b
  | .int i => some (i != 0)
  | .str y => if y.length ≤ sizeLine then some ((y.length : Int) != 0) else none
  | .list ds => some (!ds.isEmpty)
  | .tuple ds => some (!ds.isEmpty)
  | .dict _ => none
theorem isEmpty_da {K : PySem.W.Frag} {M : Addr → Prop} {H : Hp} {vs : List V} {ds : List D} (h : DaL K M H vs ds) : (!vs.isEmpty) = !ds.isEmpty := by cases h <;> rfl
theorem tru_da {K : PySem.W.Frag} {M : Addr → Prop} {H : Hp} {x : V} {d : D} {b : Bool} (h : Da K M H x d) (e : truD d = some b) : TruV K x H b := by
  cases h with
  | non => cases e; rfl
  | bl c => cases e; rfl
  | int i => cases e; rfl
  | str y =>
    have e : (if y.length ≤ sizeLine then some ((y.length : Int) != 0) else none) = some b := e
    split at e
    · rename_i hl; cases e; exact ⟨hl, rfl⟩
    · cases e
  | lst h n t => cases e; exact .inl ⟨_, .of h, (isEmpty_da t).symm⟩
  | tup h t => cases e; exact .inr (.inl ⟨_, h, (isEmpty_da t).symm⟩)
  | dct h t n => cases e
  | txd h n l t => cases e
  | fzt h n t => cases e
def dTru (f : Ev → Mn D) (ev : Ev) : Mn Bool := bnd (f ev) fun x => lft (truD x)
theorem t_val {e : Expr} {f : Ev → Mn D} (h : SE G k sc N e f) (he : ∀ env whole, isTrue e env whole = (do let v ← whole; standAt e.pos; holding [v] (truthy v)) := by intro _ _; rfl) : ST G k sc N e (dTru f) := fun X W g tk => by
  refine pt_imp (pt_truth (h X W g tk) (he _)) fun σ H Q h => ?_
  obtain ⟨M, r, ev, rs, R, o, rs', e, w⟩ := h
  refine tE_bnd R e w fun x rs1 H1 v R1 s1 d1 e1 w1 => ?_
  obtain ⟨c, e3, rfl, rfl⟩ := lft_some e1
  rw [g.hK]
  exact ⟨c, tru_da d1 e3, w1 H1 (.refl _) R1.row⟩
def SW (G : Gm) (k : Nat) (sc : Sx) (N : List Str) (e : Expr) (f : Ev → Mn Bool) : Prop := ∀ (X : Cx) (W : WX), Gd G k sc N X → Takes X W → PW X e (tT G.K G.mg W f)
theorem pw_imp {X : Cx} {e : Expr} {t t' : TT} (h : PW X e t) (i : ∀ σ H Q, t' σ H Q → t σ H Q) : PW X e t' := ⟨fun wh pins s σ H Q I q => h.run wh pins s σ H Q I (i σ H Q q)⟩
theorem w_and1 {a : Expr} {fa : Ev → Mn Bool} {p : Pos} (h : ST G k sc N a fa) : SW G k sc N (.BoolOp .And [a] p) fa := fun X W g tk => pw_and1 (h X W g tk)
theorem w_or1 {a : Expr} {fa : Ev → Mn Bool} {p : Pos} (h : ST G k sc N a fa) : SW G k sc N (.BoolOp .Or [a] p) fa := fun X W g tk => pw_or1 (h X W g tk)
def dAnd (fa fb : Ev → Mn Bool) (ev : Ev) : Mn Bool := bnd (fa ev) fun c => if c = true then fb ev else pur false
def dOr (fa fb : Ev → Mn Bool) (ev : Ev) : Mn Bool := bnd (fa ev) fun c => if c = true then pur true else fb ev
theorem w_and {a b : Expr} {rest : List Expr} {fa fb : Ev → Mn Bool} {p : Pos} (ha : ST G k sc N a fa) (hb : SW G k sc N (.BoolOp .And (b :: rest) p) fb) : SW G k sc N (.BoolOp .And (a :: b :: rest) p) (dAnd fa fb) := fun X W g tk => by
  refine pw_imp (pw_and (ha X W g tk) (hb X W g tk)) fun σ H Q h => ?_
  obtain ⟨M, r, ev, rs, R, o, rs', e, w⟩ := h
  refine tT_bnd R e w fun x rs1 H1 R1 s1 e1 w1 => ?_
  cases x with
  | true => rw [if_pos rfl] at e1; rw [if_pos rfl]; exact ⟨M, r, ev, rs1, R1, o, rs', e1, w1⟩
  | false => rw [if_neg (by decide)] at e1; rw [if_neg (by decide)]; cases e1; exact w1 H1 (.refl _) R1.row
theorem w_or {a b : Expr} {rest : List Expr} {fa fb : Ev → Mn Bool} {p : Pos} (ha : ST G k sc N a fa) (hb : SW G k sc N (.BoolOp .Or (b :: rest) p) fb) : SW G k sc N (.BoolOp .Or (a :: b :: rest) p) (dOr fa fb) := fun X W g tk => by
  refine pw_imp (pw_or (ha X W g tk) (hb X W g tk)) fun σ H Q h => ?_
  obtain ⟨M, r, ev, rs, R, o, rs', e, w⟩ := h
  refine tT_bnd R e w fun x rs1 H1 R1 s1 e1 w1 => ?_
  cases x with
  | true => rw [if_pos rfl] at e1; rw [if_pos rfl]; cases e1; exact w1 H1 (.refl _) R1.row
  | false => rw [if_neg (by decide)] at e1; rw [if_neg (by decide)]; exact ⟨M, r, ev, rs1, R1, o, rs', e1, w1⟩
theorem t_w {e : Expr} {f : Ev → Mn Bool} (h : SW G k sc N e f) : ST G k sc N e f := fun X W g tk => (h X W g tk).pt
def dNot (f : Ev → Mn Bool) (ev : Ev) : Mn Bool := bnd (f ev) fun c => pur (!c)
theorem t_not {a : Expr} {f : Ev → Mn Bool} {p : Pos} (h : ST G k sc N a f) : ST G k sc N (.UnaryOp .Not a p) (dNot f) := fun X W g tk => by
  refine pt_imp (pt_not (h X W g tk)) fun σ H Q h => ?_
  obtain ⟨M, r, ev, rs, R, o, rs', e, w⟩ := h
  refine tT_bnd R e w fun x rs1 H1 R1 s1 e1 w1 => ?_
  cases e1
  exact w1 H1 (.refl _) R1.row
/-- as values -/
def dOrV (fa fb : Ev → Mn D) (ev : Ev) : Mn D := bnd (fa ev) fun x => bnd (lft (truD x)) fun c => if c = true then pur x else fb ev
def dAndV (fa fb : Ev → Mn D) (ev : Ev) : Mn D := bnd (fa ev) fun x => bnd (lft (truD x)) fun c => if c = true then fb ev else pur x
theorem bnd_lft {α β : Type} {v : Option α} {f : α → Mn β} {rs rs' : RS} {o : Out β} (h : bnd (lft v) f rs = some (o, rs')) : ∃ a, v = some a ∧ f a rs = some (o, rs') := by
  cases v with
  | none => simp [bnd, lft] at h
  | some a => exact ⟨a, rfl, h⟩
theorem e_or1 {a : Expr} {op : BoolOp} {fa : Ev → Mn D} {p : Pos} (h : SE G k sc N a fa) : SE G k sc N (.BoolOp op [a] p) fa := fun X W g tk => pe_one (h X W g tk)
theorem e_and {a b : Expr} {rest : List Expr} {fa fb : Ev → Mn D} {p : Pos} (ha : SE G k sc N a fa) (hb : SE G k sc N (.BoolOp .And (b :: rest) p) fb) : SE G k sc N (.BoolOp .And (a :: b :: rest) p) (dAndV fa fb) := fun X W g tk => by
  refine pe_imp (pe_andT (ha X W g tk) (hb X W g tk)) fun σ H Q h => ?_
  obtain ⟨M, r, ev, rs, R, o, rs', e, w⟩ := h
  refine tE_bnd R e w fun x rs1 H1 v R1 s1 d1 e1 w1 => ?_
  obtain ⟨c, e2, e3⟩ := bnd_lft e1
  rw [g.hK]
  refine ⟨c, tru_da d1 e2, ?_⟩
  cases c with
  | true => rw [if_pos rfl] at e3; rw [if_pos rfl]; exact ⟨M, r, ev, rs1, R1, o, rs', e3, w1⟩
  | false => rw [if_neg (by decide)] at e3; rw [if_neg (by decide)]; cases e3; exact w1 H1 (.refl _) R1.row v d1
def dNotV (f : Ev → Mn D) (ev : Ev) : Mn D := bnd (f ev) fun x => lft ((truD x).map fun c => .bool (!c))
def dIf (t : Ev → Mn Bool) (fa fb : Ev → Mn D) (ev : Ev) : Mn D := bnd (t ev) fun c => if c = true then fa ev else fb ev
theorem e_if {c a b : Expr} {t : Ev → Mn Bool} {fa fb : Ev → Mn D} {p : Pos} (hc : ST G k sc N c t) (ha : SE G k sc N a fa) (hb : SE G k sc N b fb) : SE G k sc N (.IfExp c a b p) (dIf t fa fb) := fun X W g tk => by
  refine pe_imp (pe_ifExp (hc X W g tk) (ha X W g tk) (hb X W g tk)) fun σ H Q h => ?_
  obtain ⟨M, r, ev, rs, R, o, rs', e, w⟩ := h
  refine tT_bnd R e w fun x rs1 H1 R1 s1 e1 w1 => ?_
  cases x with
  | true => rw [if_pos rfl] at e1; rw [if_pos rfl]; exact ⟨M, r, ev, rs1, R1, o, rs', e1, w1⟩
  | false => rw [if_neg (by decide)] at e1; rw [if_neg (by decide)]; exact ⟨M, r, ev, rs1, R1, o, rs', e1, w1⟩
/-- a < b < c -/
def dChain (f f' : D → D → Option Bool) (fa fb fc : Ev → Mn D) (ev : Ev) : Mn D := bnd (fa ev) fun x => bnd (fb ev) fun y => bnd (lft (f x y)) fun c => if c = true then bnd (fc ev) fun z => lft ((f' y z).map .bool) else pur (.bool false)
def dChainT (f f' : D → D → Option Bool) (fa fb fc : Ev → Mn D) (ev : Ev) : Mn Bool := bnd (fa ev) fun x => bnd (fb ev) fun y => bnd (lft (f x y)) fun c => if c = true then bnd (fc ev) fun z => lft (f' y z) else pur false
theorem e_chain {a b c : Expr} {fa fb fc : Ev → Mn D} {op op' : CmpOp} {f f' : D → D → Option Bool} {p : Pos} (h1 : CmpR G k sc N op f) (h2 : CmpR G k sc N op' f') (ha : SE G k sc N a fa) (hb : SE G k sc N b fb) (hc : SE G k sc N c fc)
    (hm : lastMarks [op, op'] [b, c] = false := by with_unfolding_all rfl) : SE G k sc N (.Compare a [op, op'] [b, c] p) (dChain f f' fa fb fc) := fun X W g tk => by
  obtain ⟨rl, ho, hr⟩ := h1 X g
  obtain ⟨rl', ho', hr'⟩ := h2 X g
  refine pe_imp (pe_chain ho ho' (ha X W g tk) (hb X W g tk) (hc X W g tk) hm) fun σ H Q h => ?_
  obtain ⟨M, r, ev, rs, R, o, rs', e, w⟩ := h
  refine tE_bnd R e w fun x rs1 H1 v R1 s1 d1 e1 w1 => tE_bnd R1 e1 w1 fun y rs2 H2 u R2 s2 d2 e2 w2 => ?_
  obtain ⟨c, e3, e4⟩ := bnd_lft e2
  refine hr M H2 v u x y c _ R2.ml (d1.kp R1.ml (s2.kp R.mr)) d2 e3 ⟨c, rfl, ?_⟩
  cases c with
  | false => rw [if_neg (by decide)] at e4; rw [if_neg (by decide)]; cases e4; exact w2 H2 (.refl _) R2.row _ (.bl false)
  | true =>
    rw [if_pos rfl] at e4; rw [if_pos rfl]
    refine tE_bnd R2 e4 w2 fun z rs3 H3 u3 R3 s3 d3 e5 w3 => ?_
    obtain ⟨d, e6, rfl, rfl⟩ := lft_some e5
    cases q : f' y z with
    | none => rw [q] at e6; cases e6
    | some c => rw [q] at e6; cases e6; exact hr' M H3 u u3 y z c _ R3.ml (d2.kp R2.ml (s3.kp R.mr)) d3 q (w3 H3 (.refl _) R3.row _ (.bl c))
def addD : D → D → Option D
  | .int i, .int j => some (.int (i + j))
  | .str x, .str y => if x.length + y.length ≤ sizeLine then some (.str (x ++ y)) else none
  | .tuple xs, .tuple ys => if xs.length + ys.length ≤ sizeLine then some (.tuple (xs ++ ys)) else none
  | .list xs, .list ys => if xs.length + ys.length ≤ sizeLine then some (.list (xs ++ ys)) else none
  | _, _ => none
def subD : D → D → Option D
  | .int i, .int j => some (.int (i - j))
  | _, _ => none
theorem op_addA {X : Cx} : OpR X (binaryOp .Add) (fun x y H Q => rI0 (fun i j => .int (i + j)) x y H Q ∨ (∃ i j, x = .str i ∧ y = .str j ∧ i.length + j.length ≤ sizeLine ∧ Q (.str (i ++ j)) H) ∨ rCatA X.K x y H Q ∨ rCat x y H Q) :=
  op_add.or (op_add_str.or (op_catA.or op_cat))
theorem e_add {a b : Expr} {fa fb : Ev → Mn D} {p : Pos} (ha : SE G k sc N a fa) (hb : SE G k sc N b fb) : SE G k sc N (.BinOp a .Add b p) (fun ev => bnd (fa ev) fun x => bnd (fb ev) fun y => lft (addD x y)) := by
  refine e_bin ha hb (fun X ta tb g h1 h2 => pe_op op_addA h1 h2) fun X M H x y dx dy d Q g ml hx hy e hq => ?_
  cases hx with
  | int i =>
    cases hy with
    | int j => cases e; exact .inl ⟨i, j, rfl, rfl, hq _ H (.refl _) (.int _)⟩
    | _ => cases e
  | str z =>
    cases hy with
    | str z' =>
      have e : (if z.length + z'.length ≤ sizeLine then some (PyData.str (z ++ z')) else none) = some d := e
      split at e
      · rename_i hl; cases e; exact .inr (.inl ⟨z, z', rfl, rfl, hl, hq _ H (.refl _) (.str _)⟩)
      · cases e
    | _ => cases e
  | tup h t =>
    cases hy with
    | tup h' t' =>
      rename_i a xs ds a' xs' ds'
      have e : (if ds.length + ds'.length ≤ sizeLine then some (PyData.tuple (ds ++ ds')) else none) = some d := e
      split at e
      · rename_i hl
        cases e
        refine .inr (.inr (.inl ⟨_, _, _, _, rfl, rfl, by rw [g.hK]; exact h, by rw [g.hK]; exact h', by rw [t.length, t'.length]; exact hl, ?_, ?_, ?_⟩))
        · intro hx
          subst hx
          cases t
          exact hq _ H (.refl _) (.tup h' t')
        · intro hx hy
          subst hy
          cases t'
          exact hq _ H (.refl _) (.tup h (by rw [List.append_nil]; exact t))
        · intro _ _ p hp
          exact hq _ _ (same_upd hp) (Da.newT ml hp (t.append t'))
      · cases e
    | _ => cases e
  | lst h n t =>
    cases hy with
    | lst h' n' t' =>
      rename_i a xs ds a' xs' ds'
      have e : (if ds.length + ds'.length ≤ sizeLine then some (PyData.list (ds ++ ds')) else none) = some d := e
      split at e
      · rename_i hl
        cases e
        exact .inr (.inr (.inr ⟨_, _, _, _, rfl, rfl, h, h', by rw [t.length, t'.length]; exact hl, fun p hp => hq _ _ (same_upd hp) (Da.newL ml hp (t.append t'))⟩))
      · cases e
    | _ => cases e
  | _ => cases hy <;> cases e
theorem e_sub {a b : Expr} {fa fb : Ev → Mn D} {p : Pos} (ha : SE G k sc N a fa) (hb : SE G k sc N b fb) : SE G k sc N (.BinOp a .Sub b p) (fun ev => bnd (fa ev) fun x => bnd (fb ev) fun y => lft (subD x y)) := by
  refine e_bin ha hb (fun X ta tb g h1 h2 => pe_op op_sub h1 h2) fun X M H x y dx dy d Q g ml hx hy e hq => ?_
  cases hx <;> cases hy <;> first
    | cases e; done
    | (cases e; exact ⟨_, _, rfl, rfl, hq _ H (.refl _) (.int _)⟩)
def negD : D → Option D
  | .int i => some (.int (-i))
  | _ => none
theorem e_neg {a : Expr} {fa : Ev → Mn D} {p : Pos} (ha : SE G k sc N a fa) : SE G k sc N (.UnaryOp .USub a p) (fun ev => bnd (fa ev) fun x => lft (negD x)) :=
  e_one (rl := fun X x H Q => rU (fun i => .int (-i)) x H Q) ha (fun X ta g h => pe_un un_neg h) fun X M H x dx d Q g ml hx e hq => by
    cases hx <;> first
      | cases e; done
      | (cases e; exact ⟨_, rfl, hq _ H (.refl _) (.int _)⟩)
end
end DL
namespace DL
open PySem PySem.Spec PyProof.Rows L2
section
variable {G : Gm} {k : Nat} {sc : Sx} {N : List Str}
abbrev Mg0 (G : Gm) (x : Str) : Prop := G.mg x = none
theorem e_arg {e : Expr} {es : List Expr} {f : Ev → Mn (List Slot)} {op : List D → Option D} {rl : Cx → List V → Hp → VK → Prop} (ha : SA G k sc N es f) (mk : ∀ X t, Gd G k sc N X → PA X es t → PE X e (tCB (rl X) t))
    (hr : ∀ X M H vs ds d Q, Gd G k sc N X → Ml M H → DaL G.K M H vs ds → op ds = some d → (∀ v H', Same H H' → Da G.K M H' v d → Q v H') → rl X vs H Q) :
    SE G k sc N e (fun ev => bnd (f ev) fun ss => lft ((dats ss).bind op)) := fun X W g tk => by
  refine pe_imp (mk X _ g (ha X W g tk)) fun σ H Q h => ?_
  obtain ⟨M, r, ev, rs, R, o, rs', e, w⟩ := h
  refine tAr_bnd R e w fun ss rs2 H2 vs R2 s2 d2 e2 w2 => ?_
  obtain ⟨d, e3, rfl, rfl⟩ := lft_some e2
  cases q : dats ss with
  | none => rw [q] at e3; cases e3
  | some ds => rw [q] at e3; exact hr X M H2 vs ds d Q g R2.ml (d2.dats q) e3 fun z H3 s3 d3 => w2 H3 (.of_same s3) (row_same R2.row s3) z d3
def dFn (op : List D → Option D) (f : Ev → Mn (List Slot)) (ev : Ev) : Mn D := bnd (f ev) fun ss => lft ((dats ss).bind op)
theorem e_blt {id : String} {x : Str} {e : Expr} {es : List Expr} {f : Ev → Mn (List Slot)} {op : List D → Option D} {rl : Cx → List V → Hp → VK → Prop} {p pos : Pos} (ha : SA G k sc N (e :: es) f) (cr : ∀ X, Gd G k sc N X → CallR X (.builtin id) (rl X))
    (hr : ∀ X M H vs ds d Q, Gd G k sc N X → Ml M H → DaL G.K M H vs ds → op ds = some d → (∀ v H', Same H H' → Da G.K M H' v d → Q v H') → rl X vs H Q)
    (hv : bootBuiltins x = some (.builtin id)) (hm : Mg0 G x) (hg : glB sc x = true) (hn : x ≠ "__name__") (hdb : (x == ("__debug__" : Str)) = false)
    (he : ∀ env, starEach (e :: es) env = (false, eval e env) :: starEach es env) (hpl : ∀ env, (backTo pos (starEach es env)).any (·.1) = false) : SE G k sc N (.Call (.Name x p) (e :: es) [] pos) (dFn op f) :=
  e_arg ha (fun X t g h => pe_callB (cr X g) (gl_of g hg) (by rw [g.hmg]; exact hm) hv h hn hdb (he _) (hpl _)) hr
theorem e_bty {T : String} {x : Str} {e : Expr} {es : List Expr} {f : Ev → Mn (List Slot)} {op : List D → Option D} {rl : Cx → List V → Hp → VK → Prop} {p pos : Pos} (ha : SA G k sc N (e :: es) f) (cr : ∀ X, Gd G k sc N X → CallR X (.type T) (rl X))
    (hr : ∀ X M H vs ds d Q, Gd G k sc N X → Ml M H → DaL G.K M H vs ds → op ds = some d → (∀ v H', Same H H' → Da G.K M H' v d → Q v H') → rl X vs H Q)
    (hv : bootBuiltins x = some (.type T)) (hm : Mg0 G x) (hg : glB sc x = true) (hn : x ≠ "__name__") (hdb : (x == ("__debug__" : Str)) = false)
    (he : ∀ env, starEach (e :: es) env = (false, eval e env) :: starEach es env) (hpl : ∀ env, (backTo pos (starEach es env)).any (·.1) = false) : SE G k sc N (.Call (.Name x p) (e :: es) [] pos) (dFn op f) :=
  e_arg ha (fun X t g h => pe_callTy (cr X g) (gl_of g hg) (by rw [g.hmg]; exact hm) hv h hn hdb (he _) (hpl _)) hr
def lenD : List D → Option D
  | [.tuple ds] => some (.int ds.length)
  | [.list ds] => some (.int ds.length)
  | [.str z] => if z.length ≤ sizeLine then some (.int z.length) else none
  | _ => none
theorem one_da {K : PySem.W.Frag} {M : Addr → Prop} {H : Hp} {vs : List V} {d : D} (h : DaL K M H vs [d]) : ∃ v, vs = [v] ∧ Da K M H v d := by
  cases h with
  | cons a t => cases t; exact ⟨_, rfl, a⟩
theorem two_da {K : PySem.W.Frag} {M : Addr → Prop} {H : Hp} {vs : List V} {d d' : D} (h : DaL K M H vs [d, d']) : ∃ v v', vs = [v, v'] ∧ Da K M H v d ∧ Da K M H v' d' := by
  cases h with
  | cons a t =>
    obtain ⟨v, e, q⟩ := one_da t
    subst e
    exact ⟨_, _, rfl, a, q⟩
theorem e_len {e : Expr} {f : Ev → Mn (List Slot)} {p pos : Pos} (ha : SA G k sc N [e] f) (hm : Mg0 G "len") (hg : glB sc "len" = true := by rfl) (he : ∀ env, starEach [e] env = (false, eval e env) :: starEach [] env := by intro _; rfl) :
    SE G k sc N (.Call (.Name "len" p) [e] [] pos) (dFn lenD f) :=
  e_blt ha (fun X g => call_len_seq.or call_len_str) (fun X M H vs ds d Q g ml h e hq => by
    unfold lenD at e
    split at e
    · obtain ⟨v, rfl, h1⟩ := one_da h
      cases e
      cases h1 with
      | tup h2 t => exact .inl ⟨_, _, rfl, .inr (by rw [g.hK]; exact h2), by rw [t.length]; exact hq _ H (.refl _) (.int _)⟩
    · obtain ⟨v, rfl, h1⟩ := one_da h
      cases e
      cases h1 with
      | lst h2 n t => exact .inl ⟨_, _, rfl, .inl (.of h2), by rw [t.length]; exact hq _ H (.refl _) (.int _)⟩
    · obtain ⟨v, rfl, h1⟩ := one_da h
      split at e
      · rename_i hl
        cases e
        cases h1 with
        | str z => exact .inr ⟨_, rfl, hl, hq _ H (.refl _) (.int _)⟩
      · cases e
    · cases e) PySem.boot_len hm hg (by decide) (by decide) he (fun _ => rfl)
def intD : List D → Option D
  | [.int i] => some (.int i)
  | [.bool b] => some (.int (if b then 1 else 0))
  | _ => none
theorem e_intc {e : Expr} {f : Ev → Mn (List Slot)} {p pos : Pos} (ha : SA G k sc N [e] f) (hm : Mg0 G "int") (hg : glB sc "int" = true := by rfl) (he : ∀ env, starEach [e] env = (false, eval e env) :: starEach [] env := by intro _; rfl) :
    SE G k sc N (.Call (.Name "int" p) [e] [] pos) (dFn intD f) :=
  e_bty ha (fun X g => call_int1) (fun X M H vs ds d Q g ml h e hq => by
    unfold intD at e
    split at e
    · obtain ⟨v, rfl, h1⟩ := one_da h
      cases e
      cases h1 with
      | int i => exact .inl ⟨_, rfl, hq _ H (.refl _) (.int _)⟩
    · obtain ⟨v, rfl, h1⟩ := one_da h
      cases e
      cases h1 with
      | bl b => exact .inr ⟨_, rfl, hq _ H (.refl _) (.int _)⟩
    · cases e) PyProof.Rows.boot_int hm hg (by decide) (by decide) he (fun _ => rfl)
def tupleD : List D → Option D
  | [.tuple ds] => some (.tuple ds)
  | [.list ds] => some (.tuple ds)
  | _ => none
theorem e_tuple {e : Expr} {f : Ev → Mn (List Slot)} {p pos : Pos} (ha : SA G k sc N [e] f) (hm : Mg0 G "tuple") (hg : glB sc "tuple" = true := by rfl) (he : ∀ env, starEach [e] env = (false, eval e env) :: starEach [] env := by intro _; rfl) :
    SE G k sc N (.Call (.Name "tuple" p) [e] [] pos) (dFn tupleD f) :=
  e_bty ha (fun X g => call_tuple_of) (fun X M H vs ds d Q g ml h e hq => by
    unfold tupleD at e
    split at e
    · obtain ⟨v, rfl, h1⟩ := one_da h
      cases e
      cases h1 with
      | tup h2 t => exact ⟨_, _, rfl, .inr ⟨by rw [g.hK]; exact h2, hq _ H (.refl _) (.tup h2 t)⟩⟩
    · obtain ⟨v, rfl, h1⟩ := one_da h
      cases e
      cases h1 with
      | lst h2 n t => exact ⟨_, _, rfl, .inl ⟨.of h2, fun l hl => hq _ _ (same_upd hl) (Da.newT ml hl t)⟩⟩
    · cases e) PyProof.Rows.boot_tuple hm hg (by decide) (by decide) he (fun _ => rfl)
/-- truth values alone -/
def bools : List D → Option (List Bool)
  | [] => some []
  | .bool b :: ds => (bools ds).map (b :: ·)
  | _ :: _ => none
theorem bools_da {K : PySem.W.Frag} {M : Addr → Prop} {H : Hp} : ∀ {vs : List V} {ds : List D} {bs : List Bool}, DaL K M H vs ds → bools ds = some bs → vs = bs.map V.bl
  | _, _, _, .nil, e => by cases e; rfl
  | _, _, _, .cons h t, e => by
    cases h with
    | bl b =>
      unfold bools at e
      cases q : bools _ with
      | none => rw [q] at e; cases e
      | some bs => rw [q] at e; cases e; rw [bools_da t q]; rfl
    | _ => cases e
def allD : List D → Option D
  | [.list ds] => (bools ds).map fun bs => .bool (bs.all id)
  | _ => none
theorem e_all {e : Expr} {f : Ev → Mn (List Slot)} {p pos : Pos} (ha : SA G k sc N [e] f) (hm : Mg0 G "all") (hg : glB sc "all" = true := by rfl) (he : ∀ env, starEach [e] env = (false, eval e env) :: starEach [] env := by intro _; rfl) :
    SE G k sc N (.Call (.Name "all" p) [e] [] pos) (dFn allD f) :=
  e_blt ha (fun X g => cr_all g.calm) (fun X M H vs ds d Q g ml h e hq => by
    unfold allD at e
    split at e
    · rename_i ds'
      obtain ⟨v, rfl, h1⟩ := one_da h
      cases h1 with
      | lst h2 n t =>
        cases q : bools ds' with
        | none => rw [q] at e; cases e
        | some bs =>
          rw [q] at e; cases e
          have e2 := bools_da t q
          subst e2
          exact ⟨_, bs, rfl, .of h2, hq _ H (.refl _) (.bl _)⟩
    · cases e) PyProof.Rows.boot_all hm hg (by decide) (by decide) he (fun _ => rfl)
inductive Ty where
  | int | bool | str | tuple | list
def Ty.nm : Ty → String
  | .int => "int"
  | .bool => "bool"
  | .str => "str"
  | .tuple => "tuple"
  | .list => "list"
def tyS : D → String
  | .none => "NoneType"
  | .bool _ => "bool"
  | .int _ => "int"
  | .str _ => "str"
  | .list _ => "list"
  | .tuple _ => "tuple"
  | .dict [(.tuple _, .none)] => "tuple"
  | .dict _ => "dict"
def isA : D → Ty → Bool
  | .bool _, .bool => true
  | .bool _, .int => true
  | .int _, .int => true
  | .str _, .str => true
  | .list _, .list => true
  | .tuple _, .tuple => true
  | .dict [(.tuple _, .none)], .tuple => true
  | _, _ => false
def TyY (K : PySem.W.Frag) (H : Hp) (x : V) (t : Value) : Prop := TyX K H x t ∨ ∃ a, x = .ref a ∧ ((∃ ps, H a = some (dctO a ps)) ∨ ∃ kvs, H a = some (.dK kvs)) ∧ t = .type "dict"
section
variable {X : Cx} {pins : List (Addr × Obj)} {σ : L2.St} {H : Hp} {s : Shared}
theorem kit_y {x : V} {u t : Value} (I : Inv X pins σ H s) (rx : RelV x u) (ty : TyY X.K H x t) : ∃ P : Heap → Prop, PySem.W.KitX X.K u t P ∧ P s.heap ∧ u ≠ .builtin "__main__.__loader__#opaque" := by
  rcases ty with ty | ⟨a, rfl, ⟨ps, ea⟩ | ⟨kvs, ea⟩, rfl⟩
  · exact kit_of I rx ty
  · cases (show u = Value.ref a from rx)
    obtain ⟨⟨_, _, xs, _, o, es, ep, h1, h2, _⟩, _⟩ := (show ObjOk X.prog X.w H s.heap a (dctO a ps) from I.hok a _ ea)
    exact ⟨_, PySem.W.kitx_dict, ⟨o, h1, h2.1⟩, fun z => nomatch z⟩
  · cases (show u = Value.ref a from rx)
    obtain ⟨_, _, _, _, o, _, _, h1, h2, _⟩ := (show ObjOk X.prog X.w H s.heap a (.dK kvs) from I.hok a _ ea)
    exact ⟨_, PySem.W.kitx_dict, ⟨o, h1, h2.1⟩, fun z => nomatch z⟩
def rIsY (K : PySem.W.Frag) : List V → Hp → VK → Prop := fun xs H Q => ∃ (x c : V) (t u : Value) (b : Bool), xs = [x, c] ∧ ClsV c u ∧ TyY K H x t ∧ PySem.W.kitOne K t u = some b ∧ Q (.bl b) H
def rIsYT (K : PySem.W.Frag) : List V → Hp → VK → Prop := fun xs H Q => ∃ (x : V) (tp : Addr) (cs : List V) (t : Value) (us : List Value) (b : Bool), xs = [x, .ref tp] ∧ H tp = some (.tup cs) ∧ Paired ClsV cs us ∧ TyY K H x t ∧ PySem.W.kitAny K t us = some b ∧ Q (.bl b) H
theorem call_isY : CallR X (.builtin "isinstance") (rIsY X.K) := by
  intro pins s σ H xs us Q I r h
  obtain ⟨x, c, t, u, b, rfl, k, ty, e, q⟩ := h
  obtain ⟨u1, u2, rfl, r1, r2⟩ := vals2 r
  have e2 := k.eq r2
  subst e2
  obtain ⟨P, Z, p, hx⟩ := kit_y I r1 ty
  exact PySem.W.kia_one Z I.kIn p e hx fun tk => ⟨.bl b, H, I.tok tk, rfl, q⟩
theorem call_isYT : CallR X (.builtin "isinstance") (rIsYT X.K) := by
  intro pins s σ H xs us Q I r h
  obtain ⟨x, tp, cs, t, ws, b, rfl, hT, k, ty, e, q⟩ := h
  obtain ⟨u1, u2, rfl, r1, r2⟩ := vals2 r
  cases (show u2 = Value.ref tp from r2)
  obtain ⟨P, Z, p, hx⟩ := kit_y I r1 ty
  obtain ⟨_, its, rv, o, h1, h2, n, h3⟩ := (show ObjOk X.prog X.w H s.heap tp (.tup cs) from I.hok tp _ hT)
  have e3 := ClsV.all k rv
  subst e3
  obtain ⟨oc, od, dt, sl⟩ := o
  simp only at h2 h3
  subst h2 h3
  exact PySem.W.kia_tup Z I.kIn p h1 e hx fun tk => ⟨.bl b, H, I.tok tk, rfl, q⟩
end
theorem tyS_rk : ∀ ps : List Rk, tyS (.dict (ps.map rkD)) = "dict"
  | [] => rfl
  | [_] => rfl
  | _ :: _ :: _ => rfl
theorem tyS_sk : ∀ ps : List (Str × D), tyS (.dict (ps.map skD)) = "dict"
  | [] => rfl
  | [_] => rfl
  | _ :: _ :: _ => rfl
theorem tyx_da {K : PySem.W.Frag} {M : Addr → Prop} {H : Hp} {x : V} {d : D} (h : Da K M H x d) : TyY K H x (.type (tyS d)) := by
  cases h with
  | dct h t n => exact .inr ⟨_, rfl, .inl ⟨_, h⟩, by rw [tyS_rk]⟩
  | txd h n l t => exact .inr ⟨_, rfl, .inr ⟨_, h⟩, by rw [tyS_sk]⟩
  | fzt h n t => exact .inl <| .fTuple h
  | non => exact .inl <| .base .non
  | bl b => exact .inl <| .base (.bl b)
  | int i => exact .inl <| .base (.int i)
  | str z => exact .inl <| .base (.str z)
  | lst h n t => exact .inl <| .base (.lst h)
  | tup h t =>
    rcases h with (h | ⟨o, h⟩) | ⟨o, its, n, h, c, _⟩
    · exact .inl <| .base (.tup h)
    · exact .inl <| .fTuple h
    · exact .inl <| .kTuple h c
theorem kit_isA (d : D) (t : Ty) : kitB (tyS d) t.nm = some (isA d t) := by
  cases d with
  | dict kvs =>
    have nt : tyS (.dict kvs) = "dict" → isA (.dict kvs) t = isA (.dict []) t → kitB (tyS (.dict kvs)) t.nm = some (isA (.dict kvs) t) := fun e2 e => by
      rw [e, e2]
      cases t <;> decide +kernel
    rcases kvs with _ | ⟨⟨k, v⟩, _ | ⟨q, r⟩⟩
    · exact nt rfl rfl
    · cases k with
      | tuple ds =>
        cases v with
        | none =>
          have e : isA (.dict [(.tuple ds, .none)]) t = isA (.tuple []) t := by cases t <;> rfl
          rw [e]; show kitB "tuple" _ = _
          cases t <;> decide +kernel
        | _ => exact nt rfl (by cases t <;> rfl)
      | _ => exact nt rfl (by cases t <;> rfl)
    · exact nt (by cases k <;> cases v <;> rfl) (by cases t <;> cases k <;> cases v <;> rfl)
  | none => cases t <;> decide +kernel
  | bool b =>
    have e : isA (.bool b) t = isA (.bool true) t := by cases t <;> rfl
    rw [e]; show kitB "bool" _ = _
    cases t <;> decide +kernel
  | int i =>
    have e : isA (.int i) t = isA (.int 0) t := by cases t <;> rfl
    rw [e]; show kitB "int" _ = _
    cases t <;> decide +kernel
  | str z =>
    have e : isA (.str z) t = isA (.str "") t := by cases t <;> rfl
    rw [e]; show kitB "str" _ = _
    cases t <;> decide +kernel
  | list ds =>
    have e : isA (.list ds) t = isA (.list []) t := by cases t <;> rfl
    rw [e]; show kitB "list" _ = _
    cases t <;> decide +kernel
  | tuple ds =>
    have e : isA (.tuple ds) t = isA (.tuple []) t := by cases t <;> rfl
    rw [e]; show kitB "tuple" _ = _
    cases t <;> decide +kernel
/-- a built-in class's name -/
theorem pe_tyn {X : Cx} {x : Str} {T : String} {p : Pos} (g : Gd G k sc N X) (hg : glB sc x = true) (hm : Mg0 G x) (hv : bootBuiltins x = some (.type T)) (hn : x ≠ "__name__") (hd : (x == ("__debug__" : Str)) = false) : PE X (.Name x p) (tC (.ty T)) :=
  pe_bltn (v := .ty T) (gl_of g hg) (by rw [g.hmg]; exact hm) hv rfl hn hd
def dIsi (ts : List Ty) (f : Ev → Mn D) (ev : Ev) : Mn D := bnd (f ev) fun d => pur (.bool (ts.any (isA d)))
theorem e_isi1 {e : Expr} {f : Ev → Mn D} {x : Str} {p1 p pos : Pos} (t : Ty) (ha : SE G k sc N e f) (hv : bootBuiltins x = some (.type t.nm)) (hm : Mg0 G "isinstance") (hmx : Mg0 G x) (hg : glB sc "isinstance" = true := by rfl) (hgx : glB sc x = true := by rfl) (hn : x ≠ "__name__" := by decide) (hd : (x == ("__debug__" : Str)) = false := by decide)
    (he : ∀ env, starEach [e, .Name x p1] env = (false, eval e env) :: starEach [.Name x p1] env := by intro _; rfl) :
    SE G k sc N (.Call (.Name "isinstance" p) [e, .Name x p1] [] pos) (dIsi [t] f) := fun X W g tk => by
  refine pe_imp (pe_callB call_isY (gl_of g hg) (by rw [g.hmg]; exact hm) PyProof.Rows.boot_isinstance (pa_cons (ha X W g tk) (pa_cons (pe_tyn g hgx hmx hv hn hd) pa_nil) (he _)) (by decide) (by decide) (he _) rfl) fun σ H Q h => ?_
  obtain ⟨M, r, ev, rs, R, o, rs', e, w⟩ := h
  refine tE_bnd R e w fun d rs1 H1 v R1 s1 d1 e1 w1 => ?_
  cases e1
  rw [g.hK]
  refine ⟨v, .ty t.nm, .type (tyS d), .type t.nm, isA d t, rfl, .ty _, tyx_da d1, kit_ty (kit_isA d t), ?_⟩
  have q := w1 H1 (.refl _) R1.row _ (.bl ([t].any (isA d)))
  simpa using q
theorem e_isi2 {e : Expr} {f : Ev → Mn D} {x y : Str} {i : Nat} {p1 p2 p3 p pos : Pos} (t u : Ty) (ha : SE G k sc N e f) (hv : bootBuiltins x = some (.type t.nm)) (hu : bootBuiltins y = some (.type u.nm)) (hm : Mg0 G "isinstance") (hmx : Mg0 G x) (hmy : Mg0 G y) (hg : glB sc "isinstance" = true := by rfl) (hgx : glB sc x = true := by rfl) (hgy : glB sc y = true := by rfl)
    (hn : x ≠ "__name__" := by decide) (hd : (x == ("__debug__" : Str)) = false := by decide) (hn2 : y ≠ "__name__" := by decide) (hd2 : (y == ("__debug__" : Str)) = false := by decide)
    (he : ∀ env, starEach [e, .Tuple [.Name x p1, .Name y p2] i p3] env = (false, eval e env) :: starEach [.Tuple [.Name x p1, .Name y p2] i p3] env := by intro _; rfl) :
    SE G k sc N (.Call (.Name "isinstance" p) [e, .Tuple [.Name x p1, .Name y p2] i p3] [] pos) (dIsi [t, u] f) := fun X W g tk => by
  refine pe_imp (pe_callB call_isYT (gl_of g hg) (by rw [g.hmg]; exact hm) PyProof.Rows.boot_isinstance (pa_cons (ha X W g tk) (pa_cons (pe_tup (pa_cons (pe_tyn g hgx hmx hv hn hd) (pa_cons (pe_tyn g hgy hmy hu hn2 hd2) pa_nil))) pa_nil) (he _)) (by decide) (by decide) (he _) rfl) fun σ H Q h => ?_
  obtain ⟨M, r, ev, rs, R, o, rs', e, w⟩ := h
  refine tE_bnd R e w fun d rs1 H1 v R1 s1 d1 e1 w1 => ?_
  cases e1
  refine ⟨by show 2 ≤ sizeLine; decide, fun tp hp => ?_⟩
  rw [g.hK]
  refine ⟨v, tp, [.ty t.nm, .ty u.nm], .type (tyS d), [.type t.nm, .type u.nm], [t, u].any (isA d), rfl, upd_same, .cons (.ty _) (.cons (.ty _) .nil), tyx_da (d1.kp R1.ml (.of_same (same_upd hp))), ?_, ?_⟩
  · refine kitAny_cons (kit_ty (kit_isA d t)) (fun h1 => kitAny_cons (kit_ty (kit_isA d u)) (fun h2 => ?_) fun h2 => by simp [h2]) fun h1 => by simp [h1]
    rw [kitAny_nil]
    simp [h1, h2]
  · exact w1 _ (.of_same (same_upd hp)) (row_same R1.row (same_upd hp)) _ (.bl _)
end
end DL
namespace DL
open PySem PySem.Spec PyProof.Rows L2
section
variable {G : Gm} {k : Nat} {sc : Sx} {N : List Str}
variable {K : PySem.W.Frag} {M M' : Addr → Prop} {H H' H1 : Hp} {r : Rw}
mutual
theorem Da.ext (m : ∀ b, M' b → M b ∨ H b = none) : ∀ {v : V} {d : D}, Da K M H v d → Da K M' H v d
  | _, _, .non => .non
  | _, _, .bl b => .bl b
  | _, _, .int i => .int i
  | _, _, .str x => .str x
  | _, _, .lst h n t => .lst h (fun z => (m _ z).elim n fun q => by rw [h] at q; cases q) (DaL.ext m t)
  | _, _, .tup h t => .tup h (DaL.ext m t)
  | _, _, .dct h t n => .dct h t n
  | _, _, .txd h n l t => .txd h (fun z => (m _ z).elim n fun q => by rw [h] at q; cases q) l (DaL.ext m t)
  | _, _, .fzt h n t => .fzt h n (DaL.ext m t)
theorem DaL.ext (m : ∀ b, M' b → M b ∨ H b = none) : ∀ {vs : List V} {ds : List D}, DaL K M H vs ds → DaL K M' H vs ds
  | _, _, .nil => .nil
  | _, _, .cons h t => .cons (Da.ext m h) (DaL.ext m t)
end
mutual
/-- from M at H1 to M' behind it -/
theorem Da.on (ml : Ml M H1) (m : ∀ b, M' b → M b ∨ H1 b = none) (k : Kp M H1 H') : ∀ {v : V} {d : D}, Da K M H1 v d → Da K M' H' v d
  | _, _, .non => .non
  | _, _, .bl b => .bl b
  | _, _, .int i => .int i
  | _, _, .str x => .str x
  | _, _, .lst h n t => .lst (k _ _ n h) (fun z => (m _ z).elim n fun q => by rw [h] at q; cases q) (DaL.on ml m k t)
  | _, _, .tup h t => .tup (sqt_kp h ml k) (DaL.on ml m k t)
  | _, _, .dct h t n => .dct (dct_kp ml k h) (fun p z => ⟨sqt_kp (t p z).1 ml k, (t p z).2⟩) n
  | _, _, .txd h n l t => .txd (k _ _ n h) (fun z => (m _ z).elim n fun q => by rw [h] at q; cases q) l (DaL.on ml m k t)
  | _, _, .fzt h n t => .fzt (frz_kp h ml k) n (DaL.on ml m k t)
theorem DaL.on (ml : Ml M H1) (m : ∀ b, M' b → M b ∨ H1 b = none) (k : Kp M H1 H') : ∀ {vs : List V} {ds : List D}, DaL K M H1 vs ds → DaL K M' H' vs ds
  | _, _, .nil => .nil
  | _, _, .cons h t => .cons (Da.on ml m k h) (DaL.on ml m k t)
end
structure JOk (K : PySem.W.Frag) (M : Addr → Prop) (J : It) (H1 : Hp) (ds : List D) : Prop where
  go : ∀ H', Kp M H1 H' → ∀ (i : Nat) d, ds[i]? = some d → J.go i H'
  yld : ∀ M' H', Kp M H1 H' → (∀ b, M' b → M b ∨ H1 b = none) → ∀ (i : Nat) d x H'', ds[i]? = some d → J.yld i H' x H'' → Same H' H'' ∧ Da K M' H'' x d
  stop : ∀ H', Kp M H1 H' → J.stop ds.length H'
def tI (K : PySem.W.Frag) (mg : Str → Option Value) (W : WX) (f : Ev → Mn (List D)) : TI := fun σ H R =>
  ∃ M r ev rs, RelE K M r σ H ev rs ∧ ∃ o rs', f ev rs = some (o, rs') ∧ Wan K mg M r H rs' (fun cls dd H' => W cls dd σ H') (fun ds H' => Ml M H' → ∀ J, JOk K M J H' ds → R J H') o
def SI (G : Gm) (k : Nat) (sc : Sx) (N : List Str) (tg e : Expr) (f : Ev → Mn (List D)) : Prop := ∀ (X : Cx) (W : WX), Gd G k sc N X → Takes X W → PI X tg e (tI G.K G.mg W f)
theorem pi_imp {X : Cx} {tg e : Expr} {t t' : TI} (h : PI X tg e t) (i : ∀ σ H Q, t' σ H Q → t σ H Q) : PI X tg e t' := ⟨fun pins s σ H Q I q => h.run pins s σ H Q I (i σ H Q q)⟩
theorem jok_list {a : Addr} {xs : List V} {ds : List D} (ml : Ml M H1) (h : H1 a = some (.lst xs)) (n : ¬ M a) (t : DaL K M H1 xs ds) : JOk K M (Itl K a) H1 ds where
  go := fun H' kp i d e => by
    obtain ⟨v, h1, h2⟩ := t.get e
    exact ⟨xs, v, .of (kp _ _ n h), h1⟩
  yld := fun M' H' kp m i d x H'' e y => by
    obtain ⟨rfl, y⟩ := y
    obtain ⟨v, h1, h2⟩ := t.get e
    have q := y xs (.of (kp _ _ n h))
    rw [h1] at q
    cases q
    exact ⟨.refl _, h2.on ml m kp⟩
  stop := fun H' kp => ⟨xs, .of (kp _ _ n h), by rw [t.length]; exact Nat.le_refl _⟩
theorem jok_tup {a : Addr} {xs : List V} {ds : List D} (ml : Ml M H1) (h : SqT K H1 a xs) (t : DaL K M H1 xs ds) : JOk K M (Itt K a) H1 ds where
  go := fun H' kp i d e => by
    obtain ⟨v, h1, h2⟩ := t.get e
    exact ⟨xs, v, sqt_kp h ml kp, h1⟩
  yld := fun M' H' kp m i d x H'' e y => by
    obtain ⟨rfl, y⟩ := y
    obtain ⟨v, h1, h2⟩ := t.get e
    have q := y xs (sqt_kp h ml kp)
    rw [h1] at q
    cases q
    exact ⟨.refl _, h2.on ml m kp⟩
  stop := fun H' kp => ⟨xs, sqt_kp h ml kp, by rw [t.length]; exact Nat.le_refl _⟩
/-- a list or a tuple, as it comes -/
def iSeq (K : PySem.W.Frag) (te : TE) : TI := fun σ H R => te σ H fun x H1 => ∃ a, x = .ref a ∧ ((∃ xs, SqL K H1 a xs) ∧ R (Itl K a) H1 ∨ (∃ xs, SqT K H1 a xs) ∧ R (Itt K a) H1)
theorem pi_seq {X : Cx} {tg l : Expr} {te : TE} (hl : PE X l te) : PI X tg l (iSeq X.K te) := by
  refine ⟨fun pins s σ H R I h => thn (hl.run pins s σ H _ I h) fun v s1 hh => ?_⟩
  obtain ⟨x, H1, I1, r1, a, e, q⟩ := hh
  subst e; cases r1
  have fin : ∀ (J : It) (tn : Nat → Heap → Prop) (o : Obj), (∀ it, Turn X.prog X.w X.K tg J [it] it tn) → R J H1 → tn 0 (s1.heap.push o) → PIE X pins σ tg R (.ref s1.heap.objs.size) { s1 with heap := s1.heap.push o } := fun J tn o T qR st => by
    refine ⟨s1.heap.objs.size, [s1.heap.objs.size], tn, J, H1, rfl, I1.kept (t' := s1.toks) (fun b u e => Heap.get?_push_of_some _ e), T _, st, fun b hb => ?_, qR⟩
    rw [List.mem_singleton.mp hb]
    exact I1.fpOk (Nat.le_refl _) (I1.hok.fresh (Nat.le_refl _))
  rcases q with ⟨⟨xs, hq⟩, q⟩ | ⟨⟨xs, hq⟩, q⟩
  · obtain ⟨its, rv, p, hz⟩ := I1.list hq
    refine wpAny_pyIter_list p.isList ?_
    obtain ⟨it, hit⟩ : ∃ it, it = s1.heap.objs.size := ⟨_, rfl⟩
    refine ⟨s1.heap.objs.size, [s1.heap.objs.size], _, _, H1, rfl, I1.kept (t' := s1.toks) (fun b u e => Heap.get?_push_of_some _ e), turn_list a _, ⟨_, Heap.get?_push_size _ rfl, rfl, rfl⟩, fun b hb => ?_, q⟩
    rw [List.mem_singleton.mp hb]
    exact I1.fpOk (Nat.le_refl _) (I1.hok.fresh (Nat.le_refl _))
  · obtain ⟨its, rv, p, hz⟩ := I1.tuple hq
    refine wpAny_pyIter_tuple (show s1.heap.IsTuple a its.toArray from p) ?_
    refine ⟨s1.heap.objs.size, [s1.heap.objs.size], _, _, H1, rfl, I1.kept (t' := s1.toks) (fun b u e => Heap.get?_push_of_some _ e), turn_tuple a _, ⟨_, Heap.get?_push_size _ rfl, rfl, rfl⟩, fun b hb => ?_, q⟩
    rw [List.mem_singleton.mp hb]
    exact I1.fpOk (Nat.le_refl _) (I1.hok.fresh (Nat.le_refl _))
def itmD : D → Option (List D)
  | .list ds => some ds
  | .tuple ds => some ds
  | _ => none
def dItm (f : Ev → Mn D) (ev : Ev) : Mn (List D) := bnd (f ev) fun x => lft (itmD x)
theorem i_seq {tg e : Expr} {f : Ev → Mn D} (h : SE G k sc N e f) : SI G k sc N tg e (dItm f) := fun X W g tk => by
  refine pi_imp (pi_seq (h X W g tk)) fun σ H Q h => ?_
  obtain ⟨M, r, ev, rs, R, o, rs', e, w⟩ := h
  refine tE_bnd R e w fun x rs1 H1 v R1 s1 d1 e1 w1 => ?_
  obtain ⟨ds, e3, rfl, rfl⟩ := lft_some e1
  rw [g.hK]
  cases d1 with
  | lst h n t => cases e3; exact ⟨_, rfl, .inl ⟨⟨_, .of h⟩, w1 H1 (.refl _) R1.row R1.ml _ (jok_list R1.ml h n t)⟩⟩
  | tup h t => cases e3; exact ⟨_, rfl, .inr ⟨⟨_, h⟩, w1 H1 (.refl _) R1.row R1.ml _ (jok_tup R1.ml h t)⟩⟩
  | _ => cases e3
/-- range(n), range(a, b) -/
def rngD (a b : Int) : List D := (List.range (b - a).toNat).map fun i => .int (a + (i : Nat))
theorem rng_get {a b : Int} {i : Nat} {d : D} (h : (rngD a b)[i]? = some d) : i < (b - a).toNat ∧ d = .int (a + (i : Nat)) := by
  unfold rngD at h
  rw [List.getElem?_map] at h
  cases q : (List.range (b - a).toNat)[i]? with
  | none => rw [q] at h; cases h
  | some j =>
    rw [q] at h; cases h
    obtain ⟨h1, h2⟩ := List.getElem?_eq_some_iff.mp q
    rw [List.getElem_range] at h2
    subst h2
    exact ⟨by simpa using h1, rfl⟩
theorem jok_rng {a b : Int} : JOk K M (Itr a (b - a).toNat) H1 (rngD a b) where
  go := fun H' kp i d e => (rng_get e).1
  yld := fun M' H' kp m i d x H'' e y => by
    obtain ⟨rfl, rfl⟩ := y
    rw [(rng_get e).2]
    exact ⟨.refl _, .int _⟩
  stop := fun H' kp => by
    show (b - a).toNat ≤ (rngD a b).length
    unfold rngD
    rw [List.length_map, List.length_range]
    exact Nat.le_refl _
def rng1 : List D → Option (List D)
  | [.int j] => if -(2 ^ 62) ≤ j ∧ j < 2 ^ 62 then some (rngD 0 j) else none
  | _ => none
def dRng (op : List D → Option (List D)) (f : Ev → Mn (List Slot)) (ev : Ev) : Mn (List D) := bnd (f ev) fun ss => lft ((dats ss).bind op)
theorem i_range1 {tg a : Expr} {f : Ev → Mn (List Slot)} {p pos : Pos} (h : SA G k sc N [a] f) (hm : Mg0 G "range") (hg : glB sc "range" = true := by rfl) (hs : ∀ env, starEach [a] env = [(false, eval a env)] := by intro _; rfl) :
    SI G k sc N tg (.Call (.Name "range" p) [a] [] pos) (dRng rng1 f) := fun X W g tk => by
  refine pi_imp (pi_range1 (gl_of g hg) (by rw [g.hmg]; exact hm) (h X W g tk) (hs _)) fun σ H Q h => ?_
  obtain ⟨M, r, ev, rs, R, o, rs', e, w⟩ := h
  refine tAr_bnd R e w fun ss rs1 H1 vs R1 s1 d1 e1 w1 => ?_
  obtain ⟨ds, e3, rfl, rfl⟩ := lft_some e1
  cases q : dats ss with
  | none => rw [q] at e3; cases e3
  | some as =>
    rw [q] at e3
    replace e3 : rng1 as = some ds := e3
    unfold rng1 at e3
    split at e3
    · rename_i j
      split at e3
      · rename_i hj
        cases e3
        obtain ⟨v, rfl, h1⟩ := one_da (d1.dats q)
        cases h1
        have z := w1 H1 (.refl _) R1.row R1.ml (Itr 0 (j - 0).toNat) jok_rng
        rw [Int.sub_zero] at z
        exact ⟨j, rfl, hj.1, hj.2, z⟩
      · cases e3
    · cases e3
/-- zip(a, b) of two tuples or two lists; the target is a written tuple -/
def zipD : List D → Option (List D)
  | [.tuple xs, .tuple ys] => some ((xs.zip ys).map fun p => .tuple [p.1, p.2])
  | [.list xs, .list ys] => some ((xs.zip ys).map fun p => .tuple [p.1, p.2])
  | _ => none
theorem zip_get {xs ys : List D} {i : Nat} {d : D} (h : ((xs.zip ys).map fun p => PyData.tuple [p.1, p.2])[i]? = some d) : ∃ x y, xs[i]? = some x ∧ ys[i]? = some y ∧ d = .tuple [x, y] := by
  rw [List.getElem?_map] at h
  cases q : (xs.zip ys)[i]? with
  | none => rw [q] at h; cases h
  | some p =>
    rw [q] at h; cases h
    obtain ⟨h1, h2⟩ := List.getElem?_zip_eq_some.mp q
    exact ⟨p.1, p.2, h1, h2, rfl⟩
theorem zip_len {xs ys : List D} {vs ws : List V} (h1 : vs.length = xs.length) (h2 : ws.length = ys.length) : vs.length ≤ ((xs.zip ys).map fun p => PyData.tuple [p.1, p.2]).length ∨ ws.length ≤ ((xs.zip ys).map fun p => PyData.tuple [p.1, p.2]).length := by
  rw [List.length_map, List.length_zip]
  omega
theorem new_pair {H' H'' : Hp} {T : Addr} {x y : V} {dx dy : D} (n : H' T = none) (e : H'' = upd H' T (.tup [x, y])) (hx : Da K M' H' x dx) (hy : Da K M' H' y dy) : Same H' H'' ∧ Da K M' H'' (.ref T) (.tuple [dx, dy]) := by
  subst e
  have s := same_upd (o := .tup [x, y]) n
  exact ⟨s, .tup (.inl (.inl upd_same)) (.cons (hx.same s) (.cons (hy.same s) .nil))⟩
theorem DaL.get' {vs : List V} {ds : List D} {i : Nat} {v : V} {d : D} (h : DaL K M H vs ds) (e1 : vs[i]? = some v) (e2 : ds[i]? = some d) : Da K M H v d := by
  obtain ⟨u, h1, h2⟩ := h.get e2
  rw [e1] at h1; cases h1
  exact h2
theorem jok_zipT {a b : Addr} {vs ws : List V} {xs ys : List D} (ml : Ml M H1) (h : SqT K H1 a vs) (h' : SqT K H1 b ws) (t : DaL K M H1 vs xs) (t' : DaL K M H1 ws ys) :
    JOk K M (RZ.ItzT K a b) H1 ((xs.zip ys).map fun p => .tuple [p.1, p.2]) where
  go := fun H' kp i d e => by
    obtain ⟨x, y, e1, e2, rfl⟩ := zip_get e
    obtain ⟨v, h1, _⟩ := t.get e1
    obtain ⟨u, h2, _⟩ := t'.get e2
    exact ⟨vs, ws, v, u, sqt_kp h ml kp, sqt_kp h' ml kp, h1, h2⟩
  yld := fun M' H' kp m i d x H'' e y => by
    obtain ⟨dx, dy, e1, e2, rfl⟩ := zip_get e
    obtain ⟨T, v, u, rfl, n, e3, q1, q2⟩ := y
    exact new_pair n e3 ((t.get' (q1 _ (sqt_kp h ml kp)) e1).on ml m kp) ((t'.get' (q2 _ (sqt_kp h' ml kp)) e2).on ml m kp)
  stop := fun H' kp => ⟨vs, ws, sqt_kp h ml kp, sqt_kp h' ml kp, zip_len t.length t'.length⟩
theorem jok_zipL {a b : Addr} {vs ws : List V} {xs ys : List D} (ml : Ml M H1) (h : H1 a = some (.lst vs)) (n : ¬ M a) (h' : H1 b = some (.lst ws)) (n' : ¬ M b) (t : DaL K M H1 vs xs) (t' : DaL K M H1 ws ys) :
    JOk K M (Itz K a b) H1 ((xs.zip ys).map fun p => .tuple [p.1, p.2]) where
  go := fun H' kp i d e => by
    obtain ⟨x, y, e1, e2, rfl⟩ := zip_get e
    obtain ⟨v, h1, _⟩ := t.get e1
    obtain ⟨u, h2, _⟩ := t'.get e2
    exact ⟨vs, ws, v, u, .of (kp _ _ n h), .of (kp _ _ n' h'), h1, h2⟩
  yld := fun M' H' kp m i d x H'' e y => by
    obtain ⟨dx, dy, e1, e2, rfl⟩ := zip_get e
    obtain ⟨T, v, u, rfl, nn, e3, q1, q2⟩ := y
    exact new_pair nn e3 ((t.get' (q1 _ (.of (kp _ _ n h))) e1).on ml m kp) ((t'.get' (q2 _ (.of (kp _ _ n' h'))) e2).on ml m kp)
  stop := fun H' kp => ⟨vs, ws, .of (kp _ _ n h), .of (kp _ _ n' h'), zip_len t.length t'.length⟩
theorem i_zip {a b : Expr} {f : Ev → Mn (List Slot)} {es : List Expr} {j : Nat} {tp p pos : Pos} (h : SA G k sc N [a, b] f) (hm : Mg0 G "zip") (hg : glB sc "zip" = true := by rfl) (hs : ∀ env, starEach [a, b] env = (false, eval a env) :: starEach [b] env := by intro _; rfl) (hs2 : ∀ env, (backTo pos (starEach [b] env)).any (·.1) = false := by intro _; rfl) :
    SI G k sc N (.Tuple es j tp) (.Call (.Name "zip" p) [a, b] [] pos) (dRng zipD f) := fun X W g tk => by
  refine pi_imp (RZ.pi_zipA (gl_of g hg) (by rw [g.hmg]; exact hm) (h X W g tk) (hs _) (hs2 _)) fun σ H Q h => ?_
  obtain ⟨M, r, ev, rs, R, o, rs', e, w⟩ := h
  refine tAr_bnd R e w fun ss rs1 H1 vs R1 s1 d1 e1 w1 => ?_
  obtain ⟨ds, e3, rfl, rfl⟩ := lft_some e1
  cases q : dats ss with
  | none => rw [q] at e3; cases e3
  | some as =>
    rw [q] at e3
    replace e3 : zipD as = some ds := e3
    unfold zipD at e3
    rw [g.hK]
    split at e3
    · cases e3
      obtain ⟨v, v', rfl, h1, h2⟩ := two_da (d1.dats q)
      cases h1 with
      | tup q1 t1 =>
        cases h2 with
        | tup q2 t2 => exact ⟨_, _, _, _, rfl, .inr ⟨q1, q2, w1 H1 (.refl _) R1.row R1.ml _ (jok_zipT R1.ml q1 q2 t1 t2)⟩⟩
    · cases e3
      obtain ⟨v, v', rfl, h1, h2⟩ := two_da (d1.dats q)
      cases h1 with
      | lst q1 n1 t1 =>
        cases h2 with
        | lst q2 n2 t2 => exact ⟨_, _, _, _, rfl, .inl ⟨.of q1, .of q2, w1 H1 (.refl _) R1.row R1.ml _ (jok_zipL R1.ml q1 n1 q2 n2 t1 t2)⟩⟩
    · cases e3
/-- enumerate(xs) of a list -/
def enumD : List D → Option (List D)
  | [.list xs] => some (((List.range xs.length).zip xs).map fun p => .tuple [.int (p.1 : Nat), p.2])
  | _ => none
theorem enum_get {xs : List D} {i : Nat} {d : D} (h : (((List.range xs.length).zip xs).map fun p => PyData.tuple [.int (p.1 : Nat), p.2])[i]? = some d) : ∃ x, xs[i]? = some x ∧ d = .tuple [.int (i : Nat), x] := by
  rw [List.getElem?_map] at h
  cases q : ((List.range xs.length).zip xs)[i]? with
  | none => rw [q] at h; cases h
  | some p =>
    rw [q] at h; cases h
    obtain ⟨h1, h2⟩ := List.getElem?_zip_eq_some.mp q
    obtain ⟨h3, h4⟩ := List.getElem?_eq_some_iff.mp h1
    rw [List.getElem_range] at h4
    exact ⟨p.2, h2, by show PyData.tuple [.int (p.1 : Nat), p.2] = _; rw [← h4]⟩
theorem jok_enum {a : Addr} {vs : List V} {xs : List D} (ml : Ml M H1) (h : H1 a = some (.lst vs)) (n : ¬ M a) (t : DaL K M H1 vs xs) :
    JOk K M (Ite K a) H1 (((List.range xs.length).zip xs).map fun p => .tuple [.int (p.1 : Nat), p.2]) where
  go := fun H' kp i d e => by
    obtain ⟨x, e1, rfl⟩ := enum_get e
    obtain ⟨v, h1, _⟩ := t.get e1
    exact ⟨vs, v, .of (kp _ _ n h), h1⟩
  yld := fun M' H' kp m i d x H'' e y => by
    obtain ⟨dx, e1, rfl⟩ := enum_get e
    obtain ⟨T, v, rfl, nn, e3, q1⟩ := y
    exact new_pair nn e3 (.int _) ((t.get' (q1 _ (.of (kp _ _ n h))) e1).on ml m kp)
  stop := fun H' kp => ⟨vs, .of (kp _ _ n h), by rw [t.length, List.length_map, List.length_zip, List.length_range]; omega⟩
theorem i_enum {a : Expr} {f : Ev → Mn (List Slot)} {es : List Expr} {j : Nat} {tp p pos : Pos} (h : SA G k sc N [a] f) (hm : Mg0 G "enumerate") (hg : glB sc "enumerate" = true := by rfl) (hs : ∀ env, starEach [a] env = [(false, eval a env)] := by intro _; rfl) :
    SI G k sc N (.Tuple es j tp) (.Call (.Name "enumerate" p) [a] [] pos) (dRng enumD f) := fun X W g tk => by
  refine pi_imp (pi_enum (gl_of g hg) (by rw [g.hmg]; exact hm) (h X W g tk) (hs _)) fun σ H Q h => ?_
  obtain ⟨M, r, ev, rs, R, o, rs', e, w⟩ := h
  refine tAr_bnd R e w fun ss rs1 H1 vs R1 s1 d1 e1 w1 => ?_
  obtain ⟨ds, e3, rfl, rfl⟩ := lft_some e1
  cases q : dats ss with
  | none => rw [q] at e3; cases e3
  | some as =>
    rw [q] at e3
    replace e3 : enumD as = some ds := e3
    unfold enumD at e3
    rw [g.hK]
    split at e3
    · cases e3
      obtain ⟨v, rfl, h1⟩ := one_da (d1.dats q)
      cases h1 with
      | lst q1 n1 t1 => exact ⟨_, _, rfl, .of q1, w1 H1 (.refl _) R1.row R1.ml _ (jok_enum R1.ml q1 n1 t1)⟩
    · cases e3
inductive Tgt where
  | name (i : Nat)
  | tup (is : List Nat)
def Tgt.ix : Tgt → List Nat
  | .name i => [i]
  | .tup is => is
def Tgt.of : Tgt → D → Option (List D)
  | .name _, d => some [d]
  | .tup is, .tuple ds => if ds.length = is.length then some ds else none
  | .tup _, _ => none
def setV (σ : L2.St) : List Nat → List V → L2.St
  | i :: is, v :: vs => setV (σ.set i (some v)) is vs
  | _, _ => σ
def setE (ev : Ev) : List Nat → List D → Ev
  | i :: is, d :: ds => setE (ev.set i (.dat d)) is ds
  | _, _ => ev
def PGt (G : Gm) (k : Nat) (sc : Sx) (N : List Str) (tg : Expr) (t : Tgt) : Prop :=
  ∃ u : TG, (∀ (X : Cx), Gd G k sc N X → PG X tg u) ∧ ∀ M (σ : L2.St) H v d ds Q, Da G.K M H v d → t.of d = some ds → (∀ vs, DaL G.K M H vs ds → Q (setV σ t.ix vs) H) → u v σ H Q
def locB (sc : Sx) (x : Str) : Bool := match sc.sc.names.lookup x with
  | some .local => true
  | some .cell => sc.fc x
  | _ => false
theorem loc_of {X : Cx} {x : Str} (g : Gd G k sc N X) (h : locB sc x = true) : Loc X.env.scope x ∧ (X.fn x = true ∨ X.env.scope.names.lookup x = some .local) := by
  unfold locB at h
  rw [g.hsc]
  split at h
  · rename_i e; exact ⟨.inl e, .inr e⟩
  · rename_i e; exact ⟨.inr e, .inl (g.hfc x h)⟩
  · cases h
theorem pg_at {X : Cx} {i : Nat} {x : Str} {p : Pos} (g : Gd G k sc N X) (hi : N[i]? = some x) (hl : locB sc x = true) : PG X (.Name x p) (gName i) :=
  pg_name (by rw [g.hN]; exact g.nd) (by rw [g.hN]; exact hi) (loc_of g hl).1 (loc_of g hl).2
theorem g_name (i : Nat) {x : Str} {p : Pos} (hi : N[i]? = some x := by rfl) (hl : locB sc x = true := by rfl) : PGt G k sc N (.Name x p) (.name i) :=
  ⟨_, fun X g => pg_at g hi hl, fun M σ H v d ds Q hd e q => by cases e; exact q [v] (.cons hd .nil)⟩
/-- the names of a written tuple -/
inductive GNs (sc : Sx) (N : List Str) : List Expr → List Nat → Prop where
  | nil : GNs sc N [] []
  | cons {i : Nat} {x : Str} {p : Pos} {es : List Expr} {is : List Nat} (hi : N[i]? = some x) (hl : locB sc x = true) (t : GNs sc N es is) : GNs sc N (.Name x p :: es) (i :: is)
theorem gns_go : ∀ {es : List Expr} {is : List Nat}, GNs sc N es is → ∃ u : TGs, (∀ (X : Cx), Gd G k sc N X → PGs X es u ∧ (assignEach es X.env).length = is.length ∧ (assignEach es X.env).findIdx? (·.1) = none) ∧ ∀ (σ : L2.St) H vs Q, vs.length = is.length → Q (setV σ is vs) H → u vs σ H Q
  | _, _, .nil => ⟨_, fun X g => ⟨pgs_nil, rfl, rfl⟩, fun σ H vs Q e q => by
    cases vs with
    | nil => exact ⟨rfl, q⟩
    | cons v vs => cases e⟩
  | _, _, .cons (i := i) (x := x) (p := p) (es := es) (is := is) hi hl t => by
    obtain ⟨u, h1, h4⟩ := gns_go t
    refine ⟨gCons (gName i) u, fun X g => ?_, fun σ H vs Q e q => ?_⟩
    · obtain ⟨h1, h2, h3⟩ := h1 X g
      refine ⟨pgs_cons (pg_at g hi hl) h1 (by rfl), ?_, ?_⟩
      · show (assignEach es X.env).length + 1 = is.length + 1
        rw [h2]
      · show (List.findIdx? (·.1) ((false, assign (.Name x p) X.env) :: assignEach es X.env)) = none
        rw [List.findIdx?_cons]
        simp [h3]
    · cases vs with
      | nil => cases e
      | cons v vs => exact ⟨v, vs, rfl, h4 _ H vs Q (by simpa using e) q⟩
theorem g_tup (is : List Nat) {es : List Expr} {j : Nat} {p : Pos} (h : GNs sc N es is) : PGt G k sc N (.Tuple es j p) (.tup is) := by
  obtain ⟨u, h1, h4⟩ := gns_go (G := G) (k := k) h
  refine ⟨gTup G.K is.length u, fun X g => ?_, fun M σ H v d ds Q hd e q => ?_⟩
  · obtain ⟨h1, h2, h3⟩ := h1 X g
    rw [← g.hK]
    exact pg_tup g.calm h1 h2 h3
  · cases hd with
    | tup a t =>
      rename_i ad xs es'
      replace e : (if es'.length = is.length then some es' else none) = some ds := e
      split at e
      · rename_i hl
        cases e
        exact ⟨_, _, rfl, a, by rw [t.length]; exact hl, h4 σ H _ Q (by rw [t.length]; exact hl) (q _ t)⟩
      · cases e
    | _ => cases e
end
end DL
namespace DL
open PySem PySem.Spec PyProof.Rows L2
section
variable {G : Gm} {k : Nat} {sc : Sx} {N : List Str}
variable {K : PySem.W.Frag} {mg : Str → Option Value} {M M' : Addr → Prop} {H H' H1 : Hp} {r : Rw} {σ : L2.St} {ev : Ev} {rs rs' : RS} {W : WX}
theorem RelE.set1 {i : Nat} {v : V} {d : D} (R : RelE K M r σ H ev rs) (h : Da K M H v d) : RelE K M r (σ.set i (some v)) H (ev.set i (.dat d)) rs := by
  refine ⟨R.mr, R.ml, R.row, fun j s e => ?_, by rw [List.length_set, List.length_set]; exact R.len⟩
  by_cases hj : i = j
  · subst hj
    have hl : i < ev.length := by
      have := (List.getElem?_eq_some_iff.mp e).1
      rwa [List.length_set] at this
    rw [List.getElem?_set_self hl] at e
    cases e
    exact ⟨v, List.getElem?_set_self (Nat.lt_of_lt_of_le hl R.len), h⟩
  · rw [List.getElem?_set_ne hj] at e
    have q := R.slots j s e
    cases s with
    | hid => trivial
    | own _ => trivial
    | dat d' => obtain ⟨u, e1, e2⟩ := q; exact ⟨u, by rw [List.getElem?_set_ne hj]; exact e1, e2⟩
    | row => show (σ.set i (some v))[j]? = _; rw [List.getElem?_set_ne hj]; exact q
theorem RelE.setL : ∀ {is : List Nat} {vs : List V} {ds : List D} {σ : L2.St} {ev : Ev}, RelE K M r σ H ev rs → DaL K M H vs ds → RelE K M r (setV σ is vs) H (setE ev is ds) rs
  | [], _, _, _, _, R, _ => R
  | _ :: _, _, _, _, _, R, .nil => R
  | i :: is, _, _, _, _, R, .cons h t => RelE.setL (is := is) (R.set1 h) t
def wipeE (ev : Ev) : List Nat → Ev
  | [] => ev
  | v :: vs => (wipeE ev vs).set v .hid
theorem RelE.hid1 {i : Nat} {o : Option V} (R : RelE K M r σ H ev rs) : RelE K M r (σ.set i o) H (ev.set i .hid) rs := by
  refine ⟨R.mr, R.ml, R.row, fun j s e => ?_, by rw [List.length_set, List.length_set]; exact R.len⟩
  by_cases hj : i = j
  · subst hj
    have hl : i < ev.length := by
      have := (List.getElem?_eq_some_iff.mp e).1
      rwa [List.length_set] at this
    rw [List.getElem?_set_self hl] at e
    cases e
    trivial
  · rw [List.getElem?_set_ne hj] at e
    have q := R.slots j s e
    cases s with
    | hid => trivial
    | own _ => trivial
    | dat d' => obtain ⟨u, e1, e2⟩ := q; exact ⟨u, by rw [List.getElem?_set_ne hj]; exact e1, e2⟩
    | row => show (σ.set i o)[j]? = _; rw [List.getElem?_set_ne hj]; exact q
theorem RelE.wiped (R : RelE K M r σ H ev rs) : ∀ vs : List Nat, RelE K M r (wipe σ vs) H (wipeE ev vs) rs
  | [] => R
  | v :: vs => (RelE.wiped R vs).hid1
theorem wipe_get {σ : L2.St} {j : Nat} : ∀ {vs : List Nat}, j ∉ vs → (wipe σ vs)[j]? = σ[j]?
  | [], _ => rfl
  | v :: vs, h => by
    simp only [List.mem_cons, not_or] at h
    show ((wipe σ vs).set v none)[j]? = _
    rw [List.getElem?_set_ne (Ne.symm h.1), wipe_get h.2]
theorem wipe_in {σ : L2.St} {j : Nat} : ∀ {vs : List Nat}, j ∈ vs → j < σ.length → (wipe σ vs)[j]? = some none
  | v :: vs, h, hl => by
    show ((wipe σ vs).set v none)[j]? = _
    by_cases e : v = j
    · subst e
      exact List.getElem?_set_self (by rw [wipe_length]; exact hl)
    · rw [List.getElem?_set_ne e]
      refine wipe_in ?_ hl
      rcases List.mem_cons.mp h with q | q
      · exact absurd q.symm e
      · exact q
/-- stores within vs are wiped -/
theorem wipe_set {σ σ' : L2.St} {vs : List Nat} (hl : σ'.length = σ.length) (h : ∀ j, j ∉ vs → σ'[j]? = σ[j]?) : wipe σ' vs = wipe σ vs := by
  apply List.ext_getElem?
  intro j
  by_cases hj : j ∈ vs
  · by_cases hlt : j < σ.length
    · rw [wipe_in hj hlt, wipe_in hj (by rw [hl]; exact hlt)]
    · rw [List.getElem?_eq_none (by rw [wipe_length]; omega), List.getElem?_eq_none (by rw [wipe_length]; omega)]
  · rw [wipe_get hj, wipe_get hj, h j hj]
theorem setV_length : ∀ {is : List Nat} {vs : List V} {σ : L2.St}, (setV σ is vs).length = σ.length
  | [], _, _ => rfl
  | _ :: _, [], _ => rfl
  | i :: is, v :: vs, σ => by
    show (setV (σ.set i (some v)) is vs).length = _
    rw [setV_length, List.length_set]
theorem setV_out {j : Nat} : ∀ {is : List Nat} {vs : List V} {σ : L2.St}, j ∉ is → (setV σ is vs)[j]? = σ[j]?
  | [], _, _, _ => rfl
  | _ :: _, [], _, _ => rfl
  | i :: is, v :: vs, σ, h => by
    simp only [List.mem_cons, not_or] at h
    show (setV (σ.set i (some v)) is vs)[j]? = _
    rw [setV_out h.2, List.getElem?_set_ne (Ne.symm h.1)]
theorem wipe_turn {is own : List Nat} {vs : List V} (h : ∀ i ∈ is, i ∈ own) : wipe (setV (wipe σ own) is vs) own = wipe σ own := by
  refine wipe_set (by rw [setV_length, wipe_length]) fun j hj => ?_
  rw [setV_out fun z => hj (h j z), wipe_get hj]
def nox {α : Type} (m : Mn α) : Mn α := fun rs => match m rs with
  | some (.val a, rs') => some (.val a, rs')
  | _ => none
theorem nox_some {α : Type} {m : Mn α} {rs rs' : RS} {o : Out α} (h : nox m rs = some (o, rs')) : ∃ a, o = .val a ∧ m rs = some (.val a, rs') := by
  unfold nox at h
  split at h
  · rename_i e; cases h; exact ⟨_, rfl, e⟩
  · cases h
theorem bnd_nox {α β : Type} {m : Mn α} {f : α → Mn β} {rs rs' : RS} {o : Out β} (h : bnd (nox m) f rs = some (o, rs')) : ∃ a rs1, m rs = some (.val a, rs1) ∧ f a rs1 = some (o, rs') := by
  rcases bnd_some h with ⟨a, rs1, e1, e2⟩ | ⟨x, i, e1, _⟩
  · obtain ⟨b, eb, e3⟩ := nox_some e1
    cases eb
    exact ⟨a, rs1, e3, e2⟩
  · obtain ⟨b, eb, _⟩ := nox_some e1
    cases eb
def compGo (t : Tgt) (cond : Ev → Mn Bool) (elt : Ev → Mn D) (ev : Ev) : List D → Mn (List D)
  | [] => pur []
  | d :: ds => bnd (lft (t.of d)) fun es => bnd (nox (cond (setE ev t.ix es))) fun c =>
    if c = true then bnd (nox (elt (setE ev t.ix es))) fun x => bnd (compGo t cond elt ev ds) fun xs => pur (x :: xs) else compGo t cond elt ev ds
def dComp (own : List Nat) (src : Ev → Mn (List D)) (t : Tgt) (cond : Ev → Mn Bool) (elt : Ev → Mn D) (ev : Ev) : Mn D :=
  bnd (src ev) fun ds => bnd (compGo t cond elt (wipeE ev own) ds) fun out => lft (if out.length ≤ sizeLine then some (.list out) else none)
theorem compGo_val {t : Tgt} {cond : Ev → Mn Bool} {elt : Ev → Mn D} {ev : Ev} : ∀ {ds : List D} {rs rs' : RS} {o : Out (List D)}, compGo t cond elt ev ds rs = some (o, rs') → ∃ xs, o = .val xs
  | [], _, _, _, h => by cases h; exact ⟨_, rfl⟩
  | d :: ds, rs, rs', o, h => by
    obtain ⟨es, _, h⟩ := bnd_lft h
    obtain ⟨c, rs1, _, h⟩ := bnd_nox h
    split at h
    · obtain ⟨x, rs2, _, h⟩ := bnd_nox h
      rcases bnd_some h with ⟨a, rs3, e1, e2⟩ | ⟨x, i, e1, rfl⟩
      · cases e2; exact ⟨_, rfl⟩
      · obtain ⟨xs, e⟩ := compGo_val e1
        cases e
    · exact compGo_val h
theorem tI_bnd {β : Type} {fa : Ev → Mn (List D)} {kk : List D → Mn β} {o : Out β} {Vb : β → Hp → Prop} {Q1 : It → Hp → Prop} (R : RelE K M r σ H ev rs) (h : bnd (fa ev) kk rs = some (o, rs')) (w : Wan K mg M r H rs' (fun cls dd H' => W cls dd σ H') Vb o)
    (c : ∀ ds rs1 H1 J, RelE K M r σ H1 ev rs1 → Stp r H H1 → JOk K M J H1 ds → kk ds rs1 = some (o, rs') → Wan K mg M r H1 rs' (fun cls dd H' => W cls dd σ H') Vb o → Q1 J H1) : tI K mg W fa σ H Q1 := by
  rcases bnd_some h with ⟨x, rs1, e1, e2⟩ | ⟨x, i, e1, rfl⟩
  · refine ⟨M, r, ev, rs, R, .val x, rs1, e1, fun H1 s1 w1 m1 J j1 => ?_⟩
    exact c x rs1 H1 J (R.stp s1 w1) s1 j1 e2 (w.stp s1)
  · exact ⟨M, r, ev, rs, R, .exc x i, rs', e1, w.exc⟩
def Sx.blk (sc : Sx) (scope : Scope) : Sx := ⟨relS scope sc.sc, fun x => (scope.names.lookup x == some .cell) && !(x == ("" : Str))⟩
theorem Gd.blk {X : Cx} (g : Gd G k sc N X) (s : Shared) (H : Hp) (scope : Scope) (cl : List (Str × Addr)) (C : Addr) (fp : List Addr) : Gd G k (sc.blk scope) N (X.blk s H scope (compEnvC scope cl C X.env) fp) where
  hN := g.hN
  nd := g.nd
  hsc := by
    show relS scope X.env.scope = relS scope sc.sc
    rw [g.hsc]
  hfc := fun x h => (Bool.and_eq_true_iff.mp h).1
  calm := g.calm
  room := g.room
  hP := g.hP
  hw := g.hw
  hK := g.hK
  hmg := g.hmg
  hb := g.hb
  top := fun h => by
    have h2 := (Bool.and_eq_true_iff.mp h).2
    exact absurd h2 (by decide)
abbrev W0 : WX := fun _ _ _ _ => False
def SP1 (G : Gm) (k : Nat) (sc : Sx) (N : List Str) (ifs : List Expr) (f : Ev → Mn Bool) : Prop := ∀ (X : Cx) (W : WX), Gd G k sc N X → Takes X W → PTs X ifs (tT G.K G.mg W f)
def dYes (_ : Ev) : Mn Bool := pur true
theorem p_nil : SP1 G k sc N [] dYes := fun X W g tk => ⟨fun pins s σ H Q I h => by
  obtain ⟨M, r, ev, rs, R, o, rs', e, w⟩ := h
  cases e
  exact pts_nil.run pins s σ H Q I (w H (.refl H) R.row)⟩
theorem p_one {c : Expr} {f : Ev → Mn Bool} (h : ST G k sc N c f) : SP1 G k sc N [c] f := fun X W g tk => pts_one (h X W g tk)
/-- M and one new list -/
def And1 (M : Addr → Prop) (p : Addr) : Addr → Prop := fun b => M b ∨ b = p
theorem RelE.and1 {p : Addr} {oo : HO} (R : RelE K M r σ H ev rs) (hp : H p = none) (mo : mutO oo := by trivial) : RelE K (And1 M p) r σ (upd H p oo) ev rs := by
  have ne : ∀ b o, H b = some o → b ≠ p := fun b o e => ne_of_none e hp
  have R1 := R.new (o := oo) hp
  have ext : ∀ {v : V} {d : D}, Da K M H v d → Da K (And1 M p) (upd H p oo) v d := fun h => (h.ext fun b m => m.elim .inl fun e => .inr (by rw [e]; exact hp)).same (same_upd hp)
  refine ⟨.inl R.mr, fun b m => ?_, ?_, fun i s e => ?_, R.len⟩
  · rcases m with m | rfl
    · exact R.ml.upd hp b m
    · exact ⟨oo, upd_same, mo⟩
  · obtain ⟨⟨e1, e1'⟩, e2⟩ := R.row
    refine ⟨⟨by rw [upd_ne (ne _ _ e1)]; exact e1, e1'⟩, ?_⟩
    rcases e2 with ⟨h | ⟨o, h⟩, n⟩ | h
    · exact .inl ⟨.inl (by rw [upd_ne (ne _ _ h)]; exact h), fun z => z.elim n fun e => ne _ _ h e⟩
    · exact .inl ⟨.inr ⟨o, by rw [upd_ne (ne _ _ h)]; exact h⟩, fun z => z.elim n fun e => ne _ _ h e⟩
    · exact .inr h
  · have q := R.slots i s e
    cases s with
    | hid => trivial
    | own _ => trivial
    | row => exact q
    | dat d => obtain ⟨v, e1, e2⟩ := q; exact ⟨v, e1, ext e2⟩
theorem row_sub {K : PySem.W.Frag} {M M' : Addr → Prop} {H : Hp} {r : Rw} {rs : RS} (h : RowAt K M H r rs) (s : ∀ b, M' b → M b) : RowAt K M' H r rs := by
  obtain ⟨e1, e2⟩ := h
  exact ⟨e1, sqlm_sub e2 s⟩
/-- all that was tracked but the row and one more -/
def Same' (r : Rw) (p : Addr) (H H' : Hp) : Prop := ∀ b o, b ≠ p → b ≠ r.a → H b = some o → H' b = some o
/-- a comprehension of one clause, as its rule wants it -/
theorem lc_imp {X : Cx} {W : WX} {fi : Ev → Mn (List D)} {t : Tgt} {fc : Ev → Mn Bool} {fe : Ev → Mn D} {own : List (Str × Nat)} {u : TG} (g : Gd G k sc N X) (hu2 : ∀ M (σ : L2.St) H v d ds Q, Da G.K M H v d → t.of d = some ds → (∀ vs, DaL G.K M H vs ds → Q (setV σ t.ix vs) H) → u v σ H Q) (hix : ∀ i ∈ t.ix, i ∈ own.map (·.2)) :
    ∀ σ H Q, tE G.K G.mg W (dComp (own.map (·.2)) fi t fc fe) σ H Q → tLc (tI G.K G.mg W fi) u (tT G.K G.mg W0 fc) (tE G.K G.mg W0 fe) (own.map (·.2)) σ H Q := fun σ H Q h => by
  obtain ⟨M, r, ev, rs, R, o, rs', e, w⟩ := h
  refine tI_bnd R e w fun ds rs1 H1 J R1 s1 jok e1 w1 => ?_
  intro P hP
  -- what the whole makes
  obtain ⟨out, eo⟩ : ∃ out, compGo t fc fe (wipeE ev (own.map (·.2))) ds rs1 = some (.val out, rs') ∧ o = .val (.list out) ∧ out.length ≤ sizeLine := by
    rcases bnd_some e1 with ⟨a, rs2, q1, q2⟩ | ⟨x, i, q1, _⟩
    · obtain ⟨d, q3, rfl, rfl⟩ := lft_some q2
      split at q3
      · rename_i hl; cases q3; exact ⟨a, q1, rfl, hl⟩
      · cases q3
    · obtain ⟨xs, q⟩ := compGo_val q1
      cases q
  obtain ⟨eg, rfl, hlen⟩ := eo
  have M1r : And1 M P r.a := .inl R.mr
  refine ⟨fun i m H' => m = ds.length - i ∧ i ≤ ds.length ∧ ∃ acc accD rest rsi, H' P = some (.lst acc) ∧ DaL G.K (And1 M P) H' acc accD ∧ Same' r P H1 H' ∧ RelE G.K (And1 M P) r (wipe σ (own.map (·.2))) H' (wipeE ev (own.map (·.2))) rsi ∧ compGo t fc fe (wipeE ev (own.map (·.2))) (ds.drop i) rsi = some (.val rest, rs') ∧ accD ++ rest = out, ⟨_, rfl, Nat.zero_le _, [], [], out, rs1, upd_same, .nil, fun b o hb hr e => by rw [upd_ne hb]; exact e, (R1.wiped _).and1 hP, by rw [List.drop_zero]; exact eg, rfl⟩, ?_⟩
  rintro i m H2 ⟨rfl, hil, acc, accD, rest, rsi, hD, hacc, hsm, R2, hgo, happ⟩
  have kp : Kp M H1 H2 := fun b o n e => hsm b o (ne_of_none e hP) (fun z => n (z ▸ R.mr)) e
  by_cases hlt : i < ds.length
  · have hd := List.getElem?_eq_getElem hlt
    refine .inr ⟨jok.go H2 kp i _ hd, fun H' => ds.length - (i + 1) = ds.length - (i + 1) ∧ i + 1 ≤ ds.length ∧ ∃ acc accD rest rsi, H' P = some (.lst acc) ∧ DaL G.K (And1 M P) H' acc accD ∧ Same' r P H1 H' ∧ RelE G.K (And1 M P) r (wipe σ (own.map (·.2))) H' (wipeE ev (own.map (·.2))) rsi ∧ compGo t fc fe (wipeE ev (own.map (·.2))) (ds.drop (i + 1)) rsi = some (.val rest, rs') ∧ accD ++ rest = out, fun H' q => ⟨_, by omega, q⟩, fun x H3 hy => ?_⟩
    obtain ⟨sm3, dx⟩ := jok.yld (And1 M P) H2 kp (fun b z => z.elim .inl fun e => .inr (by rw [e]; exact hP)) i _ x H3 hd hy
    rw [List.drop_eq_getElem_cons hlt] at hgo
    obtain ⟨es, ht1, hgo⟩ := bnd_lft hgo
    obtain ⟨c, rs2, hc1, hgo⟩ := bnd_nox hgo
    have R3 : RelE G.K (And1 M P) r (wipe σ (own.map (·.2))) H3 (wipeE ev (own.map (·.2))) rsi := R2.stp (.of_same sm3) (row_same R2.row sm3)
    refine hu2 _ _ _ _ _ _ _ dx ht1 fun vs hvs => ?_
    refine ⟨wipe_turn hix, ?_⟩
    have R4 := R3.setL (is := t.ix) hvs
    refine ⟨_, _, _, rsi, R4, .val c, rs2, hc1, fun H5 s5 w5 => ?_⟩
    have R5 := R4.stp s5 w5
    have back : ∀ {H' : Hp} {rsx : RS}, Stp r H3 H' → RowAt G.K (And1 M P) H' r rsx → RelE G.K (And1 M P) r (wipe σ (own.map (·.2))) H' (wipeE ev (own.map (·.2))) rsx := fun s w => R3.stp s w
    have same5 : Same' r P H1 H5 := fun b o hb hr e => s5 b o hr (sm3 b o (hsm b o hb hr e))
    cases c with
    | false =>
      rw [if_neg (by decide)] at hgo
      show if false = true then _ else _
      rw [if_neg (by decide)]
      have kp5 : Kp (And1 M P) H2 H5 := ((Kp.of_same sm3).trans (s5.kp M1r))
      have rP : P ≠ r.a := fun z => by
        obtain ⟨⟨e1, _⟩, _⟩ := R1.row
        rw [z, e1] at hP; cases hP
      exact ⟨rfl, hlt, acc, accD, rest, rs2, s5 _ _ rP (sm3 _ _ hD), hacc.kp R2.ml kp5, same5, back s5 w5, hgo, happ⟩
    | true =>
      rw [if_pos rfl] at hgo
      show if true = true then _ else _
      rw [if_pos rfl]
      obtain ⟨y, rs3, hy1, hgo⟩ := bnd_nox hgo
      rcases bnd_some hgo with ⟨rest', rs4, q1, q2⟩ | ⟨_, _, q1, q2⟩
      · cases q2
        refine ⟨_, _, _, rs2, R5, .val y, rs3, hy1, fun H6 s6 w6 v dv => ?_⟩
        have rP : P ≠ r.a := fun z => by
          obtain ⟨⟨e1, _⟩, _⟩ := R1.row
          rw [z, e1] at hP; cases hP
        have s36 : Stp r H3 H6 := s5.trans s6
        have hD6 : H6 P = some (.lst acc) := s36 _ _ rP (sm3 _ _ hD)
        have kp6 : Kp (And1 M P) H2 H6 := ((Kp.of_same sm3).trans (s36.kp M1r))
        have ml6 : Ml (And1 M P) H6 := R5.ml.stp M1r s6 w6
        have acc6 : DaL G.K (And1 M P) H6 acc accD := hacc.kp R2.ml kp6
        have lacc : acc.length < sizeLine := by
          rw [acc6.length]
          have : accD.length + (y :: rest').length = out.length := by rw [← happ, List.length_append]
          simp only [List.length_cons] at this
          omega
        have k7 : Kp (And1 M P) H6 (upd H6 P (.lst (acc ++ [v]))) := fun b o n e => by rw [upd_ne fun z => n (.inr z)]; exact e
        have s7 : ∀ b o, b ≠ P → H6 b = some o → (upd H6 P (.lst (acc ++ [v]))) b = some o := fun b o n e => by rw [upd_ne n]; exact e
        have row7 : RowAt G.K (And1 M P) (upd H6 P (.lst (acc ++ [v]))) r rs3 := by
          obtain ⟨⟨e1, e1'⟩, e2⟩ := w6
          exact ⟨⟨s7 _ _ rP.symm e1, e1'⟩, sqlm_kp e2 k7⟩
        have R7 : RelE G.K (And1 M P) r (wipe σ (own.map (·.2))) (upd H6 P (.lst (acc ++ [v]))) (wipeE ev (own.map (·.2))) rs3 := by
          have R6 := back s36 w6
          refine ⟨R6.mr, fun b m => ?_, row7, fun j s e => (R6.slots j s e).kp R6.ml k7, R6.len⟩
          by_cases hb : b = P
          · exact ⟨.lst _, by rw [hb]; exact upd_same, trivial⟩
          · obtain ⟨xs, e, mu⟩ := R6.ml b m
            exact ⟨xs, s7 _ _ hb e, mu⟩
        refine ⟨acc, hD6, lacc, rfl, hlt, acc ++ [v], accD ++ [y], rest', rs3, upd_same, ?_, fun b o hb hr e => s7 _ _ hb (s36 b o hr (sm3 b o (hsm b o hb hr e))), R7, q1, by rw [List.append_assoc]; exact happ⟩
        exact DaL.kp ml6 k7 (acc6.append (.cons dv .nil))
      · cases q2
  · have ei : i = ds.length := by omega
    subst ei
    rw [List.drop_length] at hgo
    cases hgo
    rw [List.append_nil] at happ
    subst happ
    refine .inl ⟨jok.stop H2 kp, ?_⟩
    have s12 : Stp r H1 H2 := fun b o n e => hsm b o (ne_of_none e hP) n e
    exact w1 H2 s12 (row_sub R2.row fun b m => .inl m) _ (.lst hD (R1.ml.fresh hP) (hacc.sub fun b m => .inl m))
theorem e_lc {elt tg iter : Expr} {ifs : List Expr} {scope : Scope} {pos : Pos} {fi : Ev → Mn (List D)} {t : Tgt} {fc : Ev → Mn Bool} {fe : Ev → Mn D} (own : List (Str × Nat)) (hi : SI G k sc N tg iter fi) (ht : PGt G k (sc.blk scope) N tg t) (hc : SP1 G k (sc.blk scope) N ifs fc) (he : SE G k (sc.blk scope) N elt fe)
    (hb : blkC N sc.sc scope own = true := by decide +kernel) (hix : ∀ i ∈ t.ix, i ∈ own.map (·.2) := by decide) (hs : ∀ env x, foldedSetIterable iter env x = pure x := by intro _ _; rfl) :
    SE G k sc N (.ListComp elt [⟨tg, iter, ifs, 0⟩] scope pos) (dComp (own.map (·.2)) fi t fc fe) := fun X W g tk => by
  have ok : BlkOk X.N X.env.scope scope own := by
    rw [g.hN, g.hsc]
    exact blkOk_by hb
  have nd : X.N.Nodup := by rw [g.hN]; exact g.nd
  obtain ⟨u, hu1, hu2⟩ := ht
  refine pe_imp (pe_lc (own := own) g.calm nd (hi X W g tk) ok (fun s H C cl fp => hu1 _ (g.blk s H scope cl C fp)) (fun s H C cl fp => hc _ W0 (g.blk s H scope cl C fp) L2.takes0) (fun s H C cl fp => he _ W0 (g.blk s H scope cl C fp) L2.takes0) (hs _)) (lc_imp g hu2 hix)
end
end DL
namespace DL
open PySem PySem.Spec PyProof.Rows L2
inductive Res where
  | nx (ev : Ev)
  | ret (d : D)
  | bk (ev : Ev)
  | ct (ev : Ev)
  | exc (x : Str) (i : Option Int)
abbrev Ms := RS → Option (Res × RS)
def isOwn (ev : Ev) (i : Nat) : Prop := ∃ ds : Ow, ev[i]? = some (.own ds)
/-- the addresses of the frame's own lists beside M -/
def Av (M : Addr → Prop) (ev : Ev) (oa : Nat → Addr) : Addr → Prop := fun b => M b ∨ ∃ i, isOwn ev i ∧ b = oa i
structure RelS (K : PySem.W.Frag) (M : Addr → Prop) (r : Rw) (Pr : Addr → HO → Prop) (σ : L2.St) (H : Hp) (ev : Ev) (rs : RS) (oa : Nat → Addr) : Prop where
  e : RelE K (Av M ev oa) r σ H ev rs
  mr : M r.a
  prot : ∀ b o, Pr b o → H b = some o
  nr : ∀ o, ¬ Pr r.a o
  pm : ∀ b, M b → b ≠ r.a → ∃ o, Pr b o
  own : ∀ i (ds : Ow), ev[i]? = some (.own ds) → ∃ xs, σ[i]? = some (some (.ref (oa i))) ∧ H (oa i) = some (ds.ho xs) ∧ DaL K (Av M ev oa) H xs ds.ds ∧ (∀ o, ¬ Pr (oa i) o) ∧ oa i ≠ r.a
  inj : ∀ i j, isOwn ev i → isOwn ev j → oa i = oa j → i = j
section
variable {K : PySem.W.Frag} {mg : Str → Option Value} {M : Addr → Prop} {H H' H1 : Hp} {r : Rw} {σ σ' : L2.St} {ev ev' : Ev} {rs rs' : RS} {W : WX} {Pr : Addr → HO → Prop} {oa : Nat → Addr}
/-- own lists, lent: they may be read as data, then nothing may be kept of them -/
def lendS : Slot → Slot
  | .own (.l ds) => .dat (.list ds)
  | .own (.d kvs) => if kvs ≠ [] ∧ (kvs.map (·.1)).Nodup then .dat (.dict (kvs.map skD)) else .hid
  | s => s
def lend (ev : Ev) : Ev := ev.map lendS
theorem lend_get {i : Nat} {s : Slot} (h : (lend ev)[i]? = some s) : ∃ t, ev[i]? = some t ∧ s = lendS t := by
  unfold lend at h
  rw [List.getElem?_map] at h
  cases q : ev[i]? with
  | none => rw [q] at h; cases h
  | some t => rw [q] at h; cases h; exact ⟨t, rfl, rfl⟩
theorem RelS.ownM (R : RelS K M r Pr σ H ev rs oa) {i : Nat} (h : isOwn ev i) : ¬ M (oa i) := fun m => by
  obtain ⟨ds, e⟩ := h
  obtain ⟨xs, _, _, _, np, nr⟩ := R.own i ds e
  obtain ⟨ys, q⟩ := R.pm _ m nr
  exact np _ q
theorem RelS.lent (R : RelS K M r Pr σ H ev rs oa) : RelE K M r σ H (lend ev) rs := by
  refine ⟨R.mr, fun b m => R.e.ml b (.inl m), row_sub R.e.row fun b m => .inl m, fun i s e => ?_, by unfold lend; rw [List.length_map]; exact R.e.len⟩
  obtain ⟨t, e1, rfl⟩ := lend_get e
  have q := R.e.slots i t e1
  cases t with
  | hid => trivial
  | row => exact q
  | dat d => obtain ⟨v, h1, h2⟩ := q; exact ⟨v, h1, h2.sub fun b m => .inl m⟩
  | own ds =>
    obtain ⟨xs, h1, h2, h3, _, _⟩ := R.own i ds e1
    cases ds with
    | l ds => exact ⟨_, h1, .lst h2 (R.ownM ⟨_, e1⟩) (h3.sub fun b m => .inl m)⟩
    | d kvs =>
      show SlotAt K M r σ H i (if kvs ≠ [] ∧ (kvs.map (·.1)).Nodup then .dat (.dict (kvs.map skD)) else .hid)
      split
      · rename_i c
        exact ⟨_, h1, .txd h2 (R.ownM ⟨_, e1⟩) c (h3.sub fun b m => .inl m)⟩
      · trivial
theorem lend_own (i : Nat) : ¬ isOwn (lend ev) i := fun ⟨ds, h⟩ => by
  obtain ⟨t, _, e⟩ := lend_get h
  cases t with
  | own o =>
    cases o with
    | l ds => cases e
    | d kvs =>
      replace e : DL.Slot.own ds = if kvs ≠ [] ∧ (kvs.map (·.1)).Nodup then .dat (.dict (kvs.map skD)) else .hid := e
      split at e <;> cases e
  | _ => cases e
theorem av_lend {b : Addr} (h : Av M (lend ev) oa b) : M b := h.elim id fun ⟨i, q, _⟩ => absurd q (lend_own i)
/-- own lists, given up: data from now on -/
theorem RelS.freeze (R : RelS K M r Pr σ H ev rs oa) : RelS K M r Pr σ H (lend ev) rs oa := by
  have L := R.lent
  refine ⟨⟨.inl R.mr, fun b m => L.ml b (av_lend m), ?_, fun i s e => ?_, L.len⟩, R.mr, R.prot, R.nr, R.pm, fun i ds e => absurd ⟨ds, e⟩ (lend_own i), fun i j h => absurd h (lend_own i)⟩
  · exact row_sub L.row fun b m => av_lend m
  · have q := L.slots i s e
    cases s with
    | hid => trivial
    | row => exact q
    | own _ => trivial
    | dat d => obtain ⟨v, h1, h2⟩ := q; exact ⟨v, h1, h2.sub fun b m => av_lend m⟩
theorem RelE.sub (R : RelE K M r σ H ev rs) {M' : Addr → Prop} (s : ∀ b, M' b → M b) (m : M' r.a) : RelE K M' r σ H ev rs := by
  refine ⟨m, fun b q => R.ml b (s b q), row_sub R.row s, fun i t e => ?_, R.len⟩
  have q := R.slots i t e
  cases t with
  | hid => trivial
  | own _ => trivial
  | row => exact q
  | dat d => obtain ⟨v, h1, h2⟩ := q; exact ⟨v, h1, h2.sub s⟩
/-- behind what keeps all but the row -/
theorem RelS.stp (R : RelS K M r Pr σ H ev rs oa) {M' : Addr → Prop} (s : Stp r H H') (w : RowAt K M' H' r rs') : RelS K M r Pr σ H' ev rs' oa := by
  have w2 : RowAt K (Av M ev oa) H' r rs' := ⟨w.1, sqlm_kp R.e.row.2 (s.kp R.e.mr)⟩
  refine ⟨R.e.stp s w2, R.mr, fun b o p => s b o (fun z => R.nr o (z ▸ p)) (R.prot b o p), R.nr, R.pm, fun i ds e => ?_, R.inj⟩
  obtain ⟨xs, h1, h2, h3, h4, h5⟩ := R.own i ds e
  exact ⟨xs, h1, s _ _ h5 h2, h3.kp R.e.ml (s.kp R.e.mr), h4, h5⟩
def PrK (Pr : Addr → HO → Prop) (H : Hp) : Prop := ∀ b o, Pr b o → H b = some o
def WanS (K : PySem.W.Frag) (mg : Str → Option Value) (M : Addr → Prop) (r : Rw) (Pr : Addr → HO → Prop) (rs' : RS) (W : WX) (D : Ends) : Res → Prop
  | .nx ev => ∀ σ H oa, RelS K M r Pr σ H ev rs' oa → D.nx σ H
  | .bk ev => ∀ σ H oa, RelS K M r Pr σ H ev rs' oa → D.bk σ H
  | .ct ev => ∀ σ H oa, RelS K M r Pr σ H ev rs' oa → D.ct σ H
  | .ret d => ∀ v H, PrK Pr H → RowAt K M H r rs' → Da K M H v d → D.rt v H
  | .exc x i => ∀ cls dd σ H, PrK Pr H → RowAt K M H r rs' → ExA mg x i cls dd H → W cls dd σ H
def tS (K : PySem.W.Frag) (mg : Str → Option Value) (W : WX) (f : Ev → Ms) : TS := fun D σ H =>
  ∃ M r Pr ev rs oa, RelS K M r Pr σ H ev rs oa ∧ ∃ o rs', f ev rs = some (o, rs') ∧ WanS K mg M r Pr rs' W D o
theorem RelS.evE (R : RelS K M r Pr σ H ev rs oa) {M' : Addr → Prop} {ev' : Ev} (R' : RelE K M' r σ H ev' rs) (hM : ∀ b, M b → M' b) {f : Ev → Mn D} {o : Out D} {Q : VK} (e : f ev' rs = some (o, rs'))
    (cv : ∀ d, o = .val d → ∀ v H', RelS K M r Pr σ H' ev rs' oa → Stp r H H' → Da K M' H' v d → Q v H') (cx : ∀ x i, o = .exc x i → ∀ cls dd σ H, PrK Pr H → RowAt K M H r rs' → ExA mg x i cls dd H → W cls dd σ H) : tE K mg W f σ H Q := by
  refine ⟨M', r, ev', rs, R', o, rs', e, ?_⟩
  cases o with
  | val d => exact fun H' s w v dv => cv d rfl v H' (R.stp s w) s dv
  | exc x i => exact fun cls dd H' s w a => cx x i rfl cls dd σ H' (R.stp s w).prot (row_sub w hM) a
theorem RelS.evT (R : RelS K M r Pr σ H ev rs oa) {f : Ev → Mn Bool} {o : Out Bool} {Q : Bool → Hp → Prop} (e : f (lend ev) rs = some (o, rs'))
    (cv : ∀ b, o = .val b → ∀ H', RelS K M r Pr σ H' ev rs' oa → Q b H') (cx : ∀ x i, o = .exc x i → ∀ cls dd σ H, PrK Pr H → RowAt K M H r rs' → ExA mg x i cls dd H → W cls dd σ H) : tT K mg W f σ H Q := by
  refine ⟨M, r, lend ev, rs, R.lent, o, rs', e, ?_⟩
  cases o with
  | val d => exact fun H' s w => cv d rfl H' (R.stp s w)
  | exc x i => exact fun cls dd H' s w a => cx x i rfl cls dd σ H' (R.stp s w).prot w a
theorem isOwn_set {i j : Nat} {s : Slot} (hs : ∀ ds, s ≠ .own ds) (h : isOwn (ev.set i s) j) : isOwn ev j ∧ i ≠ j := by
  obtain ⟨ds, e⟩ := h
  by_cases hj : i = j
  · subst hj
    have hl : i < ev.length := by
      have := (List.getElem?_eq_some_iff.mp e).1
      rwa [List.length_set] at this
    rw [List.getElem?_set_self hl] at e
    exact absurd (Option.some.inj e) (hs ds)
  · rw [List.getElem?_set_ne hj] at e
    exact ⟨⟨ds, e⟩, hj⟩
theorem RelS.set1 (R : RelS K M r Pr σ H ev rs oa) {i : Nat} {v : V} {d : D} (h : Da K (Av M ev oa) H v d) : RelS K M r Pr (σ.set i (some v)) H (ev.set i (.dat d)) rs oa := by
  have nd : ∀ ds, Slot.dat d ≠ .own ds := fun ds e => by cases e
  have sub : ∀ b, Av M (ev.set i (.dat d)) oa b → Av M ev oa b := fun b m => m.elim .inl fun ⟨j, o, e⟩ => .inr ⟨j, (isOwn_set nd o).1, e⟩
  refine ⟨(R.e.set1 h).sub sub (.inl R.mr), R.mr, R.prot, R.nr, R.pm, fun j ds e => ?_, fun j j' o o' => R.inj j j' (isOwn_set nd o).1 (isOwn_set nd o').1⟩
  obtain ⟨_, hj⟩ := isOwn_set nd ⟨ds, e⟩
  rw [List.getElem?_set_ne hj] at e
  obtain ⟨xs, h1, h2, h3, h4⟩ := R.own j ds e
  exact ⟨xs, by rw [List.getElem?_set_ne hj]; exact h1, h2, h3.sub sub, h4⟩
theorem RelS.setL : ∀ {is : List Nat} {vs : List V} {ds : List D} {σ : L2.St} {ev : Ev}, RelS K M r Pr σ H ev rs oa → DaL K (Av M ev oa) H vs ds → RelS K M r Pr (setV σ is vs) H (setE ev is ds) rs oa
  | [], _, _, _, _, R, _ => R
  | _ :: _, _, _, _, _, R, .nil => R
  | i :: is, _, _, σ, ev, R, .cons (d := d) h t => by
    refine RelS.setL (is := is) (R.set1 h) (t.sub fun b m => m.elim .inl fun ⟨j, o, e⟩ => .inr ⟨j, (isOwn_set (fun ds e => by cases e) o).1, e⟩)
theorem RelE.setAny {i : Nat} {o : Option V} {s : Slot} (hs : SlotAt K M r (σ.set i o) H i s) (R : RelE K M r σ H ev rs) : RelE K M r (σ.set i o) H (ev.set i s) rs := by
  refine ⟨R.mr, R.ml, R.row, fun j t e => ?_, by rw [List.length_set, List.length_set]; exact R.len⟩
  by_cases hj : i = j
  · subst hj
    have hl : i < ev.length := by
      have := (List.getElem?_eq_some_iff.mp e).1
      rwa [List.length_set] at this
    rw [List.getElem?_set_self hl] at e
    cases e
    exact hs
  · rw [List.getElem?_set_ne hj] at e
    have q := R.slots j t e
    cases t with
    | hid => trivial
    | own _ => trivial
    | dat d' => obtain ⟨u, e1, e2⟩ := q; exact ⟨u, by rw [List.getElem?_set_ne hj]; exact e1, e2⟩
    | row => show (σ.set i o)[j]? = _; rw [List.getElem?_set_ne hj]; exact q
/-- a new own list at slot i -/
theorem RelS.newOwn (R : RelS K M r Pr σ H ev rs oa) {i : Nat} {p : Addr} {xs : List V} {ds : Ow} (hp : H p = none) (h : DaL K (Av M ev oa) H xs ds.ds) :
    RelS K M r Pr (σ.set i (some (.ref p))) (upd H p (ds.ho xs)) (ev.set i (.own ds)) rs (fun j => if j = i then p else oa j) := by
  have ne : ∀ {b o}, H b = some o → b ≠ p := fun e => ne_of_none e hp
  have own_ne : ∀ {j}, i ≠ j → isOwn (ev.set i (.own ds)) j → isOwn ev j := fun {j} hj ⟨es, e⟩ => ⟨es, by rw [List.getElem?_set_ne hj] at e; exact e⟩
  have sub : ∀ b, Av M (ev.set i (.own ds)) (fun j => if j = i then p else oa j) b → And1 (Av M ev oa) p b := fun b m => by
    rcases m with m | ⟨j, o, e⟩
    · exact .inl (.inl m)
    · by_cases hj : i = j
      · subst hj
        exact .inr (by simpa using e)
      · replace e : b = if j = i then p else oa j := e
        rw [if_neg (Ne.symm hj)] at e
        exact .inl (.inr ⟨j, own_ne hj o, e⟩)
  have big : RelE K (And1 (Av M ev oa) p) r (σ.set i (some (.ref p))) (upd H p (ds.ho xs)) (ev.set i (.own ds)) rs := (R.e.and1 hp (ds.mut xs)).setAny trivial
  have ext : ∀ {vs : List V} {es : List D}, DaL K (Av M ev oa) H vs es → DaL K (Av M (ev.set i (.own ds)) (fun j => if j = i then p else oa j)) (upd H p (ds.ho xs)) vs es := fun h => ((h.ext (M' := And1 (Av M ev oa) p) fun b m => m.elim .inl fun e => .inr (by rw [e]; exact hp)).same (same_upd hp)).sub sub
  have rp : p ≠ r.a := fun z => by
    have q := R.e.row.1.1
    rw [← z, hp] at q; cases q
  refine ⟨big.sub sub (.inl R.mr), R.mr, fun b o q => same_upd hp b o (R.prot b o q), R.nr, R.pm, fun j es e => ?_, fun j j' o o' e => ?_⟩
  · by_cases hj : i = j
    · subst hj
      have hl : i < ev.length := by
        have := (List.getElem?_eq_some_iff.mp e).1
        rwa [List.length_set] at this
      rw [List.getElem?_set_self hl] at e
      cases e
      rw [if_pos rfl]
      refine ⟨xs, List.getElem?_set_self (Nat.lt_of_lt_of_le hl R.e.len), upd_same, ext h, fun o q => ?_, rp⟩
      have z := R.prot _ _ q
      rw [hp] at z; cases z
    · rw [List.getElem?_set_ne hj] at e
      obtain ⟨ys, h1, h2, h3, h4⟩ := R.own j es e
      rw [if_neg (Ne.symm hj)]
      exact ⟨ys, by rw [List.getElem?_set_ne hj]; exact h1, same_upd hp _ _ h2, ext h3, h4⟩
  · by_cases hj : i = j
    · by_cases hj' : i = j'
      · rw [← hj, ← hj']
      · obtain ⟨es, q⟩ := own_ne hj' o'
        obtain ⟨ys, _, h2, _⟩ := R.own j' es q
        simp only [hj, if_pos, if_neg (Ne.symm hj')] at e
        subst hj
        rw [if_neg (Ne.symm hj')] at e
        exact absurd e.symm (ne h2)
    · by_cases hj' : i = j'
      · obtain ⟨es, q⟩ := own_ne hj o
        obtain ⟨ys, _, h2, _⟩ := R.own j es q
        subst hj'
        simp only [if_pos, if_neg (Ne.symm hj)] at e
        exact absurd e (ne h2)
      · simp only [if_neg (Ne.symm hj), if_neg (Ne.symm hj')] at e
        exact R.inj j j' (own_ne hj o) (own_ne hj' o') e
/-- an own list changes -/
theorem RelS.mut (R : RelS K M r Pr σ H ev rs oa) {i : Nat} {ds es : Ow} {ys : List V} (hi : ev[i]? = some (.own ds)) (h : DaL K (Av M ev oa) H ys es.ds) : RelS K M r Pr σ (upd H (oa i) (es.ho ys)) (ev.set i (.own es)) rs oa := by
  obtain ⟨xs, g1, g2, g3, g4, g5⟩ := R.own i ds hi
  have hl : i < ev.length := (List.getElem?_eq_some_iff.mp hi).1
  have io : isOwn ev i := ⟨ds, hi⟩
  have kp : Kp (Av M ev oa) H (upd H (oa i) (es.ho ys)) := fun b o n e => by rw [upd_ne fun z => n (.inr ⟨i, io, z⟩)]; exact e
  have own_iff : ∀ {j}, isOwn (ev.set i (.own es)) j → isOwn ev j := fun {j} ⟨fs, e⟩ => by
    by_cases hj : i = j
    · rw [← hj]; exact io
    · rw [List.getElem?_set_ne hj] at e; exact ⟨fs, e⟩
  have sub : ∀ b, Av M (ev.set i (.own es)) oa b → Av M ev oa b := fun b m => m.elim .inl fun ⟨j, o, e⟩ => .inr ⟨j, own_iff o, e⟩
  have ml : Ml (Av M ev oa) (upd H (oa i) (es.ho ys)) := fun b m => by
    by_cases hb : b = oa i
    · exact ⟨es.ho ys, by rw [hb]; exact upd_same, es.mut ys⟩
    · obtain ⟨zs, e, mu⟩ := R.e.ml b m
      exact ⟨zs, by rw [upd_ne hb]; exact e, mu⟩
  have big : RelE K (Av M ev oa) r σ (upd H (oa i) (es.ho ys)) (ev.set i (.own es)) rs := by
    refine ⟨R.e.mr, ml, ⟨⟨by rw [upd_ne (Ne.symm g5)]; exact R.e.row.1.1, R.e.row.1.2⟩, sqlm_kp R.e.row.2 kp⟩, fun j t e => ?_, by rw [List.length_set]; exact R.e.len⟩
    by_cases hj : i = j
    · subst hj
      rw [List.getElem?_set_self hl] at e
      cases e
      trivial
    · rw [List.getElem?_set_ne hj] at e
      exact (R.e.slots j t e).kp R.e.ml kp
  refine ⟨big.sub sub (.inl R.mr), R.mr, fun b o q => ?_, R.nr, R.pm, fun j fs e => ?_, fun j j' o o' => R.inj j j' (own_iff o) (own_iff o')⟩
  · rw [upd_ne fun z => g4 o (by rw [← z]; exact q)]
    exact R.prot b o q
  · by_cases hj : i = j
    · subst hj
      rw [List.getElem?_set_self hl] at e
      cases e
      exact ⟨ys, g1, upd_same, (h.kp R.e.ml kp).sub sub, g4, g5⟩
    · rw [List.getElem?_set_ne hj] at e
      obtain ⟨zs, h1, h2, h3, h4⟩ := R.own j fs e
      have ne : oa j ≠ oa i := fun z => hj (R.inj i j io ⟨fs, e⟩ z.symm)
      exact ⟨zs, h1, by rw [upd_ne ne]; exact h2, (h3.kp R.e.ml kp).sub sub, h4⟩
theorem RelS.mutL (R : RelS K M r Pr σ H ev rs oa) {i : Nat} {ds : Ow} {es : List D} {ys : List V} (hi : ev[i]? = some (.own ds)) (h : DaL K (Av M ev oa) H ys es) : RelS K M r Pr σ (upd H (oa i) (.lst ys)) (ev.set i (.own (.l es))) rs oa := R.mut (es := .l es) hi h
end
end DL
namespace DL
open PySem PySem.Spec PyProof.Rows L2
section
variable {G : Gm} {k : Nat} {sc : Sx} {N : List Str}
variable {K : PySem.W.Frag} {mg : Str → Option Value} {M : Addr → Prop} {H H' H1 : Hp} {r : Rw} {σ σ' : L2.St} {ev ev' : Ev} {rs rs' : RS} {W : WX} {Pr : Addr → HO → Prop} {oa : Nat → Addr}
def SS (G : Gm) (k : Nat) (sc : Sx) (N : List Str) (st : Stmt) (f : Ev → Ms) : Prop := ∀ (X : Cx) (W : WX), Gd G k sc N X → Takes X W → PassesOwn (model X.prog X.w) X.A X.env X.xe → PS X st (tS G.K G.mg W f)
def SB (G : Gm) (k : Nat) (sc : Sx) (N : List Str) (st : List Stmt) (f : Ev → Ms) : Prop := ∀ (X : Cx) (W : WX), Gd G k sc N X → Takes X W → PassesOwn (model X.prog X.w) X.A X.env X.xe → PSs X st (tS G.K G.mg W f)
def sNil (ev : Ev) : Ms := fun rs => some (.nx ev, rs)
def seqM (f g : Ev → Ms) (ev : Ev) : Ms := fun rs => match f ev rs with
  | some (.nx ev', rs') => g ev' rs'
  | q => q
theorem s_nil : SB G k sc N [] sNil := fun X W g tk po => pss_imp pss_nil fun D σ H h => by
  obtain ⟨M, r, Pr, ev, rs, oa, R, o, rs', e, w⟩ := h
  cases e
  exact w σ H oa R
theorem seqM_some {f g : Ev → Ms} {o : Res} (h : seqM f g ev rs = some (o, rs')) : (∃ ev1 rs1, f ev rs = some (.nx ev1, rs1) ∧ g ev1 rs1 = some (o, rs')) ∨ (f ev rs = some (o, rs') ∧ ∀ e, o ≠ .nx e) := by
  unfold seqM at h
  split at h
  · rename_i ev1 rs1 e; exact .inl ⟨ev1, rs1, e, h⟩
  · rename_i q hq
    refine .inr ⟨h, fun e1 e2 => ?_⟩
    subst e2
    exact hq _ _ h
theorem s_cons {st : Stmt} {rest : List Stmt} {f g : Ev → Ms} (h1 : SS G k sc N st f) (h2 : SB G k sc N rest g) : SB G k sc N (st :: rest) (seqM f g) := fun X W gd tk po => by
  refine pss_imp (pss_cons (h1 X W gd tk po) (h2 X W gd tk po)) fun D σ H h => ?_
  obtain ⟨M, r, Pr, ev, rs, oa, R, o, rs', e, w⟩ := h
  rcases seqM_some e with ⟨ev1, rs1, e1, e2⟩ | ⟨e1, hn⟩
  · exact ⟨M, r, Pr, ev, rs, oa, R, .nx ev1, rs1, e1, fun σ1 H1 oa1 R1 => ⟨M, r, Pr, ev1, rs1, oa1, R1, o, rs', e2, w⟩⟩
  · refine ⟨M, r, Pr, ev, rs, oa, R, o, rs', e1, ?_⟩
    cases o with
    | nx e' => exact absurd rfl (hn e')
    | ret d => exact w
    | bk e => exact w
    | ct e => exact w
    | exc x i => exact w
theorem s_one {st : Stmt} {f : Ev → Ms} (h1 : SS G k sc N st f) : SB G k sc N [st] f := fun X W gd tk po => pss_one (h1 X W gd tk po)
def bnS {α : Type} (m : Mn α) (f : α → Ms) : Ms := fun rs => match m rs with
  | none => none
  | some (.val a, rs') => f a rs'
  | some (.exc x i, rs') => some (.exc x i, rs')
theorem bnS_some {α : Type} {m : Mn α} {f : α → Ms} {o : Res} (h : bnS m f rs = some (o, rs')) : (∃ a rs1, m rs = some (.val a, rs1) ∧ f a rs1 = some (o, rs')) ∨ ∃ x i, m rs = some (.exc x i, rs') ∧ o = .exc x i := by
  unfold bnS at h
  split at h
  · cases h
  · rename_i a rs1 e; exact .inl ⟨a, rs1, e, h⟩
  · rename_i x i rs1 e; cases h; exact .inr ⟨x, i, e, rfl⟩
/-- own lists in sight: what is kept must be free of lists -/
def dyn (f : Ev → Mn D) (ev : Ev) : Mn D := fun rs => match f ev rs with
  | some q => some q
  | none => match f (lend ev) rs with
    | some (.val d, rs') => if noL d = true then some (.val d, rs') else none
    | _ => none
theorem RelS.dynE (R : RelS K M r Pr σ H ev rs oa) {f : Ev → Mn D} {o : Out D} {Q : VK} (e : dyn f ev rs = some (o, rs'))
    (cv : ∀ d, o = .val d → ∀ v H', RelS K M r Pr σ H' ev rs' oa → Stp r H H' → Da K (Av M ev oa) H' v d → Q v H') (cx : ∀ x i, o = .exc x i → ∀ cls dd σ H, PrK Pr H → RowAt K M H r rs' → ExA mg x i cls dd H → W cls dd σ H) : tE K mg W f σ H Q := by
  unfold dyn at e
  split at e
  · rename_i q eq
    cases e
    exact R.evE R.e (fun b m => .inl m) eq cv cx
  · split at e
    · rename_i d rs1 eq
      split at e
      · rename_i hn
        cases e
        exact R.evE R.lent (fun b m => m) eq (fun d' ed v H' R' s dv => cv d' ed v H' R' s (by cases ed; exact dv.any hn)) cx
      · cases e
    · cases e
def sSet (i : Nat) (f : Ev → Mn D) (ev : Ev) : Ms := bnS (dyn f ev) fun d rs => some (.nx (ev.set i (.dat d)), rs)
theorem s_set (i : Nat) {x : Str} {e : Expr} {p p' : Pos} {f : Ev → Mn D} (h : SE G k sc N e f) (hi : N[i]? = some x := by rfl) (hl : locB sc x = true := by rfl)
    (hs : ∀ env, env.scope = sc.sc → swapsWith e (some (.Name x p')) p.line env = pure false := by intro env h; first | rfl | (cases env; cases h; rfl)) : SS G k sc N (.Assign [.Name x p'] e p) (sSet i f) := fun X W g tk po => by
  refine ps_imp (ps_set (i := i) (by rw [g.hN]; exact g.nd) (by rw [g.hN]; exact hi) (loc_of g hl).1 (h X W g tk) (hs _ g.hsc) (loc_of g hl).2) fun D σ H h => ?_
  obtain ⟨M, r, Pr, ev, rs, oa, R, o, rs', e, w⟩ := h
  rcases bnS_some e with ⟨d, rs1, e1, e2⟩ | ⟨x, j, e1, rfl⟩
  · cases e2
    exact R.dynE e1 (fun d' ed v H' R' s dv => by cases ed; exact w _ _ oa (R'.set1 dv)) fun _ _ ed => by cases ed
  · exact R.dynE e1 (fun _ ed => by cases ed) fun y j ed => by cases ed; exact w
/-- a, b = e (e a tuple as data) -/
def sTgt (t : Tgt) (f : Ev → Mn D) (ev : Ev) : Ms := bnS (bnd (dyn f ev) fun d => lft (t.of d)) fun ds rs => some (.nx (setE ev t.ix ds), rs)
/-- a new list of the frame's own: x = [..] -/
def sOwn (i : Nat) (f : Ev → Mn (List Slot)) (ev : Ev) : Ms := bnS (bnd (f ev) fun ss => lft (if ss.length ≤ sizeLine then dats ss else none)) fun ds rs => some (.nx (ev.set i (.own ds)), rs)
theorem s_own (i : Nat) {x : Str} {es : List Expr} {p p' p2 : Pos} {f : Ev → Mn (List Slot)} (h : SA G k sc N es f) (hi : N[i]? = some x := by rfl) (hl : locB sc x = true := by rfl)
    (hs : ∀ env, env.scope = sc.sc → swapsWith (.List es p2) (some (.Name x p')) p.line env = pure false := by intro env h; first | rfl | (cases env; cases h; rfl)) : SS G k sc N (.Assign [.Name x p'] (.List es p2) p) (sOwn i f) := fun X W g tk po => by
  refine ps_imp (ps_set (i := i) (by rw [g.hN]; exact g.nd) (by rw [g.hN]; exact hi) (loc_of g hl).1 (pe_lst (h X W g tk)) (hs _ g.hsc) (loc_of g hl).2) fun D σ H h => ?_
  obtain ⟨M, r, Pr, ev, rs, oa, R, o, rs', e, w⟩ := h
  show tAr G.K G.mg W f σ H _
  rcases bnS_some e with ⟨ds, rs1, e1, e2⟩ | ⟨x, j, e1, rfl⟩
  · cases e2
    rcases bnd_some e1 with ⟨ss, rs2, e3, e4⟩ | ⟨_, _, _, e4⟩
    · obtain ⟨ds', e5, e6, rfl⟩ := lft_some e4
      cases e6
      split at e5
      · rename_i hl
        refine ⟨_, r, ev, rs, R.e, .val ss, _, e3, fun H1 s1 w1 vs hvs => ⟨by rw [hvs.length]; exact hl, fun q hq => ?_⟩⟩
        have R1 := R.stp s1 w1
        exact w _ _ _ (R1.newOwn (ds := .l _) hq (hvs.dats e5))
      · cases e5
    · cases e4
  · rcases bnd_some e1 with ⟨d, rs2, e3, e4⟩ | ⟨y, j', e3, e4⟩
    · obtain ⟨ds', e5, e6, rfl⟩ := lft_some e4
      cases e6
    · cases e4
      refine ⟨_, r, ev, rs, R.e, .exc x j, rs', e3, fun cls dd H' s w1 a => w cls dd σ H' (R.stp s w1).prot (row_sub w1 fun b m => .inl m) a⟩
/-- x += e, ints -/
def sAug (i : Nat) (f : Ev → Mn D) (op : Int → Int → Int) (ev : Ev) : Ms := bnS (bnd (lft (getE ev i)) fun a => bnd (f (lend ev)) fun b => lft (match a, b with
  | .int x, .int y => some (PyData.int (op x y))
  | _, _ => none)) fun d rs => some (.nx (ev.set i (.dat d)), rs)
def sRet (f : Ev → Mn D) (ev : Ev) : Ms := bnS (f (lend ev)) fun d rs => some (.ret d, rs)
theorem s_ret {e : Expr} {p : Pos} {f : Ev → Mn D} (h : SE G k sc N e f) : SS G k sc N (.Return (some e) p) (sRet f) := fun X W g tk po => by
  refine ps_imp (ps_ret (h X W g tk)) fun D σ H h => ?_
  obtain ⟨M, r, Pr, ev, rs, oa, R, o, rs', e, w⟩ := h
  rcases bnS_some e with ⟨d, rs1, e1, e2⟩ | ⟨x, j, e1, rfl⟩
  · cases e2
    refine ⟨M, r, lend ev, rs, R.lent, .val d, rs', e1, fun H' s w1 v dv => w v H' (R.stp s w1).prot w1 dv⟩
  · exact R.evE R.lent (fun b m => m) e1 (fun _ ed => by cases ed) fun y j ed => by cases ed; exact w
def sRetN (_ : Ev) : Ms := fun rs => some (.ret .none, rs)
def sBk (ev : Ev) : Ms := fun rs => some (.bk ev, rs)
def sCt (ev : Ev) : Ms := fun rs => some (.ct ev, rs)
def sDrop (f : Ev → Mn D) (ev : Ev) : Ms := bnS (f (lend ev)) fun _ rs => some (.nx ev, rs)
def sIf (t : Ev → Mn Bool) (f g : Ev → Ms) (ev : Ev) : Ms := bnS (t (lend ev)) fun c => if c = true then f ev else g ev
theorem s_if {c : Expr} {a b : List Stmt} {p : Pos} {t : Ev → Mn Bool} {f g : Ev → Ms} (hc : ST G k sc N c t) (ha : SB G k sc N a f) (hb : SB G k sc N b g) : SS G k sc N (.If c a b p) (sIf t f g) := fun X W gd tk po => by
  refine ps_imp (ps_if (hc X W gd tk) (ha X W gd tk po) (hb X W gd tk po)) fun D σ H h => ?_
  obtain ⟨M, r, Pr, ev, rs, oa, R, o, rs', e, w⟩ := h
  rcases bnS_some e with ⟨c, rs1, e1, e2⟩ | ⟨x, j, e1, rfl⟩
  · refine R.evT e1 (fun c' ec H' R' => ?_) fun _ _ ed => by cases ed
    cases ec
    cases c with
    | true => rw [if_pos rfl] at e2; rw [if_pos rfl]; exact ⟨M, r, Pr, ev, rs1, oa, R', o, rs', e2, w⟩
    | false => rw [if_neg (by decide)] at e2; rw [if_neg (by decide)]; exact ⟨M, r, Pr, ev, rs1, oa, R', o, rs', e2, w⟩
  · exact R.evT e1 (fun _ ed => by cases ed) fun y j ed => by cases ed; exact w
end
end DL
namespace DL
open PySem PySem.Spec PyProof.Rows L2
section
variable {G : Gm} {k : Nat} {sc : Sx} {N : List Str}
variable {K : PySem.W.Frag} {mg : Str → Option Value} {M : Addr → Prop} {H H' H1 : Hp} {r : Rw} {σ σ' : L2.St} {ev ev' : Ev} {rs rs' : RS} {W : WX} {Pr Pr' : Addr → HO → Prop} {oa : Nat → Addr}
theorem RelS.weak (R : RelS K M r Pr' σ H ev rs oa) (h : ∀ b o, Pr b o → Pr' b o) (pm : ∀ b, M b → b ≠ r.a → ∃ o, Pr b o) : RelS K M r Pr σ H ev rs oa :=
  ⟨R.e, R.mr, fun b o p => R.prot b o (h b o p), fun o p => R.nr o (h _ o p), pm, fun i ds e => by
    obtain ⟨xs, h1, h2, h3, h4, h5⟩ := R.own i ds e
    exact ⟨xs, h1, h2, h3, fun o p => h4 o (h _ o p), h5⟩, R.inj⟩
/-- what stands at the loop's start is kept through it -/
def PrL (M : Addr → Prop) (r : Rw) (Pr : Addr → HO → Prop) (H : Hp) (ev : Ev) (oa : Nat → Addr) : Addr → HO → Prop := fun b o => Pr b o ∨ (H b = some o ∧ ¬ Av M ev oa b)
theorem RelS.loop (R : RelS K M r Pr σ H ev rs oa) : RelS K M r (PrL M r Pr H ev oa) σ H ev rs oa :=
  ⟨R.e, R.mr, fun b o p => p.elim (R.prot b o) fun q => q.1, fun o p => p.elim (R.nr o) fun q => q.2 (.inl R.mr), fun b m n => by
    obtain ⟨xs, p⟩ := R.pm b m n
    exact ⟨xs, .inl p⟩, fun i ds e => by
    obtain ⟨xs, h1, h2, h3, h4, h5⟩ := R.own i ds e
    exact ⟨xs, h1, h2, h3, fun o p => p.elim (h4 o) fun q => q.2 (.inr ⟨i, ⟨ds, e⟩, rfl⟩), h5⟩, R.inj⟩
def forGo (t : Tgt) (body : Ev → Ms) : List D → Ev → Ms
  | [], ev => fun rs => some (.nx ev, rs)
  | d :: ds, ev => fun rs => match t.of d with
    | none => none
    | some es => match body (setE ev t.ix es) rs with
      | some (.nx ev', rs') => forGo t body ds ev' rs'
      | some (.ct ev', rs') => forGo t body ds ev' rs'
      | some (.bk ev', rs') => some (.nx ev', rs')
      | some (.ret d, rs') => some (.ret d, rs')
      | some (.exc x i, rs') => some (.exc x i, rs')
      | none => none
def sFor (fz : Bool) (src : Ev → Mn (List D)) (t : Tgt) (body : Ev → Ms) (ev : Ev) : Ms := bnS (src (if fz = true then lend ev else ev)) fun ds => forGo t body ds (if fz = true then lend ev else ev)
theorem s_for (fz : Bool) {tg iter : Expr} {body : List Stmt} {p : Pos} {src : Ev → Mn (List D)} {t : Tgt} {f : Ev → Ms} (hi : SI G k sc N tg iter src) (ht : PGt G k sc N tg t) (hb : SB G k sc N body f) (hs : ∀ env x, foldedSetIterable iter env x = pure x := by intro _ _; rfl) :
    SS G k sc N (.For tg iter body [] p) (sFor fz src t f) := fun X W g tk po => by
  obtain ⟨u, hu1, hu2⟩ := ht
  refine ps_imp (ps_for po g.calm (hi X W g tk) (hu1 X g) (hb X W g tk po) (hs _)) fun D σ H h => ?_
  obtain ⟨M, r, Pr, ev0, rs, oa, R0, o, rs', e, w⟩ := h
  obtain ⟨ev, eev⟩ : ∃ ev, ev = if fz = true then lend ev0 else ev0 := ⟨_, rfl⟩
  have R : RelS G.K M r Pr σ H ev rs oa := by
    rw [eev]
    split
    · exact R0.freeze
    · exact R0
  unfold sFor at e
  rw [← eev] at e
  rcases bnS_some e with ⟨ds, rs1, e1, e2⟩ | ⟨x, j, e1, rfl⟩
  · refine ⟨_, r, ev, rs, R.e, .val ds, rs1, e1, fun H1 s1 w1 ml1 J jok => ?_⟩
    have R1 : RelS G.K M r Pr σ H1 ev rs1 oa := R.stp s1 w1
    refine ⟨fun i m σ H => m = ds.length - i ∧ i ≤ ds.length ∧ ∃ ev' rs2 oa', RelS G.K M r (PrL M r Pr H1 ev oa) σ H ev' rs2 oa' ∧ forGo t f (ds.drop i) ev' rs2 = some (o, rs'), ⟨_, rfl, Nat.zero_le _, ev, rs1, oa, R1.loop, e2⟩, ?_⟩
    rintro i m σ2 H2 ⟨rfl, hil, ev2, rs2, oa2, R2, hgo⟩
    have kp : Kp (Av M ev oa) H1 H2 := fun b o n q => R2.prot b o (.inr ⟨q, n⟩)
    by_cases hlt : i < ds.length
    · have hd := List.getElem?_eq_getElem hlt
      refine .inr ⟨jok.go H2 kp i _ hd, fun σ' H' => ds.length - (i + 1) = ds.length - (i + 1) ∧ i + 1 ≤ ds.length ∧ ∃ ev' rs2 oa', RelS G.K M r (PrL M r Pr H1 ev oa) σ' H' ev' rs2 oa' ∧ forGo t f (ds.drop (i + 1)) ev' rs2 = some (o, rs'), fun σ' H' q => ⟨_, by omega, q⟩, fun x H3 hy => ?_⟩
      obtain ⟨sm3, dx⟩ := jok.yld (Av M ev2 oa2) H2 kp (fun b z => by
        rcases z with z | ⟨j, ⟨es, ej⟩, eb⟩
        · exact .inl (.inl z)
        · obtain ⟨xs, _, _, _, np, _⟩ := R2.own j es ej
          by_cases ha : Av M ev oa b
          · exact .inl ha
          · cases q : H1 b with
            | none => exact .inr rfl
            | some o => exact absurd (.inr ⟨by rw [← eb]; exact q, by rw [← eb]; exact ha⟩) (np o)) i _ x H3 hd hy
      rw [List.drop_eq_getElem_cons hlt] at hgo
      have R3 : RelS G.K M r (PrL M r Pr H1 ev oa) σ2 H3 ev2 rs2 oa2 := R2.stp (M' := Av M ev2 oa2) (.of_same sm3) (row_same R2.e.row sm3)
      unfold forGo at hgo
      split at hgo
      · cases hgo
      · rename_i es ht1
        refine hu2 _ _ _ _ _ _ _ dx ht1 fun vs hvs => ?_
        have R4 := R3.setL (is := t.ix) hvs
        have prk : ∀ {H'}, PrK (PrL M r Pr H1 ev oa) H' → PrK Pr H' := fun q b o p => q b o (.inl p)
        cases hbd : f (setE ev2 t.ix es) rs2 with
        | none => rw [hbd] at hgo; cases hgo
        | some q =>
          obtain ⟨ro, rs3⟩ := q
          rw [hbd] at hgo
          refine ⟨M, r, _, _, rs2, oa2, R4, ro, rs3, hbd, ?_⟩
          cases ro with
          | nx ev' => exact fun σ' H' oa' R' => ⟨rfl, hlt, ev', rs3, oa', R', hgo⟩
          | ct ev' => exact fun σ' H' oa' R' => ⟨rfl, hlt, ev', rs3, oa', R', hgo⟩
          | bk ev' => cases hgo; exact fun σ' H' oa' R' => w σ' H' oa' (R'.weak (fun b o p => .inl p) R.pm)
          | ret d => cases hgo; exact fun v H' pk row da => w v H' (prk pk) row da
          | exc x i => cases hgo; exact fun cls dd σ' H' pk row a => w cls dd σ' H' (prk pk) row a
    · have ei : i = ds.length := by omega
      subst ei
      rw [List.drop_length] at hgo
      cases hgo
      exact .inl ⟨jok.stop H2 kp, w σ2 H2 oa2 (R2.weak (fun b o p => .inl p) R.pm)⟩
  · exact ⟨_, r, ev, rs, R.e, .exc x j, rs', e1, fun cls dd H' s w1 a => w cls dd σ H' (R.stp s w1).prot (row_sub w1 fun b m => .inl m) a⟩
def whileN (t : Ev → Mn Bool) (body : Ev → Ms) : Nat → Ev → Ms
  | 0, _ => fun _ => none
  | n + 1, ev => bnS (t (lend ev)) fun c => if c = true then (fun rs => match body ev rs with
      | some (.nx ev', rs') => whileN t body n ev' rs'
      | some (.ct ev', rs') => whileN t body n ev' rs'
      | some (.bk ev', rs') => some (.nx ev', rs')
      | some (.ret d, rs') => some (.ret d, rs')
      | some (.exc x i, rs') => some (.exc x i, rs')
      | none => none) else fun rs => some (.nx ev, rs)
theorem s_while (n : Nat) {c : Expr} {body : List Stmt} {p : Pos} {t : Ev → Mn Bool} {f : Ev → Ms} (hc : ST G k sc N c t) (hb : SB G k sc N body f) : SS G k sc N (.While c body [] p) (whileN t f n) := fun X W g tk po => by
  refine ps_imp (ps_while po (hc X W g tk) (hb X W g tk po)) fun D σ H h => ?_
  obtain ⟨M, r, Pr, ev, rs, oa, R, o, rs', e, w⟩ := h
  refine ⟨fun m σ H => ∃ ev rs oa, RelS G.K M r Pr σ H ev rs oa ∧ whileN t f m ev rs = some (o, rs'), ⟨n, ev, rs, oa, R, e⟩, ?_⟩
  rintro m σ2 H2 ⟨ev2, rs2, oa2, R2, e2⟩
  cases m with
  | zero => cases e2
  | succ m =>
    rcases bnS_some e2 with ⟨c, rs3, e3, e4⟩ | ⟨x, j, e3, rfl⟩
    · refine R2.evT e3 (fun c' ec H' R' => ?_) fun _ _ ed => by cases ed
      cases ec
      cases c with
      | false => rw [if_neg (by decide)] at e4; rw [if_neg (by decide)]; cases e4; exact w _ _ _ R'
      | true =>
        rw [if_pos rfl] at e4; rw [if_pos rfl]
        refine ⟨fun σ H => ∃ ev rs oa, RelS G.K M r Pr σ H ev rs oa ∧ whileN t f m ev rs = some (o, rs'), fun σ' H' q => ⟨m, Nat.lt_succ_self m, q⟩, ?_⟩
        cases hbd : f ev2 rs3 with
        | none => rw [hbd] at e4; cases e4
        | some q =>
          obtain ⟨ro, rs4⟩ := q
          rw [hbd] at e4
          refine ⟨M, r, Pr, ev2, rs3, oa2, R', ro, rs4, hbd, ?_⟩
          cases ro with
          | nx ev' => exact fun σ' H' oa' R' => ⟨ev', rs4, oa', R', e4⟩
          | ct ev' => exact fun σ' H' oa' R' => ⟨ev', rs4, oa', R', e4⟩
          | bk ev' => cases e4; exact w
          | ret d => cases e4; exact w
          | exc x i => cases e4; exact w
    · exact R2.evT e3 (fun _ ed => by cases ed) fun y j ed => by cases ed; exact w
def getO (ev : Ev) (i : Nat) : Option (List D) := match ev[i]? with
  | some (.own (.l ds)) => some ds
  | _ => none
theorem getO_some {i : Nat} {ds : List D} (h : getO ev i = some ds) : ev[i]? = some (.own ds) := by
  unfold getO at h
  split at h
  · rename_i e; cases h; exact e
  · cases h
def sApp (i : Nat) (f : Ev → Mn D) (ev : Ev) : Ms := bnS (bnd (lft (getO ev i)) fun ds => bnd (dyn f ev) fun d => lft (if ds.length < sizeLine then some (ds ++ [d]) else none)) fun es rs => some (.nx (ev.set i (.own es)), rs)
theorem pe_at {X : Cx} {i : Nat} {x : Str} {p : Pos} (g : Gd G k sc N X) (hi : N[i]? = some x) (hv : visB sc x = true) (hd : (x == ("__debug__" : Str)) = false) (hcd : (x == ("__classdict__" : Str)) = false) : PE X (.Name x p) (tVar i) :=
  pe_var (i := i) (by rw [g.hN]; exact hi) (by rw [g.hsc]; exact vis_of hv) hd hcd
theorem RelS.at1 (R : RelS K M r Pr σ H ev rs oa) {i : Nat} {ds : List D} (h : getO ev i = some ds) : ∃ xs, σ[i]? = some (some (.ref (oa i))) ∧ H (oa i) = some (.lst xs) ∧ DaL K (Av M ev oa) H xs ds ∧ oa i ≠ r.a := by
  obtain ⟨xs, h1, h2, h3, _, h5⟩ := R.own i ds (getO_some h)
  exact ⟨xs, h1, h2, h3, h5⟩
theorem s_app (i : Nat) {x : Str} {e : Expr} {p1 p2 p3 p4 : Pos} {f : Ev → Mn D} (h : SE G k sc N e f) (hi : N[i]? = some x := by rfl) (hv : visB sc x = true := by rfl) (hd : (x == ("__debug__" : Str)) = false := by decide) (hcd : (x == ("__classdict__" : Str)) = false := by decide)
    (hs : ∀ env, swapsWith (.Call (.Attribute (.Name x p1) "append" p2) [e] [] p3) none p4.line env = pure false := by intro _; rfl) (h1 : ∀ env, starEach [e] env = (false, eval e env) :: starEach [] env := by intro _; rfl)
    (hf : ∀ env, ((backTo p3 (starEach [e] env)).all (fun x => !x.1) && (backToKw p3 (keywordEach [] env)).all (fun x => x.1.isSome) && decide (([e] : List Expr).length + ([] : List Keyword).length + (if ([] : List Keyword).isEmpty then 0 else 1) < 30)) = true := by intro _; rfl)
    (hl : (p2.endLine == p3.line) = true := by rfl) : SS G k sc N (.Expr (.Call (.Attribute (.Name x p1) "append" p2) [e] [] p3) p4) (sApp i f) := fun X W g tk po => by
  refine ps_imp (ps_expr (pe_bm PySem.F.plainAttrs_list PySem.F.slot_list_append PySem.F.type_list_append mt_append (pe_at g hi hv hd hcd) (pa_cons (h X W g tk) pa_nil (h1 _)) (by rfl) (hf _) hl (h1 _) (by rfl)) (hs _)) fun D σ H h => ?_
  obtain ⟨M, r, Pr, ev, rs, oa, R, o, rs', e, w⟩ := h
  have key : ∀ {ds : List DL.D} {o1 : Out (List DL.D)} {rs1 : RS}, getO ev i = some ds → (bnd (dyn f ev) fun d => lft (if ds.length < sizeLine then some (ds ++ [d]) else none)) rs = some (o1, rs1) →
      (∀ es, o1 = .val es → WanS G.K G.mg M r Pr rs1 W D (.nx (ev.set i (.own es)))) → (∀ x j, o1 = .exc x j → WanS G.K G.mg M r Pr rs1 W D (.exc x j)) →
      tDrop (tBM X.K "list" rAppend (tVar i) (tCons (tE G.K G.mg W f) tNil)) D σ H := fun {ds o1 rs1} hg hb cv cx => by
    obtain ⟨xs, a1, a2, a3, a5⟩ := R.at1 hg
    refine ⟨_, a1, .inl ⟨rfl, _, .of a2⟩, ?_⟩
    rcases bnd_some hb with ⟨d, rs2, e3, e4⟩ | ⟨y, j, e3, rfl⟩
    · obtain ⟨es, e5, rfl, rfl⟩ := lft_some e4
      split at e5
      · rename_i hlt
        cases e5
        refine R.dynE e3 (fun d' ed v H' R' s dv => ?_) fun _ _ ed => by cases ed
        cases ed
        obtain ⟨xs', b1, b2, b3, b5⟩ := R'.at1 hg
        rw [s _ _ a5 a2] at b2
        cases b2
        refine ⟨_, xs, v, rfl, rfl, s _ _ a5 a2, by rw [b3.length]; exact hlt, cv _ rfl _ _ oa (R'.mutL (getO_some hg) (b3.append (.cons dv .nil)))⟩
      · cases e5
    · exact R.dynE e3 (fun _ ed => by cases ed) fun y j ed => by cases ed; exact cx _ _ rfl
  rcases bnS_some e with ⟨es, rs1, e1, e2⟩ | ⟨y, j, e1, rfl⟩
  · cases e2
    obtain ⟨ds, hg, hb⟩ := bnd_lft e1
    exact key hg hb (fun _ q => by cases q; exact w) fun _ _ q => by cases q
  · obtain ⟨ds, hg, hb⟩ := bnd_lft e1
    exact key hg hb (fun _ q => by cases q) fun _ _ q => by cases q; exact w
/-- x.extend(e), e a list -/
def lstD : D → Option (List D)
  | .list ds => some ds
  | _ => none
def sExt (i : Nat) (f : Ev → Mn D) (ev : Ev) : Ms := bnS (bnd (lft (getO ev i)) fun ds => bnd (f ev) fun d => lft ((lstD d).bind fun es => if ds.length + es.length ≤ sizeLine then some (ds ++ es) else none)) fun es rs => some (.nx (ev.set i (.own es)), rs)
theorem s_ext (i : Nat) {x : Str} {e : Expr} {p1 p2 p3 p4 : Pos} {f : Ev → Mn D} (h : SE G k sc N e f) (hi : N[i]? = some x := by rfl) (hv : visB sc x = true := by rfl) (hd : (x == ("__debug__" : Str)) = false := by decide) (hcd : (x == ("__classdict__" : Str)) = false := by decide)
    (hs : ∀ env, swapsWith (.Call (.Attribute (.Name x p1) "extend" p2) [e] [] p3) none p4.line env = pure false := by intro _; rfl) (h1 : ∀ env, starEach [e] env = (false, eval e env) :: starEach [] env := by intro _; rfl)
    (hf : ∀ env, ((backTo p3 (starEach [e] env)).all (fun x => !x.1) && (backToKw p3 (keywordEach [] env)).all (fun x => x.1.isSome) && decide (([e] : List Expr).length + ([] : List Keyword).length + (if ([] : List Keyword).isEmpty then 0 else 1) < 30)) = true := by intro _; rfl)
    (hl : (p2.endLine == p3.line) = true := by rfl) : SS G k sc N (.Expr (.Call (.Attribute (.Name x p1) "extend" p2) [e] [] p3) p4) (sExt i f) := fun X W g tk po => by
  refine ps_imp (ps_expr (pe_bm PySem.F.plainAttrs_list PySem.F.slot_list_extend PySem.F.type_list_extend mt_extend (pe_at g hi hv hd hcd) (pa_cons (h X W g tk) pa_nil (h1 _)) (by rfl) (hf _) hl (h1 _) (by rfl)) (hs _)) fun D σ H h => ?_
  obtain ⟨M, r, Pr, ev, rs, oa, R, o, rs', e, w⟩ := h
  have key : ∀ {ds : List DL.D} {o1 : Out (List DL.D)} {rs1 : RS}, getO ev i = some ds → (bnd (f ev) fun d => lft ((lstD d).bind fun es => if ds.length + es.length ≤ sizeLine then some (ds ++ es) else none)) rs = some (o1, rs1) →
      (∀ es, o1 = .val es → WanS G.K G.mg M r Pr rs1 W D (.nx (ev.set i (.own es)))) → (∀ x j, o1 = .exc x j → WanS G.K G.mg M r Pr rs1 W D (.exc x j)) →
      tDrop (tBM X.K "list" rExtend (tVar i) (tCons (tE G.K G.mg W f) tNil)) D σ H := fun {ds o1 rs1} hg hb cv cx => by
    obtain ⟨xs, a1, a2, a3, a5⟩ := R.at1 hg
    refine ⟨_, a1, .inl ⟨rfl, _, .of a2⟩, ?_⟩
    rcases bnd_some hb with ⟨d, rs2, e3, e4⟩ | ⟨y, j, e3, rfl⟩
    · obtain ⟨es, e5, rfl, rfl⟩ := lft_some e4
      cases hd : lstD d with
      | none => rw [hd] at e5; cases e5
      | some fs =>
        rw [hd] at e5
        replace e5 : (if ds.length + fs.length ≤ sizeLine then some (ds ++ fs) else none) = some es := e5
        split at e5
        · rename_i hlt
          cases e5
          refine R.evE R.e (fun b m => .inl m) e3 (fun d' ed v H' R' s dv => ?_) fun _ _ ed => by cases ed
          cases ed
          obtain ⟨xs', b1, b2, b3, b5⟩ := R'.at1 hg
          rw [s _ _ a5 a2] at b2
          cases b2
          cases dv with
          | lst q1 q2 q3 =>
            cases hd
            refine ⟨_, _, xs, _, rfl, rfl, s _ _ a5 a2, q1, by rw [b3.length, q3.length]; exact hlt, cv _ rfl _ _ oa (R'.mutL (getO_some hg) (b3.append q3))⟩
          | _ => cases hd
        · cases e5
    · exact R.evE R.e (fun b m => .inl m) e3 (fun _ ed => by cases ed) fun y j ed => by cases ed; exact cx _ _ rfl
  rcases bnS_some e with ⟨es, rs1, e1, e2⟩ | ⟨y, j, e1, rfl⟩
  · cases e2
    obtain ⟨ds, hg, hb⟩ := bnd_lft e1
    exact key hg hb (fun _ q => by cases q; exact w) fun _ _ q => by cases q
  · obtain ⟨ds, hg, hb⟩ := bnd_lft e1
    exact key hg hb (fun _ q => by cases q) fun _ _ q => by cases q; exact w
/-- y = x.pop() -/
def sPop (j i : Nat) (ev : Ev) : Ms := bnS (lft ((getO ev i).bind fun ds => (ds[ds.length - 1]?).map fun d => (ds.dropLast, d))) fun q rs => some (.nx ((ev.set i (.own q.1)).set j (.dat q.2)), rs)
theorem DaL.get_last {vs : List V} {ds : List D} {d : D} (h : DaL K M H vs ds) (e : ds[ds.length - 1]? = some d) : ∃ v, vs[vs.length - 1]? = some v ∧ Da K M H v d := by
  rw [h.length]
  exact h.get e
structure ExcF (G : Gm) (x : Str) : Prop where
  ex : ∃ C, G.mg x = some (.ref C) ∧ PySem.W.excIn G.K C [.type "ValueError", .type "Exception", .type "BaseException", .type "object"] "ValueError.__new__" = true ∧ PySem.W.keepIn G.K (.ref C) = true ∧
    PySem.W.subIn G.K (.ref C) (.type "BaseException") = some true ∧ PySem.W.typeIn G.K (.ref C) = some (.type "type")
def sRaise (x : Str) (_ : Ev) : Ms := fun rs => some (.exc x none, rs)
theorem s_raise {x m : Str} {j : Nat} {p p2 pos pos2 : Pos} (F : ExcF G x) (hg : glB sc x = true := by rfl) (hdb : (x == ("__debug__" : Str)) = false := by decide) : SS G k sc N (.Raise (some (.Call (.Name x p) [.Constant (.str m) j p2] [] pos)) none pos2) (sRaise x) := fun X W g tk po => by
  obtain ⟨C, h1, h2, h3, h4, h5⟩ := F.ex
  refine ps_imp (ps_raise g.calm tk (pmk_own PySem.F.excBase_ValueError (by rw [g.hK]; exact h2) (by rw [g.hmg]; exact h1) (by rw [g.hK]; exact h3) (raises_own (by rw [g.hK]; exact h4) (by rw [g.hK]; exact h5)) (gl_of g hg) hdb)) fun D σ H h => ?_
  obtain ⟨M, r, Pr, ev, rs, oa, R, o, rs', e, w⟩ := h
  cases e
  exact w _ _ σ H R.prot (row_sub R.e.row fun b m => .inl m) ⟨⟨C, h1, rfl⟩, rfl⟩
end
section
variable {G : Gm} {k : Nat}
def dFun (n m : Nat) (f : Ev → Ms) (ss : List Slot) : Mn D := fun rs => if ss.length = n then (match f (ss ++ List.replicate (m - n) .hid) rs with
  | some (.nx _, rs') => some (.val .none, rs')
  | some (.ret d, rs') => some (.val d, rs')
  | some (.exc x i, rs') => some (.exc x i, rs')
  | _ => none) else none
theorem arg_slots {K : PySem.W.Frag} {M : Addr → Prop} {r : Rw} {H : Hp} : ∀ {vs : List V} {ss : List Slot} (j : Nat), ArgL K M r H vs ss → ∀ (i : Nat) s, ss[i]? = some s → ∀ σ : L2.St, (∀ i v, vs[i]? = some v → σ[j + i]? = some (some v)) → SlotAt K M r σ H (j + i) s
  | _, _, j, .nil, i, s, e, σ, _ => by simp at e
  | _, _, j, .dat h t, 0, s, e, σ, hσ => by
    simp at e; subst e
    exact ⟨_, hσ 0 _ rfl, h⟩
  | _, _, j, .row t, 0, s, e, σ, hσ => by
    simp at e; subst e
    exact hσ 0 _ rfl
  | _, _, j, .dat h t, i + 1, s, e, σ, hσ => by
    have q := arg_slots (j + 1) t i s (by simpa using e) σ fun i' v h => by
      have z := hσ (i' + 1) v (by simpa using h)
      rwa [show j + (i' + 1) = j + 1 + i' by omega] at z
    rwa [show j + 1 + i = j + (i + 1) by omega] at q
  | _, _, j, .row t, i + 1, s, e, σ, hσ => by
    have q := arg_slots (j + 1) t i s (by simpa using e) σ fun i' v h => by
      have z := hσ (i' + 1) v (by simpa using h)
      rwa [show j + (i' + 1) = j + 1 + i' by omega] at z
    rwa [show j + 1 + i = j + (i + 1) by omega] at q
theorem ArgL.noown {K : PySem.W.Frag} {M : Addr → Prop} {r : Rw} {H : Hp} : ∀ {vs : List V} {ss : List Slot}, ArgL K M r H vs ss → ∀ (i : Nat) (ds : Ow), ss[i]? ≠ some (.own ds)
  | _, _, .nil, i, ds, e => by simp at e
  | _, _, .dat h t, 0, ds, e => by simp at e
  | _, _, .row t, 0, ds, e => by simp at e
  | _, _, .dat h t, i + 1, ds, e => t.noown i ds (by simpa using e)
  | _, _, .row t, i + 1, ds, e => t.noown i ds (by simpa using e)
theorem fo_of {x : Str} {st : Stmt} {N ps : List Str} {f : Addr} {fd : FuncData} {den : Ev → Ms} (hmg : G.mg x = some (.ref f)) (F : Fun G.K x x st f fd) (S : FnScope N ps (defScope st)) (bd : Binds G.K fd ps []) (h : SB G k ⟨defScope st, fun _ => true⟩ N (defBody st) den) :
    FO G (k + 1) x ps.length (dFun ps.length N.length den) := by
  refine ⟨f, fd, ps, hmg, F.kp, bd, rfl, F.okX S (fun vs H Q E h => h.1) fun cdv A outer s H vs Q E hr hsp => ?_⟩
  have g : Gd G k ⟨defScope st, fun _ => true⟩ N (cxOf (L2.CX G.P G.w) G.P G.w G.K G.mg G.base N x (defScope st) f cdv A outer s H E) := ⟨rfl, S.nd, rfl, fun _ _ => rfl, rfl, hr, rfl, rfl, rfl, rfl, rfl, fun _ => rfl⟩
  refine ⟨_, h _ (fun cls d _ H => E cls d H) g (takes_of rfl rfl rfl rfl) (passes_of rfl), ?_⟩
  obtain ⟨hn, M, r, ss, rs, mr, ml, row, ar, o, rs', e, w⟩ := hsp
  have hl : ss.length = ps.length := by rw [← ar.length]; exact hn
  unfold dFun at e
  rw [if_pos hl] at e
  have lenN : ps.length ≤ N.length := by
    have q := congrArg List.length S.pre
    rw [List.length_take] at q
    omega
  have R : RelS G.K M r (fun b o => H b = some o ∧ b ≠ r.a) (L2.start N vs) H (ss ++ List.replicate (N.length - ps.length) .hid) rs fun _ => 0 := by
    have no : ∀ i, ¬ isOwn (ss ++ List.replicate (N.length - ps.length) .hid) i := fun i ⟨ds, e⟩ => by
      by_cases hi : i < ss.length
      · rw [List.getElem?_append_left hi] at e
        exact ar.noown i ds e
      · rw [List.getElem?_append_right (by omega), List.getElem?_replicate] at e
        split at e <;> cases e
    have sub : ∀ b, Av M (ss ++ List.replicate (N.length - ps.length) .hid) (fun _ => 0) b → M b := fun b m => m.elim id fun ⟨i, q, _⟩ => absurd q (no i)
    refine ⟨RelE.sub (M := M) ⟨mr, ml, row, fun i s e => ?_, ?_⟩ sub (.inl mr), mr, fun b o p => p.1, fun o p => p.2 rfl, fun b m n => ?_, fun i ds e => absurd ⟨ds, e⟩ (no i), fun i j q => absurd q (no i)⟩
    · by_cases hi : i < ss.length
      · rw [List.getElem?_append_left hi] at e
        have q := arg_slots 0 ar i s e (L2.start N vs) fun i' v h => by
          unfold L2.start
          have hi' : i' < vs.length := (List.getElem?_eq_some_iff.mp h).1
          rw [Nat.zero_add, List.getElem?_append_left (by rw [List.length_map]; exact hi'), List.getElem?_map, h]
          rfl
        rwa [Nat.zero_add] at q
      · rw [List.getElem?_append_right (by omega), List.getElem?_replicate] at e
        split at e
        · cases e; trivial
        · cases e
    · unfold L2.start
      rw [List.length_append, List.length_append, List.length_map, List.length_replicate, List.length_replicate, ar.length, hl]
      exact Nat.le_refl _
    · obtain ⟨xs, q, _⟩ := ml b m
      exact ⟨xs, q, n⟩
  have stp : ∀ {H'}, PrK (fun b o => H b = some o ∧ b ≠ r.a) H' → Stp r H H' := fun p b o n q => p b o ⟨q, n⟩
  cases hden : den (ss ++ List.replicate (N.length - ps.length) .hid) rs with
  | none => rw [hden] at e; cases e
  | some q =>
    obtain ⟨ro, rs2⟩ := q
    rw [hden] at e
    refine ⟨M, r, _, _, rs, _, R, ro, rs2, hden, ?_⟩
    cases ro with
    | nx ev' => cases e; exact fun σ' H' oa' R' => w H' (stp R'.prot) (row_sub R'.e.row fun b m => .inl m) _ .non
    | ret d => cases e; exact fun v H' pk ro dv => w H' (stp pk) ro v dv
    | exc y i => cases e; exact fun cls dd σ' H' pk ro a => w cls dd H' (stp pk) ro a
    | bk ev' => cases e
    | ct ev' => cases e
end
end DL
namespace DL
open PySem PySem.Spec PyProof.Rows L2
section
variable {G : Gm} {k : Nat} {sc : Sx} {N : List Str}
def dBin (op : D → D → Option D) (fa fb : Ev → Mn D) (ev : Ev) : Mn D := bnd (fa ev) fun x => bnd (fb ev) fun y => lft (op x y)
def dUn (op : D → Option D) (fa : Ev → Mn D) (ev : Ev) : Mn D := bnd (fa ev) fun x => lft (op x)
def dCmpE (op : D → D → Option Bool) (fa fb : Ev → Mn D) (ev : Ev) : Mn D := bnd (fa ev) fun x => bnd (fb ev) fun y => lft ((op x y).map .bool)
def dCmp (op : D → D → Option Bool) (fa fb : Ev → Mn D) (ev : Ev) : Mn Bool := bnd (fa ev) fun x => bnd (fb ev) fun y => lft (op x y)
theorem E_ix {a b : Expr} {fa fb : Ev → Mn D} {p : Pos} (ha : SE G k sc N a fa) (hb : SE G k sc N b fb) (hs : ∀ o i, subscripted b false o i = operate [o, i] (getItem o i) := by intro _ _; rfl) : SE G k sc N (.Subscript a b p) (dBin ixD fa fb) := e_ix ha hb hs
theorem E_slLo {a b : Expr} {fa fb : Ev → Mn D} {p1 p2 : Pos} (ha : SE G k sc N a fa) (hb : SE G k sc N b fb) : SE G k sc N (.Subscript a (.Slice (some b) none none p1) p2) (dBin slLo fa fb) := e_slLo ha hb
theorem E_slHi {a b : Expr} {fa fb : Ev → Mn D} {p1 p2 : Pos} (ha : SE G k sc N a fa) (hb : SE G k sc N b fb) : SE G k sc N (.Subscript a (.Slice none (some b) none p1) p2) (dBin slHi fa fb) := e_slHi ha hb
theorem E_add {a b : Expr} {fa fb : Ev → Mn D} {p : Pos} (ha : SE G k sc N a fa) (hb : SE G k sc N b fb) : SE G k sc N (.BinOp a .Add b p) (dBin addD fa fb) := e_add ha hb
theorem E_sub {a b : Expr} {fa fb : Ev → Mn D} {p : Pos} (ha : SE G k sc N a fa) (hb : SE G k sc N b fb) : SE G k sc N (.BinOp a .Sub b p) (dBin subD fa fb) := e_sub ha hb
theorem E_neg {a : Expr} {fa : Ev → Mn D} {p : Pos} (ha : SE G k sc N a fa) : SE G k sc N (.UnaryOp .USub a p) (dUn negD fa) := e_neg ha
theorem E_cmp {a b : Expr} {fa fb : Ev → Mn D} {op : CmpOp} {f : D → D → Option Bool} {p : Pos} (c : CmpR G k sc N op f) (ha : SE G k sc N a fa) (hb : SE G k sc N b fb) (hm : behindInMarks op b = false := by first | exact nomark _ (by decide) (by decide) | rfl) : SE G k sc N (.Compare a [op] [b] p) (dCmpE f fa fb) := e_cmp c ha hb hm
theorem T_cmp {a b : Expr} {fa fb : Ev → Mn D} {op : CmpOp} {f : D → D → Option Bool} {p : Pos} (c : CmpR G k sc N op f) (ha : SE G k sc N a fa) (hb : SE G k sc N b fb) (hm : behindInMarks op b = false := by first | exact nomark _ (by decide) (by decide) | rfl) : ST G k sc N (.Compare a [op] [b] p) (dCmp f fa fb) := t_cmp c ha hb hm
def KTab := List (Str × D)
structure GlK (G : Gm) (x : Str) (t : KTab) : Prop where
  ex : ∃ d es n, G.mg x = some (.ref d) ∧ KDict G.K G.w d es n ∧ ∀ z : Str, (match t.lookup z with
    | some dd => ∃ u v, PySem.W.nsIn G.K d z = some (some u) ∧ RelV v u ∧ ∀ M H, Da G.K M H v dd
    | none => PySem.W.nsIn G.K d z = some none)
def kgetD (t : KTab) : D → Option D
  | .str z => t.lookup z
  | _ => none
def kinD (t : KTab) : D → Option Bool
  | .str z => some (t.lookup z).isSome
  | _ => none
def dKget (t : KTab) (fb : Ev → Mn D) (ev : Ev) : Mn D := bnd (fb ev) fun y => lft (kgetD t y)
def dKin (t : KTab) (fb : Ev → Mn D) (ev : Ev) : Mn Bool := bnd (fb ev) fun y => lft (kinD t y)
def dKnin (t : KTab) (fb : Ev → Mn D) (ev : Ev) : Mn Bool := bnd (fb ev) fun y => lft ((kinD t y).map (!·))
theorem E_kget {x : Str} {t : KTab} {b : Expr} {fb : Ev → Mn D} {p p2 : Pos} (h : GlK G x t) (hb : SE G k sc N b fb) (hg : glB sc x = true := by rfl) (hdb : (x == ("__debug__" : Str)) = false := by decide) (hs : ∀ o i, subscripted b false o i = operate [o, i] (getItem o i) := by intro _ _; rfl) :
    SE G k sc N (.Subscript (.Name x p) b p2) (dKget t fb) := by
  obtain ⟨d, es, n, h1, h2, h3⟩ := h.ex
  refine e_one (rl := fun X y H Q => rIxD X.K X.w (.ref d) y H Q) hb (fun X ta g h => pe_imp (pe_ix ix_kdict (pe_glob (v := .ref d) (gl_of g hg) (by rw [g.hmg]; exact h1) rfl hdb) h hs) fun σ H Q q => q) fun X M H y dy dd Q g ml hy e hq => ?_
  rw [g.hK, g.hw]
  cases hy with
  | str z =>
    have q := h3 z
    have e : t.lookup z = some dd := e
    rw [e] at q
    obtain ⟨u, v, q1, q2, q3⟩ := q
    exact ⟨d, z, v, rfl, rfl, ⟨es, n, u, h2.at_, h2.lit, q1, q2⟩, hq v H (.refl _) (q3 M H)⟩
  | _ => cases e
theorem T_kin {x : Str} {t : KTab} {b : Expr} {fb : Ev → Mn D} {p p2 : Pos} (h : GlK G x t) (hb : SE G k sc N b fb) (hg : glB sc x = true := by rfl) (hdb : (x == ("__debug__" : Str)) = false := by decide) (hm : behindInMarks .In (.Name x p) = false := by rfl) :
    ST G k sc N (.Compare b [.In] [.Name x p] p2) (dKin t fb) := fun X W g tk => by
  obtain ⟨d, es, n, h1, h2, h3⟩ := h.ex
  refine pt_imp (pt_cmpR (op_in_kd (by rw [g.hK, g.hw]; exact h2)) (hb X W g tk) (pe_glob (v := .ref d) (gl_of g hg) (by rw [g.hmg]; exact h1) rfl hdb) hm) fun σ H Q h => ?_
  obtain ⟨M, r, ev, rs, R, o, rs', e, w⟩ := h
  refine tE_bnd R e w fun y rs1 H1 v R1 s1 d1 e1 w1 => ?_
  obtain ⟨c, e3, rfl, rfl⟩ := lft_some e1
  rw [g.hK]
  cases d1 with
  | str z =>
    cases e3
    have q := h3 z
    cases hz : t.lookup z with
    | none =>
      rw [hz] at q
      exact ⟨z, _, rfl, rfl, q, false, rfl, by have := w1 H1 (.refl _) R1.row; rwa [hz] at this⟩
    | some dd =>
      rw [hz] at q
      obtain ⟨u, v, q1, q2, q3⟩ := q
      exact ⟨z, _, rfl, rfl, q1, true, rfl, by have := w1 H1 (.refl _) R1.row; rwa [hz] at this⟩
  | _ => cases e3
theorem T_knin {x : Str} {t : KTab} {b : Expr} {fb : Ev → Mn D} {p p2 : Pos} (h : GlK G x t) (hb : SE G k sc N b fb) (hg : glB sc x = true := by rfl) (hdb : (x == ("__debug__" : Str)) = false := by decide) (hm : behindInMarks .NotIn (.Name x p) = false := by rfl) :
    ST G k sc N (.Compare b [.NotIn] [.Name x p] p2) (dKnin t fb) := fun X W g tk => by
  obtain ⟨d, es, n, h1, h2, h3⟩ := h.ex
  refine pt_imp (pt_cmpR (op_notIn_kd (by rw [g.hK, g.hw]; exact h2)) (hb X W g tk) (pe_glob (v := .ref d) (gl_of g hg) (by rw [g.hmg]; exact h1) rfl hdb) hm) fun σ H Q h => ?_
  obtain ⟨M, r, ev, rs, R, o, rs', e, w⟩ := h
  refine tE_bnd R e w fun y rs1 H1 v R1 s1 d1 e1 w1 => ?_
  obtain ⟨c, e3, rfl, rfl⟩ := lft_some e1
  rw [g.hK]
  cases d1 with
  | str z =>
    have q := h3 z
    replace e3 : some (!(t.lookup z).isSome) = some c := e3
    cases hz : t.lookup z with
    | none =>
      rw [hz] at q e3
      cases e3
      exact ⟨z, _, rfl, rfl, q, true, rfl, w1 H1 (.refl _) R1.row⟩
    | some dd =>
      rw [hz] at q e3
      cases e3
      obtain ⟨u, v, q1, q2, q3⟩ := q
      exact ⟨z, _, rfl, rfl, q1, false, rfl, w1 H1 (.refl _) R1.row⟩
  | _ => cases e3
variable {K : PySem.W.Frag} {mg : Str → Option Value} {M : Addr → Prop} {H H' H1 : Hp} {r : Rw} {σ σ' : L2.St} {ev ev' : Ev} {rs rs' : RS} {W : WX} {Pr Pr' : Addr → HO → Prop} {oa : Nat → Addr}
def pSet (i : Nat) (f : Ev → Mn D) (ev : Ev) : Ms := bnS (f ev) fun d rs => some (.nx (ev.set i (.dat d)), rs)
theorem P_set (i : Nat) {x : Str} {e : Expr} {p p' : Pos} {f : Ev → Mn D} (h : SE G k sc N e f) (hi : N[i]? = some x := by rfl) (hl : locB sc x = true := by rfl)
    (hs : ∀ env, env.scope = sc.sc → swapsWith e (some (.Name x p')) p.line env = pure false := by intro env h; first | rfl | (cases env; cases h; rfl)) : SS G k sc N (.Assign [.Name x p'] e p) (pSet i f) := fun X W g tk po => by
  refine ps_imp (ps_set (i := i) (by rw [g.hN]; exact g.nd) (by rw [g.hN]; exact hi) (loc_of g hl).1 (h X W g tk) (hs _ g.hsc) (loc_of g hl).2) fun D σ H h => ?_
  obtain ⟨M, r, Pr, ev, rs, oa, R, o, rs', e, w⟩ := h
  rcases bnS_some e with ⟨d, rs1, e1, e2⟩ | ⟨x, j, e1, rfl⟩
  · cases e2
    exact R.evE R.e (fun b m => .inl m) e1 (fun d' ed v H' R' s dv => by cases ed; exact w _ _ oa (R'.set1 dv)) fun _ _ ed => by cases ed
  · exact R.evE R.e (fun b m => .inl m) e1 (fun _ ed => by cases ed) fun y j ed => by cases ed; exact w
def pTgt (t : Tgt) (f : Ev → Mn D) (ev : Ev) : Ms := bnS (bnd (f ev) fun d => lft (t.of d)) fun ds rs => some (.nx (setE ev t.ix ds), rs)
theorem P_tgt {t : Tgt} {tg e : Expr} {p : Pos} {f : Ev → Mn D} (h : SE G k sc N e f) (ht : PGt G k sc N tg t) (hs : ∀ env, swapsWithSole [tg] e p.line env = pure false := by intro _; rfl) (hw : ∀ env, env.scope = sc.sc → swappedStores [tg] e env = pure none := by intro env h; first | rfl | (cases env; cases h; rfl))
    (h1 : ∀ env, (assignEach [tg] env).map (·.2) = [assign tg env] := by intro _; rfl) : SS G k sc N (.Assign [tg] e p) (pTgt t f) := fun X W g tk po => by
  obtain ⟨u, hu1, hu2⟩ := ht
  refine ps_imp (ps_asg (h X W g tk) (hu1 X g) (hs _) (hw _ g.hsc) (h1 _)) fun D σ H h => ?_
  obtain ⟨M, r, Pr, ev, rs, oa, R, o, rs', e, w⟩ := h
  rcases bnS_some e with ⟨ds, rs1, e1, e2⟩ | ⟨x, j, e1, rfl⟩
  · cases e2
    rcases bnd_some e1 with ⟨d, rs2, e3, e4⟩ | ⟨_, _, _, e4⟩
    · obtain ⟨ds', e5, e6, rfl⟩ := lft_some e4
      cases e6
      exact R.evE R.e (fun b m => .inl m) e3 (fun d' ed v H' R' s dv => by cases ed; exact hu2 _ _ _ _ _ _ _ dv e5 fun vs hvs => w _ _ oa (R'.setL hvs)) fun _ _ ed => by cases ed
    · cases e4
  · rcases bnd_some e1 with ⟨d, rs2, e3, e4⟩ | ⟨y, j', e3, e4⟩
    · obtain ⟨ds', e5, e6, rfl⟩ := lft_some e4
      cases e6
    · cases e4
      exact R.evE R.e (fun b m => .inl m) e3 (fun _ ed => by cases ed) fun y j ed => by cases ed; exact w
/-- a, b = x, y with plain local names -/
def pPar (i j : Nat) (f : Ev → Mn (List Slot)) (ev : Ev) : Ms := bnS (bnd (f ev) fun ss => lft (dats ss)) fun ds rs => match ds with
  | [d, e] => some (.nx ((ev.set i (.dat d)).set j (.dat e)), rs)
  | _ => none
def plocB (sc : Sx) (x : Str) : Bool := match sc.sc.names.lookup x with
  | some .local => true
  | _ => false
theorem ploc_of {X : Cx} {x : Str} (g : Gd G k sc N X) (h : plocB sc x = true) : X.env.scope.names.lookup x = some .local := by
  unfold plocB at h
  rw [g.hsc]
  split at h
  · assumption
  · cases h
theorem P_par (i j : Nat) {x y : Str} {a b : Expr} {px py pt p pt2 : Pos} {kt k2 : Nat} {f : Ev → Mn (List Slot)} (h : SA G k sc N [a, b] f) (hi : N[i]? = some x := by rfl) (hj : N[j]? = some y := by rfl) (hij : i ≠ j := by decide) (hx : plocB sc x = true := by rfl) (hy : plocB sc y = true := by rfl)
    (hw : ∀ env, env.scope = sc.sc → swappedStores [.Tuple [.Name x px, .Name y py] kt pt] (.Tuple [a, b] k2 pt2) env = pure (some [x, y]) := by intro env h; first | rfl | (cases env; cases h; rfl))
    (hs : ∀ env, swapsWithSole [.Tuple [.Name x px, .Name y py] kt pt] (.Tuple [a, b] k2 pt2) p.line env = pure false := by intro _; rfl) :
    SS G k sc N (.Assign [.Tuple [.Name x px, .Name y py] kt pt] (.Tuple [a, b] k2 pt2) p) (pPar i j f) := fun X W g tk po => by
  refine ps_imp (ps_par (i := i) (j := j) g.calm (by rw [g.hN]; exact g.nd) (by rw [g.hN]; exact hi) (by rw [g.hN]; exact hj) hij (ploc_of g hx) (ploc_of g hy) (h X W g tk) (hw _ g.hsc) (hs _)) fun D σ H h => ?_
  obtain ⟨M, r, Pr, ev, rs, oa, R, o, rs', e, w⟩ := h
  rcases bnS_some e with ⟨ds, rs1, e1, e2⟩ | ⟨x, j, e1, rfl⟩
  · split at e2
    · rename_i d1 d2
      cases e2
      rcases bnd_some e1 with ⟨ss, rs2, e3, e4⟩ | ⟨_, _, _, e4⟩
      · obtain ⟨ds', e5, e6, rfl⟩ := lft_some e4
        cases e6
        refine ⟨_, r, ev, rs, R.e, .val ss, _, e3, fun H1 s1 w1 vs hvs => ?_⟩
        obtain ⟨v, v', rfl, h1, h2⟩ := two_da (hvs.dats e5)
        have R1 := R.stp s1 w1
        exact ⟨v, v', rfl, w _ _ oa ((R1.set1 h1).set1 (h2.sub fun b m => m.elim .inl fun ⟨j', o, e⟩ => .inr ⟨j', (isOwn_set (fun ds e => by cases e) o).1, e⟩))⟩
      · cases e4
    · cases e2
  · rcases bnd_some e1 with ⟨d, rs2, e3, e4⟩ | ⟨y, j', e3, e4⟩
    · obtain ⟨ds', e5, e6, rfl⟩ := lft_some e4
      cases e6
    · cases e4
      exact ⟨_, r, ev, rs, R.e, .exc x j, rs', e3, fun cls dd H' s w1 a => w cls dd σ H' (R.stp s w1).prot (row_sub w1 fun b m => .inl m) a⟩
def pRet (f : Ev → Mn D) (ev : Ev) : Ms := bnS (f ev) fun d rs => some (.ret d, rs)
theorem P_ret {e : Expr} {p : Pos} {f : Ev → Mn D} (h : SE G k sc N e f) : SS G k sc N (.Return (some e) p) (pRet f) := fun X W g tk po => by
  refine ps_imp (ps_ret (h X W g tk)) fun D σ H h => ?_
  obtain ⟨M, r, Pr, ev, rs, oa, R, o, rs', e, w⟩ := h
  rcases bnS_some e with ⟨d, rs1, e1, e2⟩ | ⟨x, j, e1, rfl⟩
  · cases e2
    exact R.evE R.e (fun b m => .inl m) e1 (fun d' ed v H' R' s dv => by cases ed; exact w v H' R'.prot (row_sub R'.e.row fun b m => .inl m) (dv.sub fun b m => .inl m)) fun _ _ ed => by cases ed
  · exact R.evE R.e (fun b m => .inl m) e1 (fun _ ed => by cases ed) fun y j ed => by cases ed; exact w
def pDrop (f : Ev → Mn D) (ev : Ev) : Ms := bnS (f ev) fun _ rs => some (.nx ev, rs)
theorem P_expr {e : Expr} {p : Pos} {f : Ev → Mn D} (h : SE G k sc N e f) (hs : ∀ env, swapsWith e none p.line env = pure false := by intro _; rfl) : SS G k sc N (.Expr e p) (pDrop f) := fun X W g tk po => by
  refine ps_imp (ps_expr (h X W g tk) (hs _)) fun D σ H h => ?_
  obtain ⟨M, r, Pr, ev, rs, oa, R, o, rs', e, w⟩ := h
  rcases bnS_some e with ⟨d, rs1, e1, e2⟩ | ⟨x, j, e1, rfl⟩
  · cases e2
    exact R.evE R.e (fun b m => .inl m) e1 (fun d' ed v H' R' s dv => w _ _ oa R') fun _ _ ed => by cases ed
  · exact R.evE R.e (fun b m => .inl m) e1 (fun _ ed => by cases ed) fun y j ed => by cases ed; exact w
def pIf (t : Ev → Mn Bool) (f g : Ev → Ms) (ev : Ev) : Ms := bnS (t ev) fun c => if c = true then f ev else g ev
theorem P_if {c : Expr} {a b : List Stmt} {p : Pos} {t : Ev → Mn Bool} {f g : Ev → Ms} (hc : ST G k sc N c t) (ha : SB G k sc N a f) (hb : SB G k sc N b g) : SS G k sc N (.If c a b p) (pIf t f g) := fun X W gd tk po => by
  refine ps_imp (ps_if (hc X W gd tk) (ha X W gd tk po) (hb X W gd tk po)) fun D σ H h => ?_
  obtain ⟨M, r, Pr, ev, rs, oa, R, o, rs', e, w⟩ := h
  rcases bnS_some e with ⟨c, rs1, e1, e2⟩ | ⟨x, j, e1, rfl⟩
  · refine ⟨_, r, ev, rs, R.e, .val c, rs1, e1, fun H' s w1 => ?_⟩
    have R' := R.stp s w1
    cases c with
    | true => rw [if_pos rfl] at e2; exact iteT ⟨M, r, Pr, ev, rs1, oa, R', o, rs', e2, w⟩
    | false => rw [if_neg (by decide)] at e2; exact iteF ⟨M, r, Pr, ev, rs1, oa, R', o, rs', e2, w⟩
  · exact ⟨_, r, ev, rs, R.e, .exc x j, rs', e1, fun cls dd H' s w1 a => w cls dd σ H' (R.stp s w1).prot (row_sub w1 fun b m => .inl m) a⟩
end
end DL
namespace DL
open PySem PySem.Spec PyProof.Rows L2
structure HasF (G : Gm) (x : Str) (st : Stmt) (ps : List Str) : Prop where
  ex : ∃ (f : Addr) (fd : FuncData), G.mg x = some (.ref f) ∧ Fun G.K x x st f fd ∧ Binds G.K fd ps []
section
variable {G : Gm} {k : Nat}
theorem fo_has {x : Str} {st : Stmt} {N ps : List Str} {den : Ev → Ms} (h : HasF G x st ps) (S : FnScope N ps (defScope st)) (b : SB G k ⟨defScope st, fun _ => true⟩ N (defBody st) den) : FO G (k + 1) x ps.length (dFun ps.length N.length den) := by
  obtain ⟨f, fd, h1, h2, h3⟩ := h.ex
  exact fo_of h1 h2 S h3 b
/-- nothing is said -/
theorem fo_zero {x : Str} {st : Stmt} {ps : List Str} {n : Nat} (h : HasF G x st ps) (hn : ps.length = n) : FO G k x n (fun _ _ => none) := by
  obtain ⟨f, fd, h1, h2, h3⟩ := h.ex
  have no : ∀ {vs H Q E}, ¬ spF G n (fun _ _ => none) vs H Q E := fun {vs H Q E} h => by
    obtain ⟨_, _, _, _, _, _, _, _, _, _, _, e, _⟩ := h
    cases e
  exact ⟨f, fd, ps, h1, h2.kp, h3, hn, ⟨fun vs H Q E q => absurd q no, fun A outer s H args us vs Q E _ _ _ _ q => absurd q no⟩⟩
end
mutual
inductive KDa (K : PySem.W.Frag) : Value → D → Prop
  | non : KDa K .none .none
  | bl (b : Bool) : KDa K (.bool b) (.bool b)
  | int (i : Int) (t : Tok) : KDa K (.int i t) (.int i)
  | str (x : Str) (t : Tok) : KDa K (.str x t) (.str x)
  | tup {a : Addr} {dd : Option Addr} {its : Array Value} {n : Nat} {sl : Array (Option Value)} {ds : List D} (h : K.lookup a = some ⟨.type "tuple", dd, .seq its n, sl⟩) (hs : its.size ≤ sizeLine) (t : KDaL K its.toList ds) : KDa K (.ref a) (.tuple ds)
inductive KDaL (K : PySem.W.Frag) : List Value → List D → Prop
  | nil : KDaL K [] []
  | cons {v : Value} {vs : List Value} {d : D} {ds : List D} (h : KDa K v d) (t : KDaL K vs ds) : KDaL K (v :: vs) (d :: ds)
end
mutual
theorem KDa.da {K : PySem.W.Frag} {M : Addr → Prop} {H : Hp} : ∀ {u : Value} {d : D}, KDa K u d → ∃ v, absV u = some v ∧ RelV v u ∧ Da K M H v d
  | _, _, .non => ⟨.non, rfl, rfl, .non⟩
  | _, _, .bl b => ⟨.bl b, rfl, rfl, .bl b⟩
  | _, _, .int i t => ⟨.int i, rfl, ⟨t, rfl⟩, .int i⟩
  | _, _, .str x t => ⟨.str x, rfl, ⟨t, rfl⟩, .str x⟩
  | _, _, .tup (a := a) h hs t => by
    obtain ⟨vs, r, q⟩ := KDaL.da (M := M) (H := H) t
    exact ⟨.ref a, rfl, rfl, .tup (.inr ⟨_, _, _, h, rfl, rfl, hs, r⟩) q⟩
theorem KDaL.da {K : PySem.W.Frag} {M : Addr → Prop} {H : Hp} : ∀ {us : List Value} {ds : List D}, KDaL K us ds → ∃ vs, Vals vs us ∧ DaL K M H vs ds
  | _, _, .nil => ⟨[], .nil, .nil⟩
  | _, _, .cons h t => by
    obtain ⟨v, _, r, q⟩ := KDa.da (M := M) (H := H) h
    obtain ⟨vs, rs, qs⟩ := KDaL.da (M := M) (H := H) t
    exact ⟨v :: vs, .cons r rs, .cons q qs⟩
end
theorem KDa.all {K : PySem.W.Frag} {u : Value} {d : D} (h : KDa K u d) : ∃ v, RelV v u ∧ ∀ M H, Da K M H v d := by
  obtain ⟨v, a, r, _⟩ := h.da (M := fun _ => False) (H := fun _ => none)
  refine ⟨v, r, fun M H => ?_⟩
  obtain ⟨v', a', _, q⟩ := h.da (M := M) (H := H)
  rw [a] at a'
  cases a'
  exact q
theorem GlD.mk' {G : Gm} {x : Str} {u : Value} {d : D} (h : G.mg x = some u) (q : KDa G.K u d) : GlD G x d := by
  obtain ⟨v, r, z⟩ := q.all
  exact ⟨u, v, h, r, z⟩
inductive KEs (K : PySem.W.Frag) : List DictEntry → KTab → Prop
  | nil : KEs K [] []
  | cons {h : Int} {x : Str} {t : Tok} {v : Value} {d : D} {es : List DictEntry} {tb : KTab} (hv : KDa K v d) (r : KEs K es tb) : KEs K (⟨h, .str x t, v⟩ :: es) ((x, d) :: tb)
theorem KEs.look {K : PySem.W.Frag} : ∀ {es : List DictEntry} {tb : KTab}, KEs K es tb → ∀ z : Str, (match List.lookup z tb with
    | some dd => ∃ e, es.find? (·.key.isStr z) = some e ∧ KDa K e.val dd
    | none => es.find? (·.key.isStr z) = none ∧ es.any (·.refKey) = false)
  | _, _, .nil, z => ⟨rfl, rfl⟩
  | _, _, .cons (h := h) (x := x) (t := t) (v := v) (d := d) (es := es) (tb := tb) hv r, z => by
    have ih := KEs.look r z
    have k1 : (⟨h, Value.str x t, v⟩ : DictEntry).key.isStr z = (x == z) := rfl
    have k2 : (⟨h, Value.str x t, v⟩ : DictEntry).refKey = false := rfl
    by_cases hz : z = x
    · subst hz
      have e1 : List.lookup z ((z, d) :: tb) = some d := by simp [List.lookup]
      rw [e1]
      exact ⟨⟨h, .str z t, v⟩, by rw [List.find?_cons, k1]; simp, hv⟩
    · have b1 : (z == x) = false := by simpa using hz
      have b2 : (x == z) = false := by simpa using Ne.symm hz
      have e1 : List.lookup z ((x, d) :: tb) = List.lookup z tb := by simp [List.lookup, b1]
      have e2 : (⟨h, Value.str x t, v⟩ :: es : List DictEntry).find? (·.key.isStr z) = es.find? (·.key.isStr z) := by rw [List.find?_cons, k1, b2]
      rw [e1, e2]
      cases q : List.lookup z tb with
      | some dd => rw [q] at ih; exact ih
      | none =>
        rw [q] at ih
        exact ⟨ih.1, by rw [List.any_cons, k2, ih.2]; rfl⟩
theorem GlK.mk' {G : Gm} {x : Str} {d : Addr} {es : Array DictEntry} {n : Nat} {tb : KTab} (h : G.mg x = some (.ref d)) (hl : G.K.lookup d = some ⟨.type "dict", none, .dict es n, #[]⟩) (lit : PySem.W.KeysLit G.w.params es.toList) (low : (d == sysModules) = false) (q : KEs G.K es.toList tb) : GlK G x tb := by
  refine ⟨d, es, n, h, ⟨hl, lit, low⟩, fun z => ?_⟩
  have q' := q.look z
  have un : PySem.W.nsIn G.K d z = (match es.toList.find? (·.key.isStr z) with
      | some e => some (some e.val)
      | none => if es.toList.any (·.refKey) then none else some none) := by
    unfold PySem.W.nsIn
    rw [hl]
    rfl
  cases hz : List.lookup z tb with
  | some dd =>
    rw [hz] at q'
    obtain ⟨e, e1, e2⟩ := q'
    obtain ⟨v, r, a⟩ := e2.all
    exact ⟨e.val, v, by rw [un, e1], r, a⟩
  | none =>
    rw [hz] at q'
    rw [un, q'.1, q'.2]
    rfl
theorem ExcF.mk' {G : Gm} {x : Str} {C : Addr} (h1 : G.mg x = some (.ref C)) (h2 : PySem.W.excIn G.K C [.type "ValueError", .type "Exception", .type "BaseException", .type "object"] "ValueError.__new__" = true) (h3 : PySem.W.keepIn G.K (.ref C) = true)
    (h4 : PySem.W.subIn G.K (.ref C) (.type "BaseException") = some true) (h5 : PySem.W.typeIn G.K (.ref C) = some (.type "type")) : ExcF G x := ⟨C, h1, h2, h3, h4, h5⟩
theorem HasF.mk' {G : Gm} {x : Str} {st : Stmt} {ps : List Str} {f : Addr} {oc kV doc pm cdv ct : Value} {od an : Option Addr} {osl : Array (Option Value)} (h1 : G.mg x = some (.ref f))
    (l : G.K.lookup f = some ⟨oc, od, .func (PySem.W.fnOf x x (defArgs st) (defBody st) (defScope st) .none kV doc pm an cdv ct), osl⟩) (c : PySem.W.codeIn G.K cdv x = true) (k : PySem.W.keepIn G.K (.ref f) = true)
    (b : ∀ (kV doc pm : Value) (an : Option Addr) (cdv ct : Value) (us : List Value), us.length = ps.length → bindArgs (PySem.W.fnOf x x (defArgs st) (defBody st) (defScope st) .none kV doc pm an cdv ct) ⟨us, []⟩ = pure (ps.zip us)) : HasF G x st ps := by
  have F := fun_mk (st := st) l c k
  exact ⟨f, _, h1, F, F.binds b⟩
end DL
namespace DL
open PySem PySem.Spec PyProof.Rows L2
def nxM (ev : Ev) : Ms := fun rs => some (.nx ev, rs)
def rtM (d : D) : Ms := fun rs => some (.ret d, rs)
def exM (x : Str) (i : Option Int) : Ms := fun rs => some (.exc x i, rs)
def exc {α : Type} (x : Str) (i : Option Int) : Mn α := fun rs => some (.exc x i, rs)
def stk {α : Type} : Mn α := fun _ => none
def stS : Ms := fun _ => none
def sq (m : Ms) (g : Ev → Ms) : Ms := fun rs => match m rs with
  | some (.nx ev', rs') => g ev' rs'
  | q => q
def fin (m : Ms) : Mn D := fun rs => match m rs with
  | some (.nx _, rs') => some (.val .none, rs')
  | some (.ret d, rs') => some (.val d, rs')
  | some (.exc x i, rs') => some (.exc x i, rs')
  | _ => none
section
variable {α β γ : Type} {ev : Ev} {f g : Ev → Ms}
@[simp] theorem bnd_pur (a : α) (k : α → Mn β) : bnd (pur a) k = k a := rfl
@[simp] theorem bnd_exc (x : Str) (i : Option Int) (k : α → Mn β) : bnd (exc x i) k = exc x i := rfl
@[simp] theorem bnd_stk (k : α → Mn β) : bnd stk k = stk := rfl
@[simp] theorem bnS_pur (a : α) (k : α → Ms) : bnS (pur a) k = k a := rfl
@[simp] theorem bnS_exc (x : Str) (i : Option Int) (k : α → Ms) : bnS (exc x i) k = exM x i := rfl
@[simp] theorem bnS_stk (k : α → Ms) : bnS stk k = stS := rfl
theorem bnd_bnd (m : Mn α) (k : α → Mn β) (h : β → Mn γ) : bnd (bnd m k) h = bnd m fun a => bnd (k a) h := by
  funext rs
  unfold bnd
  cases m rs with
  | none => rfl
  | some q =>
    obtain ⟨q1, q2⟩ := q
    cases q1 <;> rfl
theorem bnS_bnd (m : Mn α) (k : α → Mn β) (h : β → Ms) : bnS (bnd m k) h = bnS m fun a => bnS (k a) h := by
  funext rs
  unfold bnS bnd
  cases m rs with
  | none => rfl
  | some q =>
    obtain ⟨q1, q2⟩ := q
    cases q1 <;> rfl
@[simp] theorem lft_some' (a : α) : lft (some a) = pur a := rfl
@[simp] theorem lft_none : lft (none : Option α) = stk := rfl
@[simp] theorem bnd_ite (c : Prop) [Decidable c] (a b : Mn α) (k : α → Mn β) : bnd (if c then a else b) k = if c then bnd a k else bnd b k := by split <;> rfl
@[simp] theorem bnS_ite (c : Prop) [Decidable c] (a b : Mn α) (k : α → Ms) : bnS (if c then a else b) k = if c then bnS a k else bnS b k := by split <;> rfl
@[simp] theorem sq_nx (e : Ev) : sq (nxM e) g = g e := rfl
@[simp] theorem sq_rt (d : D) : sq (rtM d) g = rtM d := rfl
@[simp] theorem sq_ex (x : Str) (i : Option Int) : sq (exM x i) g = exM x i := rfl
@[simp] theorem sq_st : sq stS g = stS := rfl
@[simp] theorem sq_ite (c : Prop) [Decidable c] (a b : Ms) : sq (if c then a else b) g = if c then sq a g else sq b g := by split <;> rfl
theorem sq_bnS (m : Mn α) (k : α → Ms) : sq (bnS m k) g = bnS m fun a => sq (k a) g := by
  funext rs
  unfold sq bnS
  cases m rs with
  | none => rfl
  | some q =>
    obtain ⟨q1, q2⟩ := q
    cases q1 <;> rfl
@[simp] theorem fin_nx (e : Ev) : fin (nxM e) = pur .none := rfl
@[simp] theorem fin_rt (d : D) : fin (rtM d) = pur d := rfl
@[simp] theorem fin_ex (x : Str) (i : Option Int) : fin (exM x i) = exc x i := rfl
@[simp] theorem fin_st : fin stS = stk := rfl
@[simp] theorem fin_ite (c : Prop) [Decidable c] (a b : Ms) : fin (if c then a else b) = if c then fin a else fin b := by split <;> rfl
theorem fin_bnS (m : Mn α) (k : α → Ms) : fin (bnS m k) = bnd m fun a => fin (k a) := by
  funext rs
  unfold fin bnS bnd
  cases m rs with
  | none => rfl
  | some q =>
    obtain ⟨q1, q2⟩ := q
    cases q1 <;> rfl
theorem dFun_eq (n m : Nat) (f : Ev → Ms) (ss : List Slot) : dFun n m f ss = if ss.length = n then fin (f (ss ++ List.replicate (m - n) .hid)) else stk := by
  funext rs
  unfold dFun
  split
  · rfl
  · rfl
@[simp] theorem seqM_eq (f g : Ev → Ms) : seqM f g ev = sq (f ev) g := rfl
@[simp] theorem sNil_eq : sNil ev = nxM ev := rfl
@[simp] theorem pRet_eq (f : Ev → Mn D) : pRet f ev = bnS (f ev) rtM := rfl
@[simp] theorem sRet_eq (f : Ev → Mn D) : sRet f ev = bnS (f (lend ev)) rtM := rfl
@[simp] theorem sRetN_eq : sRetN ev = rtM .none := rfl
@[simp] theorem pSet_eq (i : Nat) (f : Ev → Mn D) : pSet i f ev = bnS (f ev) fun d => nxM (ev.set i (.dat d)) := rfl
@[simp] theorem pDrop_eq (f : Ev → Mn D) : pDrop f ev = bnS (f ev) fun _ => nxM ev := rfl
@[simp] theorem pIf_eq (t : Ev → Mn Bool) : pIf t f g ev = bnS (t ev) fun c => if c = true then f ev else g ev := rfl
@[simp] theorem sIf_eq (t : Ev → Mn Bool) : sIf t f g ev = bnS (t (lend ev)) fun c => if c = true then f ev else g ev := rfl
@[simp] theorem sRaise_eq (x : Str) : sRaise x ev = exM x none := rfl
@[simp] theorem pTgt_eq (t : Tgt) (f : Ev → Mn D) : pTgt t f ev = bnS (bnd (f ev) fun d => lft (t.of d)) fun ds => nxM (setE ev t.ix ds) := rfl
theorem pPar_eq (i j : Nat) (f : Ev → Mn (List Slot)) : pPar i j f ev = bnS (bnd (f ev) fun ss => lft (dats ss)) fun ds => match ds with
  | [d, e] => nxM ((ev.set i (.dat d)).set j (.dat e))
  | _ => stS := by
  unfold pPar
  congr 1
  funext ds
  rcases ds with _ | ⟨a, _ | ⟨b, _ | ⟨c, t⟩⟩⟩ <;> rfl
@[simp] theorem dVar_eq (i : Nat) : dVar i ev = lft (getE ev i) := rfl
@[simp] theorem dLit_eq (d : D) : dLit d ev = pur d := rfl
@[simp] theorem dNil_eq : dNil ev = pur [] := rfl
@[simp] theorem dCons_eq (f : Ev → Mn D) (g : Ev → Mn (List Slot)) : dCons f g ev = bnd (f ev) fun d => bnd (g ev) fun ss => pur (.dat d :: ss) := rfl
@[simp] theorem dRow_eq (i : Nat) (g : Ev → Mn (List Slot)) : dRow i g ev = if isRow ev[i]? = true then bnd (g ev) fun ss => pur (.row :: ss) else stk := rfl
@[simp] theorem dTup_eq (f : Ev → Mn (List Slot)) : dTup f ev = bnd (f ev) fun ss => lft (if ss.length ≤ sizeLine then (dats ss).map .tuple else none) := rfl
@[simp] theorem dLst_eq (f : Ev → Mn (List Slot)) : dLst f ev = bnd (f ev) fun ss => lft (if ss.length ≤ sizeLine then (dats ss).map .list else none) := rfl
@[simp] theorem dCl_eq (n : Nat) (φ : List Slot → Mn D) (f : Ev → Mn (List Slot)) : dCl n φ f ev = bnd (f ev) fun ss => if ss.length = n then φ ss else stk := rfl
@[simp] theorem dBin_eq (op : D → D → Option D) (fa fb : Ev → Mn D) : dBin op fa fb ev = bnd (fa ev) fun x => bnd (fb ev) fun y => lft (op x y) := rfl
@[simp] theorem dUn_eq (op : D → Option D) (fa : Ev → Mn D) : dUn op fa ev = bnd (fa ev) fun x => lft (op x) := rfl
@[simp] theorem dCmp_eq (op : D → D → Option Bool) (fa fb : Ev → Mn D) : dCmp op fa fb ev = bnd (fa ev) fun x => bnd (fb ev) fun y => lft (op x y) := rfl
@[simp] theorem dCmpE_eq (op : D → D → Option Bool) (fa fb : Ev → Mn D) : dCmpE op fa fb ev = bnd (fa ev) fun x => bnd (fb ev) fun y => lft ((op x y).map .bool) := rfl
@[simp] theorem dTru_eq (f : Ev → Mn D) : dTru f ev = bnd (f ev) fun x => lft (truD x) := rfl
@[simp] theorem dAnd_eq (fa fb : Ev → Mn Bool) : dAnd fa fb ev = bnd (fa ev) fun c => if c = true then fb ev else pur false := rfl
@[simp] theorem dOr_eq (fa fb : Ev → Mn Bool) : dOr fa fb ev = bnd (fa ev) fun c => if c = true then pur true else fb ev := rfl
@[simp] theorem dNot_eq (f : Ev → Mn Bool) : dNot f ev = bnd (f ev) fun c => pur (!c) := rfl
@[simp] theorem dAndV_eq (fa fb : Ev → Mn D) : dAndV fa fb ev = bnd (fa ev) fun x => bnd (lft (truD x)) fun c => if c = true then fb ev else pur x := rfl
@[simp] theorem dOrV_eq (fa fb : Ev → Mn D) : dOrV fa fb ev = bnd (fa ev) fun x => bnd (lft (truD x)) fun c => if c = true then pur x else fb ev := rfl
@[simp] theorem dNotV_eq (f : Ev → Mn D) : dNotV f ev = bnd (f ev) fun x => lft ((truD x).map fun c => .bool (!c)) := rfl
@[simp] theorem dIf_eq (t : Ev → Mn Bool) (fa fb : Ev → Mn D) : dIf t fa fb ev = bnd (t ev) fun c => if c = true then fa ev else fb ev := rfl
@[simp] theorem dChain_eq (p q : D → D → Option Bool) (fa fb fc : Ev → Mn D) : dChain p q fa fb fc ev = bnd (fa ev) fun x => bnd (fb ev) fun y => bnd (lft (p x y)) fun c => if c = true then bnd (fc ev) fun z => lft ((q y z).map .bool) else pur (.bool false) := rfl
@[simp] theorem dChainT_eq (p q : D → D → Option Bool) (fa fb fc : Ev → Mn D) : dChainT p q fa fb fc ev = bnd (fa ev) fun x => bnd (fb ev) fun y => bnd (lft (p x y)) fun c => if c = true then bnd (fc ev) fun z => lft (q y z) else pur false := rfl
@[simp] theorem dFn_eq (op : List D → Option D) (f : Ev → Mn (List Slot)) : dFn op f ev = bnd (f ev) fun ss => lft ((dats ss).bind op) := rfl
@[simp] theorem dIsi_eq (ts : List Ty) (f : Ev → Mn D) : dIsi ts f ev = bnd (f ev) fun d => pur (.bool (ts.any (isA d))) := rfl
@[simp] theorem dRng_eq (op : List D → Option (List D)) (f : Ev → Mn (List Slot)) : dRng op f ev = bnd (f ev) fun ss => lft ((dats ss).bind op) := rfl
@[simp] theorem dItm_eq (f : Ev → Mn D) : dItm f ev = bnd (f ev) fun x => lft (itmD x) := rfl
@[simp] theorem dKget_eq (t : KTab) (f : Ev → Mn D) : dKget t f ev = bnd (f ev) fun y => lft (kgetD t y) := rfl
@[simp] theorem dKin_eq (t : KTab) (f : Ev → Mn D) : dKin t f ev = bnd (f ev) fun y => lft (kinD t y) := rfl
@[simp] theorem dKnin_eq (t : KTab) (f : Ev → Mn D) : dKnin t f ev = bnd (f ev) fun y => lft ((kinD t y).map (!·)) := rfl
@[simp] theorem dYes_eq : dYes ev = pur true := rfl
@[simp] theorem dComp_eq (own : List Nat) (src : Ev → Mn (List D)) (t : Tgt) (c : Ev → Mn Bool) (e : Ev → Mn D) : dComp own src t c e ev = bnd (src ev) fun ds => bnd (compGo t c e (wipeE ev own) ds) fun out => lft (if out.length ≤ sizeLine then some (.list out) else none) := rfl
@[simp] theorem nox_pur (a : α) : nox (pur a) = pur a := rfl
@[simp] theorem nox_ite (c : Prop) [Decidable c] (a b : Mn α) : nox (if c then a else b) = if c then nox a else nox b := by split <;> rfl
@[simp] theorem nox_stk : nox (stk : Mn α) = stk := rfl
@[simp] theorem compGo_nil (t : Tgt) (c : Ev → Mn Bool) (e : Ev → Mn D) : compGo t c e ev [] = pur [] := rfl
@[simp] theorem compGo_cons (t : Tgt) (c : Ev → Mn Bool) (e : Ev → Mn D) (d : D) (ds : List D) : compGo t c e ev (d :: ds) = bnd (lft (t.of d)) fun es => bnd (nox (c (setE ev t.ix es))) fun b =>
    if b = true then bnd (nox (e (setE ev t.ix es))) fun x => bnd (compGo t c e ev ds) fun xs => pur (x :: xs) else compGo t c e ev ds := rfl
@[simp] theorem tgt_name (i : Nat) (d : D) : (Tgt.name i).of d = some [d] := rfl
@[simp] theorem tgt_tup (is : List Nat) (ds : List D) : (Tgt.tup is).of (.tuple ds) = if ds.length = is.length then some ds else none := rfl
@[simp] theorem tix_name (i : Nat) : (Tgt.name i).ix = [i] := rfl
@[simp] theorem tix_tup (is : List Nat) : (Tgt.tup is).ix = is := rfl
@[simp] theorem setE_nil (ds : List D) : setE ev [] ds = ev := rfl
@[simp] theorem setE_nil2 (is : List Nat) : setE ev is [] = ev := by cases is <;> rfl
@[simp] theorem setE_cons (i : Nat) (is : List Nat) (d : D) (ds : List D) : setE ev (i :: is) (d :: ds) = setE (ev.set i (.dat d)) is ds := rfl
@[simp] theorem wipe_nil : wipeE ev [] = ev := rfl
@[simp] theorem wipe_cons (v : Nat) (vs : List Nat) : wipeE ev (v :: vs) = (wipeE ev vs).set v .hid := rfl
@[simp] theorem getE_z (d : D) (r : Ev) : getE (.dat d :: r) 0 = some d := rfl
@[simp] theorem getE_s (s : Slot) (r : Ev) (i : Nat) : getE (s :: r) (i + 1) = getE r i := by unfold getE; rw [List.getElem?_cons_succ]
@[simp] theorem dats_nil : dats [] = some [] := rfl
@[simp] theorem dats_cons (d : D) (ss : List Slot) : dats (.dat d :: ss) = (dats ss).map (d :: ·) := rfl
@[simp] theorem isRow_row : isRow (some .row) = true := rfl
@[simp] theorem lend_nil : lend [] = [] := rfl
@[simp] theorem lend_cons (s : Slot) (r : Ev) : lend (s :: r) = lendS s :: lend r := rfl
@[simp] theorem lendS_d (d : D) : lendS (.dat d) = .dat d := rfl
@[simp] theorem lendS_h : lendS .hid = .hid := rfl
@[simp] theorem lendS_r : lendS .row = .row := rfl
@[simp] theorem lendS_o (ds : List D) : lendS (.own ds) = .dat (.list ds) := rfl
@[simp] theorem size_ok (n : Nat) (h : n ≤ 1000 := by decide) : n ≤ sizeLine := Nat.le_of_lt (small1000 h)
end
end DL
namespace DL
open PySem PySem.Spec PyProof.Rows L2
theorem ofString_inj {s t : String} (h : Str.ofString s = Str.ofString t) : s = t := by
  rw [Str.ofString_eq_toList, Str.ofString_eq_toList] at h
  have h1 : (s.toList.map Char.toNat).toArray = (t.toList.map Char.toNat).toArray := congrArg Str.cps h
  have h2 : s.toList.map Char.toNat = t.toList.map Char.toNat := by simpa using h1
  have inj : ∀ a b : Char, a.toNat = b.toNat → a = b := fun a b e => Char.ext (UInt32.toNat_inj.mp e)
  have go : ∀ {l m : List Char}, l.map Char.toNat = m.map Char.toNat → l = m := by
    intro l
    induction l with
    | nil => intro m h; cases m with
      | nil => rfl
      | cons b m => simp at h
    | cons a l ih => intro m h; cases m with
      | nil => simp at h
      | cons b m =>
        simp only [List.map_cons, List.cons.injEq] at h
        rw [inj a b h.1, ih h.2]
  exact String.ext (go h2)
@[simp] theorem beqS (s t : String) : (Str.ofString s == Str.ofString t) = (s == t) := by
  by_cases h : s = t
  · subst h; simp
  · have h2 : Str.ofString s ≠ Str.ofString t := fun e => h (ofString_inj e)
    have e1 : (s == t) = false := by simpa using h
    have e2 : (Str.ofString s == Str.ofString t) = false := by simpa using h2
    rw [e1, e2]
@[simp] theorem eqS (s t : String) : (Str.ofString s = Str.ofString t) = (s = t) := by
  apply propext
  exact ⟨ofString_inj, fun h => by rw [h]⟩
theorem strOk_of (s : String) : PyData.strOk (Str.ofString s) = true := by
  rw [Str.ofString_eq_toList]
  unfold PyData.strOk
  simp only [List.all_toArray, List.all_eq_true, List.mem_map, decide_eq_true_eq]
  rintro x ⟨c, _, rfl⟩
  have h : c.val.toNat.isValidChar := c.valid
  unfold Nat.isValidChar at h
  show c.val.toNat < 1114112
  omega
@[simp] theorem lay_str (s : String) : PyData.canLay0 (.str (Str.ofString s)) = true := by simp [PyData.canLay0, strOk_of]
theorem sh_none : SeqAt.shaped .none = true := by simp [SeqAt.shaped, PyData.canLay0, PyData.depth]
theorem sh_bool (b : Bool) : SeqAt.shaped (.bool b) = true := by simp [SeqAt.shaped, PyData.canLay0, PyData.depth]
theorem sh_int (i : Int) : SeqAt.shaped (.int i) = true := by simp [SeqAt.shaped, PyData.canLay0, PyData.depth]
@[simp] theorem eq_ss (s t : String) : eqD (.str (Str.ofString s)) (.str (Str.ofString t)) = some (s == t) := by simp [eqD, SeqAt.shaped, PyData.depth, PyData.eqv]
@[simp] theorem ne_ss (s t : String) : neD (.str (Str.ofString s)) (.str (Str.ofString t)) = some (!(s == t)) := by simp [neD, SeqAt.shaped, PyData.depth, PyData.eqv]
@[simp] theorem eq_ii (i j : Int) : eqD (.int i) (.int j) = some (i == j) := by simp [eqD, sh_int, PyData.eqv]
@[simp] theorem ne_ii (i j : Int) : neD (.int i) (.int j) = some (!(i == j)) := by simp [neD, sh_int, PyData.eqv]
@[simp] theorem eq_bb (i j : Bool) : eqD (.bool i) (.bool j) = some (i == j) := by simp [eqD, sh_bool, PyData.eqv]
@[simp] theorem ne_bb (i j : Bool) : neD (.bool i) (.bool j) = some (!(i == j)) := by simp [neD, sh_bool, PyData.eqv]
@[simp] theorem eq_nn : eqD .none .none = some true := by simp [eqD, sh_none, PyData.eqv]
@[simp] theorem eq_ni (j : Int) : eqD .none (.int j) = some false := by simp [eqD, sh_none, sh_int, PyData.eqv]
@[simp] theorem eq_in (j : Int) : eqD (.int j) .none = some false := by simp [eqD, sh_none, sh_int, PyData.eqv]
@[simp] theorem eq_nb (j : Bool) : eqD .none (.bool j) = some false := by simp [eqD, sh_none, sh_bool, PyData.eqv]
@[simp] theorem eq_bn (j : Bool) : eqD (.bool j) .none = some false := by simp [eqD, sh_none, sh_bool, PyData.eqv]
@[simp] theorem ev_ss (s t : String) : PyData.eqv (.str (Str.ofString s)) (.str (Str.ofString t)) = (s == t) := by simp [PyData.eqv]
@[simp] theorem ev_ii (i j : Int) : PyData.eqv (.int i) (.int j) = (i == j) := by simp [PyData.eqv]
@[simp] theorem ev_bb (i j : Bool) : PyData.eqv (.bool i) (.bool j) = (i == j) := by simp [PyData.eqv]
@[simp] theorem ev_nn : PyData.eqv .none .none = true := by simp [PyData.eqv]
@[simp] theorem ev_ns (t : Str) : PyData.eqv .none (.str t) = false := by simp [PyData.eqv]
@[simp] theorem ev_sn (t : Str) : PyData.eqv (.str t) .none = false := by simp [PyData.eqv]
@[simp] theorem ev_ni (t : Int) : PyData.eqv .none (.int t) = false := by simp [PyData.eqv]
@[simp] theorem ev_in (t : Int) : PyData.eqv (.int t) .none = false := by simp [PyData.eqv]
@[simp] theorem ev_is (i : Int) (t : Str) : PyData.eqv (.int i) (.str t) = false := by simp [PyData.eqv]
@[simp] theorem ev_si (i : Int) (t : Str) : PyData.eqv (.str t) (.int i) = false := by simp [PyData.eqv]
@[simp] theorem ev_nb (t : Bool) : PyData.eqv .none (.bool t) = false := by simp [PyData.eqv]
@[simp] theorem ev_bn (t : Bool) : PyData.eqv (.bool t) .none = false := by simp [PyData.eqv]
theorem in_tup (x : D) (ds : List D) (hx : inD.flatD x = true) (hd : ds.all inD.flatD = true) : inD x (.tuple ds) = some (ds.any fun z => PyData.eqv z x) := by simp [inD, hx, hd]
theorem atI_z (a : D) (l : List D) : atI (a :: l) 0 = some a := atI_nat (j := 0) rfl
theorem atI_1 (a b : D) (l : List D) : atI (a :: b :: l) 1 = some b := atI_nat (j := 1) rfl
theorem atI_2 (a b c : D) (l : List D) : atI (a :: b :: c :: l) 2 = some c := atI_nat (j := 2) rfl
theorem atI_3 (a b c d : D) (l : List D) : atI (a :: b :: c :: d :: l) 3 = some d := atI_nat (j := 3) rfl
theorem atI_4 (a b c d e : D) (l : List D) : atI (a :: b :: c :: d :: e :: l) 4 = some e := atI_nat (j := 4) rfl
@[simp] theorem ix_t0 (a : D) (l : List D) : ixD (.tuple (a :: l)) (.int 0) = some a := atI_z a l
@[simp] theorem ix_t1 (a b : D) (l : List D) : ixD (.tuple (a :: b :: l)) (.int 1) = some b := atI_1 a b l
@[simp] theorem ix_t2 (a b c : D) (l : List D) : ixD (.tuple (a :: b :: c :: l)) (.int 2) = some c := atI_2 a b c l
@[simp] theorem ix_t3 (a b c d : D) (l : List D) : ixD (.tuple (a :: b :: c :: d :: l)) (.int 3) = some d := atI_3 a b c d l
@[simp] theorem ix_t4 (a b c d e : D) (l : List D) : ixD (.tuple (a :: b :: c :: d :: e :: l)) (.int 4) = some e := atI_4 a b c d e l
@[simp] theorem ix_l0 (a : D) (l : List D) : ixD (.list (a :: l)) (.int 0) = some a := atI_z a l
@[simp] theorem ix_l1 (a b : D) (l : List D) : ixD (.list (a :: b :: l)) (.int 1) = some b := atI_1 a b l
@[simp] theorem ix_l2 (a b c : D) (l : List D) : ixD (.list (a :: b :: c :: l)) (.int 2) = some c := atI_2 a b c l
@[simp] theorem ix_l3 (a b c d : D) (l : List D) : ixD (.list (a :: b :: c :: d :: l)) (.int 3) = some d := atI_3 a b c d l
theorem cut_from (ds : List D) (k : Nat) : cutL ds (some (k : Int)) none = ds.drop k := by
  unfold cutL
  rw [HT.sIx_nat, HT.sIx_none]
  by_cases h : k ≤ ds.length
  · rw [Nat.min_eq_left h]
    apply List.take_of_length_le
    rw [List.length_drop]; exact Nat.le_refl _
  · have h' : ds.length ≤ k := by omega
    rw [Nat.min_eq_right h', List.drop_length, List.drop_eq_nil_of_le h']
    simp
@[simp] theorem sl_t1 (ds : List D) : slLo (.tuple ds) (.int 1) = some (.tuple (ds.drop 1)) := by
  show some (PyData.tuple (cutL ds (some ((1 : Nat) : Int)) none)) = _
  rw [cut_from]
@[simp] theorem sl_l1 (ds : List D) : slLo (.list ds) (.int 1) = some (.list (ds.drop 1)) := by
  show some (PyData.list (cutL ds (some ((1 : Nat) : Int)) none)) = _
  rw [cut_from]
end DL
namespace DL
open PySem PySem.Spec PyProof.Rows L2
def bkM (ev : Ev) : Ms := fun rs => some (.bk ev, rs)
def ctM (ev : Ev) : Ms := fun rs => some (.ct ev, rs)
/-- a turn's end, then the loop goes on -/
def wl (m : Ms) (k : Ev → Ms) : Ms := fun rs => match m rs with
  | some (.nx ev', rs') => k ev' rs'
  | some (.ct ev', rs') => k ev' rs'
  | some (.bk ev', rs') => some (.nx ev', rs')
  | some (.ret d, rs') => some (.ret d, rs')
  | some (.exc x i, rs') => some (.exc x i, rs')
  | none => none
def dynM (m n : Mn D) : Mn D := fun rs => match m rs with
  | some q => some q
  | none => match n rs with
    | some (.val d, rs') => if noL d = true then some (.val d, rs') else none
    | _ => none
section
variable {α β γ : Type} {ev : Ev} {f g : Ev → Ms} {k : Ev → Ms}
@[simp] theorem sq_bk (e : Ev) : sq (bkM e) g = bkM e := rfl
@[simp] theorem sq_ct (e : Ev) : sq (ctM e) g = ctM e := rfl
@[simp] theorem sBk_eq : sBk ev = bkM ev := rfl
@[simp] theorem sCt_eq : sCt ev = ctM ev := rfl
@[simp] theorem wl_nx (e : Ev) : wl (nxM e) k = k e := rfl
@[simp] theorem wl_ct (e : Ev) : wl (ctM e) k = k e := rfl
@[simp] theorem wl_bk (e : Ev) : wl (bkM e) k = nxM e := rfl
@[simp] theorem wl_rt (d : D) : wl (rtM d) k = rtM d := rfl
@[simp] theorem wl_ex (x : Str) (i : Option Int) : wl (exM x i) k = exM x i := rfl
@[simp] theorem wl_st : wl stS k = stS := rfl
@[simp] theorem wl_ite (c : Prop) [Decidable c] (a b : Ms) : wl (if c then a else b) k = if c then wl a k else wl b k := by split <;> rfl
theorem whileN_s (t : Ev → Mn Bool) (b : Ev → Ms) (n : Nat) : whileN t b (n + 1) ev = bnS (t (lend ev)) fun c => if c = true then wl (b ev) (whileN t b n) else nxM ev := rfl
@[simp] theorem forGo_nil (t : Tgt) (b : Ev → Ms) : forGo t b [] ev = nxM ev := rfl
@[simp] theorem forGo_cons (t : Tgt) (b : Ev → Ms) (d : D) (ds : List D) : forGo t b (d :: ds) ev = bnS (lft (t.of d)) fun es => wl (b (setE ev t.ix es)) (forGo t b ds) := by
  funext rs
  show (match t.of d with | none => none | some es => _) = _
  cases t.of d <;> rfl
theorem sFor_f (src : Ev → Mn (List D)) (t : Tgt) (b : Ev → Ms) : sFor false src t b ev = bnS (src ev) fun ds => forGo t b ds ev := rfl
@[simp] theorem dyn_eq (h : Ev → Mn D) : dyn h ev = dynM (h ev) (h (lend ev)) := rfl
@[simp] theorem dynM_pur (d : D) (n : Mn D) : dynM (pur d) n = pur d := rfl
@[simp] theorem dynM_stk (d : D) : dynM stk (pur d) = if noL d = true then pur d else stk := by
  funext rs
  show (if noL d = true then _ else _) = _
  split <;> rfl
@[simp] theorem sSet_eq (i : Nat) (h : Ev → Mn D) : sSet i h ev = bnS (dyn h ev) fun d => nxM (ev.set i (.dat d)) := rfl
@[simp] theorem sTgt_eq (t : Tgt) (h : Ev → Mn D) : sTgt t h ev = bnS (bnd (dyn h ev) fun d => lft (t.of d)) fun ds => nxM (setE ev t.ix ds) := rfl
@[simp] theorem sOwn_eq (i : Nat) (h : Ev → Mn (List Slot)) : sOwn i h ev = bnS (bnd (h ev) fun ss => lft (if ss.length ≤ sizeLine then dats ss else none)) fun ds => nxM (ev.set i (.own ds)) := rfl
@[simp] theorem sDrop_eq (h : Ev → Mn D) : sDrop h ev = bnS (h (lend ev)) fun _ => nxM ev := rfl
@[simp] theorem sApp_eq (i : Nat) (h : Ev → Mn D) : sApp i h ev = bnS (bnd (lft (getO ev i)) fun ds => bnd (dyn h ev) fun d => lft (if ds.length < sizeLine then some (ds ++ [d]) else none)) fun es => nxM (ev.set i (.own es)) := rfl
@[simp] theorem sExt_eq (i : Nat) (h : Ev → Mn D) : sExt i h ev = bnS (bnd (lft (getO ev i)) fun ds => bnd (h ev) fun d => lft ((lstD d).bind fun es => if ds.length + es.length ≤ sizeLine then some (ds ++ es) else none)) fun es => nxM (ev.set i (.own es)) := rfl
@[simp] theorem sPop_eq (j i : Nat) : sPop j i ev = bnS (lft ((getO ev i).bind fun ds => (ds[ds.length - 1]?).map fun d => (ds.dropLast, d))) fun q => nxM ((ev.set i (.own q.1)).set j (.dat q.2)) := rfl
def augD (op : Int → Int → Int) (a b : D) : Option D := match a, b with
  | .int x, .int y => some (PyData.int (op x y))
  | _, _ => none
@[simp] theorem sAug_eq (i : Nat) (h : Ev → Mn D) (op : Int → Int → Int) : sAug i h op ev = bnS (bnd (lft (getE ev i)) fun a => bnd (h (lend ev)) fun b => lft (augD op a b)) fun d => nxM (ev.set i (.dat d)) := rfl
@[simp] theorem augD_i (op : Int → Int → Int) (x y : Int) : augD op (.int x) (.int y) = some (.int (op x y)) := rfl
@[simp] theorem getO_z (ds : List D) (r : Ev) : getO (.own ds :: r) 0 = some ds := rfl
@[simp] theorem getO_s (s : Slot) (r : Ev) (i : Nat) : getO (s :: r) (i + 1) = getO r i := by unfold getO; rw [List.getElem?_cons_succ]
@[simp] theorem getE_own (ds : List D) (r : Ev) : getE (.own ds :: r) 0 = none := rfl
@[simp] theorem lstD_l (ds : List D) : lstD (.list ds) = some ds := rfl
end
end DL
namespace DL
open PySem PySem.Spec PyProof.Rows L2
def tk (m : Int) (rs : RS) : Int × RS :=
  if 0 < rs.c then (rs.c % m, { rs with c := rs.c / m })
  else if rs.ns.length ≤ rs.a then
    let b := (rs.b * 48271 + 11) % 2147483647
    ((b / 7) % m, { rs with a := rs.a + 1, b := b })
  else
    let cell := rs.ns.getD rs.a 0
    let b := (rs.b * 48271 + cell + 11) % 2147483647
    (cell % m, { rs with a := rs.a + 1, b := b, c := if 10 ^ 18 ≤ cell then cell / m else rs.c })
def tkF : List Slot → Mn D := fun ss rs => match ss with
  | [.row, .dat (.int m)] => if 0 < m ∧ m < 1073741824 then some (.val (.int (tk m rs).1), (tk m rs).2) else none
  | _ => none
theorem tk_range (m : Int) (rs : RS) (h : 0 < m) : 0 ≤ (tk m rs).1 ∧ (tk m rs).1 < m := by
  unfold tk
  split
  · exact ⟨Int.emod_nonneg _ (by omega), Int.emod_lt_of_pos _ h⟩
  · split
    · exact ⟨Int.emod_nonneg _ (by omega), Int.emod_lt_of_pos _ h⟩
    · exact ⟨Int.emod_nonneg _ (by omega), Int.emod_lt_of_pos _ h⟩
/-- the row's heap, written -/
def rowV (r : Rw) (rs : RS) : List V := [.ref r.sc, .int (rs.a : Int), .int rs.b, .int rs.c]
theorem row_put {K : PySem.W.Frag} {M : Addr → Prop} {H H' : Hp} {r : Rw} {rs rs' : RS} (mr : M r.a) (h : RowAt K M H r rs) (hs : Stp r H H') (e : H' r.a = some (.lst (rowV r rs'))) (en : rs'.ns = rs.ns) : RowAt K M H' r rs' :=
  ⟨⟨e, en.trans h.1.2⟩, sqlm_kp h.2 (hs.kp mr)⟩
theorem stp_upd {r : Rw} {H : Hp} {o : HO} : Stp r H (upd H r.a o) := fun b u n e => by rw [upd_ne n]; exact e
end DL
namespace DL
open PySem PySem.Spec PyProof.Rows L2
section
variable {G : Gm} {k : Nat} {sc : Sx} {N : List Str} {X : Cx}
def nnD : D → Bool
  | .none => false
  | _ => true
theorem nnD_ne {d : D} (h : nnD d = true) : d ≠ .none := fun e => by subst e; cases h
def okLt (x y : D) : Bool := (PySem.W.alike x y && nnD x && decide (min x.depth y.depth ≤ 60)) && (x.plain && y.plain)
theorem okLt_pl {x y : D} (h : okLt x y = true) : x.plain = true ∧ y.plain = true := by
  unfold okLt at h
  exact Bool.and_eq_true_iff.mp (Bool.and_eq_true_iff.mp h).2
theorem okLt_un {x y : D} (h : okLt x y = true) : PySem.W.alike x y = true ∧ x ≠ .none ∧ min x.depth y.depth ≤ 60 := by
  unfold okLt at h
  simp only [Bool.and_eq_true, decide_eq_true_eq] at h
  exact ⟨h.1.1.1, nnD_ne h.1.1.2, h.1.2⟩
def rLtX (K : PySem.W.Frag) (f : D → D → Bool) : R2 := fun x y H Q => ∃ dx dy, Dp K H x dx ∧ Dp K H y dy ∧ okLt dx dy = true ∧ Q (.bl (f dx dy)) H
theorem op_gtX (hu : X.A.units + 65 < cLine) : OpR X (compareOp .Gt) (rLtX X.K fun x y => PySem.W.dataLt y x) := by
  intro pins s σ H x y v u Q I rx ry h
  obtain ⟨dx, dy, hx, hy, ok, q⟩ := h
  obtain ⟨ha, hn, hd⟩ := okLt_un ok
  obtain ⟨as, r1⟩ := Dp.reads I dx x v hx rx
  obtain ⟨bs, r2⟩ := Dp.reads I dy y u hy ry
  exact PySem.W.gt_data r1 r2 ha hn (by omega) ⟨.bl _, H, I, rfl, q⟩
def gtxD (x y : D) : Option Bool := if okLt x y = true then some (PySem.W.dataLt y x) else none
theorem c_gtx (hk : 1 ≤ k := by decide) : CmpR G k sc N .Gt gtxD := fun X g => ⟨_, op_gtX (units65 g hk), fun M H x y dx dy b Q ml hx hy e q => by
  unfold gtxD at e
  split at e
  · rename_i ok; cases e; rw [g.hK]; exact ⟨dx, dy, hx.dp (okLt_pl ok).1, hy.dp (okLt_pl ok).2, ok, q⟩
  · cases e⟩
def isTup1 : D → Bool
  | .tuple (_ :: _) => true
  | _ => false
def noTN : D → Bool
  | .none => false
  | .tuple _ => false
  | _ => true
def okSort (ds : List D) : Bool := ((ds.all fun d => ds.all fun e => PySem.W.alike d e) && (ds.all isTup1 || ds.all noTN) && ds.all fun d => decide (d.depth ≤ 60)) && PyData.plainAll ds
theorem okSort_pl {ds : List D} (h : okSort ds = true) : PyData.plainAll ds = true := by
  unfold okSort at h
  exact (Bool.and_eq_true_iff.mp h).2
theorem okSort_un {ds : List D} (h : okSort ds = true) : PySem.W.AllAlike ds ∧ PySem.W.Sortable ds ∧ ∀ d ∈ ds, d.depth ≤ 60 := by
  unfold okSort at h
  simp only [Bool.and_eq_true, Bool.or_eq_true, List.all_eq_true, decide_eq_true_eq] at h
  obtain ⟨⟨⟨h1, h2⟩, h3⟩, _⟩ := h
  refine ⟨fun d hd e he => h1 d hd e he, ?_, h3⟩
  rcases h2 with h2 | h2
  · refine .inl fun d hd => ?_
    have q := h2 d hd
    cases d with
    | tuple xs => cases xs with
      | nil => cases q
      | cons x r => exact ⟨x, r, rfl⟩
    | _ => cases q
  · refine .inr fun d hd => ?_
    have q := h2 d hd
    cases d with
    | none => cases q
    | tuple xs => cases q
    | _ => exact ⟨(fun z => by cases z), (fun xs z => by cases z)⟩
def srtD (ds : List D) : List D := ds.mergeSort (PySem.W.dataLe false fun d : D => d)
def sortedD : List D → Option D
  | [.list ds] => if okSort ds = true then some (.list (srtD ds)) else none
  | _ => none
def rSortX (K : PySem.W.Frag) : List V → Hp → VK → Prop := fun vs H Q => ∃ (a : Addr) (xs : List V) (ds : List D), vs = [.ref a] ∧ SqL K H a xs ∧ DpAll K H xs ds ∧ okSort ds = true ∧
  ∀ p, H p = none → Q (.ref p) (upd H p (.lst (((xs.zip ds).mergeSort (PySem.W.dataLe false Prod.snd)).map Prod.fst)))
theorem each_rel : ∀ {xs : List V} {us : List Value} {ds : List D}, Vals xs us → xs.length = ds.length → PySem.W.EachIs (fun v (b : V × D) => RelV b.1 v) us (xs.zip ds)
  | _, _, ds, .nil, _ => by simp; exact .nil
  | _, _, [], .cons h t, e => by simp at e
  | _, _, d :: ds, .cons h t, e => by
    simp only [List.zip_cons_cons]
    exact .cons h (each_rel t (by simpa using e))
theorem each_reads {pins : List (Addr × Obj)} {σ : L2.St} {H : Hp} {s : Shared} (I : Inv X pins σ H s) : ∀ {xs : List V} {us : List Value} {ds : List D}, Vals xs us → DpAll X.K H xs ds → PySem.W.EachIs (fun v (b : V × D) => ∃ as, Reads s.heap v b.2 as) us (xs.zip ds)
  | _, _, _, .nil, .nil => by simp; exact .nil
  | _, _, _, .cons h t, .cons h2 t2 => by
    simp only [List.zip_cons_cons]
    exact .cons (Dp.reads I _ _ _ h2 h) (each_reads I t t2)
theorem vals_each : ∀ {us : List Value} {L : List (V × D)}, PySem.W.EachIs (fun v (b : V × D) => RelV b.1 v) us L → Vals (L.map Prod.fst) us
  | _, _, .nil => .nil
  | _, _, .cons h t => .cons h (vals_each t)
theorem dpall_len {K : PySem.W.Frag} {H : Hp} : ∀ {xs : List V} {ds : List D}, DpAll K H xs ds → xs.length = ds.length
  | _, _, .nil => rfl
  | _, _, .cons _ t => congrArg (· + 1) (dpall_len t)
theorem zip_snd : ∀ {xs : List V} {ds : List D}, xs.length = ds.length → (xs.zip ds).map Prod.snd = ds
  | [], [], _ => rfl
  | x :: xs, d :: ds, e => by
    simp only [List.zip_cons_cons, List.map_cons]
    rw [zip_snd (by simpa using e)]
  | [], _ :: _, e => by simp at e
  | _ :: _, [], e => by simp at e
theorem cr_sortedX (hu : X.A.units + 65 < cLine) : CallR X (.builtin "sorted") (rSortX X.K) := by
  intro pins s σ H vs us Q I r h
  obtain ⟨a, xs, ds, rfl, hs, hd, ok, q⟩ := h
  obtain ⟨its, rv, hl, hz⟩ := I.list hs
  rw [Vals.ref1 r]
  obtain ⟨hal, hk, hdp⟩ := okSort_un ok
  have hlen := dpall_len hd
  have hsnd := zip_snd hlen
  have hzl : (xs.zip ds).length = xs.length := by rw [List.length_zip, hlen, Nat.min_self]
  refine PySem.W.sorted_data (enc := Prod.snd) hl.isList (each_rel rv hlen) (each_reads I rv hd) (by rw [hsnd]; exact hal) (by rw [hsnd]; exact hk) (by rw [hzl]; exact hz) (fun b hb => ?_) fun out ho eo => ?_
  · have m : b.2 ∈ ds := by rw [← hsnd]; exact List.mem_map.mpr ⟨b, hb, rfl⟩
    have := hdp _ m
    omega
  · obtain ⟨ep, he'⟩ := PyProof.Rows.sortedAll_at s.heap its out.toArray
    have hlen2 : (((xs.zip ds).mergeSort (PySem.W.dataLe false Prod.snd)).map Prod.fst).length ≤ sizeLine := by
      rw [List.length_map, List.length_mergeSort, hzl]; exact hz
    exact ⟨.ref _, upd H (s.heap.objs.size + 1) (.lst (((xs.zip ds).mergeSort (PySem.W.dataLe false Prod.snd)).map Prod.fst)), I.laid (t' := s.toks) (fun _ _ => PyProof.Rows.sortedAll_old) (Nat.le_succ _) ⟨hlen2, out, ep, vals_each eo, he'⟩, rfl, q _ (I.hok.fresh (Nat.le_succ _))⟩
theorem dal_pairs {K : PySem.W.Frag} {M : Addr → Prop} {H : Hp} : ∀ {L : List (V × D)}, (∀ p ∈ L, Da K M H p.1 p.2) → DaL K M H (L.map Prod.fst) (L.map Prod.snd)
  | [], _ => .nil
  | p :: L, h => .cons (h p (List.mem_cons_self)) (dal_pairs fun q hq => h q (List.mem_cons_of_mem _ hq))
theorem pairs_dal {K : PySem.W.Frag} {M : Addr → Prop} {H : Hp} : ∀ {xs : List V} {ds : List D}, DaL K M H xs ds → ∀ p ∈ xs.zip ds, Da K M H p.1 p.2
  | _, _, .nil, p, h => by simp at h
  | _, _, .cons h t, p, hp => by
    simp only [List.zip_cons_cons] at hp
    cases hp with
    | head => exact h
    | tail _ z => exact pairs_dal t p z
theorem e_sorted (hk : 1 ≤ k) {e : Expr} {f : Ev → Mn (List Slot)} {p pos : Pos} (ha : SA G k sc N [e] f) (hm : Mg0 G "sorted") (hg : glB sc "sorted" = true := by rfl) (he : ∀ env, starEach [e] env = (false, eval e env) :: starEach [] env := by intro _; rfl) :
    SE G k sc N (.Call (.Name "sorted" p) [e] [] pos) (dFn sortedD f) :=
  e_blt ha (fun X g => cr_sortedX (units65 g hk)) (fun X M H vs ds d Q g ml h e hq => by
    unfold sortedD at e
    split at e
    · rename_i ds'
      obtain ⟨v, rfl, h1⟩ := one_da h
      split at e
      · rename_i ok
        cases e
        cases h1 with
        | lst h2 n t =>
          rename_i xs
          refine ⟨_, _, _, rfl, .of h2, by rw [g.hK]; exact t.dp (okSort_pl ok), ok, fun p hp => hq _ _ (same_upd hp) (Da.newL ml hp ?_)⟩
          have e1 : srtD ds' = ((List.zip xs ds').mergeSort (PySem.W.dataLe false Prod.snd)).map Prod.snd := by
            unfold srtD
            have q := PySem.W.sort_maps (r := PySem.W.dataLe false Prod.snd) (s := PySem.W.dataLe false fun d : D => d) (Prod.snd : V × D → D) (l := xs.zip ds') (fun a _ b _ => rfl)
            rw [q, zip_snd t.length]
          rw [e1]
          exact dal_pairs fun q hq => pairs_dal t q (List.mem_mergeSort.mp hq)
      · cases e
    · cases e) (by decide +kernel) hm hg (by decide) (by decide) he (fun _ => rfl)
end
end DL
namespace DL
open PySem PySem.Spec PyProof.Rows L2
section
variable {G : Gm} {k : Nat} {sc : Sx} {N : List Str} {X : Cx}
def isLst : D → Bool
  | .list _ => true
  | _ => false
def dMtL (op : D → D → Option D) (fo fe : Ev → Mn D) (ev : Ev) : Mn D := bnd (fo ev) fun x => if isLst x = true then bnd (fe ev) fun y => lft (op x y) else fun _ => none
@[simp] theorem dMtL_eq (op : D → D → Option D) (fo fe : Ev → Mn D) (ev : Ev) : dMtL op fo fe ev = bnd (fo ev) fun x => if isLst x = true then bnd (fe ev) fun y => lft (op x y) else stk := rfl
def repL (n : Nat) (xs : List D) : List D := (List.replicate n xs).flatten
def mulxD : D → D → Option D
  | .int i, .int j => if (-(2 ^ 64) < i ∧ i < 2 ^ 64) ∨ (-(2 ^ 64) < j ∧ j < 2 ^ 64) then some (.int (i * j)) else none
  | .list xs, .int n => if -(2 ^ 63) ≤ n ∧ n < 2 ^ 63 ∧ xs.length * n.toNat ≤ sizeLine then some (.list (repL n.toNat xs)) else none
  | .tuple xs, .int n => if xs ≠ [] ∧ 2 ≤ n ∧ n ≤ 1000 ∧ xs.length ≤ 1000 then some (.tuple (repL n.toNat xs)) else none
  | _, _ => none
theorem DaL.rep {K : PySem.W.Frag} {M : Addr → Prop} {H : Hp} {vs : List V} {ds : List D} (h : DaL K M H vs ds) : ∀ n : Nat, DaL K M H (List.replicate n vs).flatten (repL n ds)
  | 0 => .nil
  | n + 1 => by
    unfold repL
    rw [List.replicate_succ, List.replicate_succ, List.flatten_cons, List.flatten_cons]
    exact h.append (h.rep n)
theorem e_mulx {a b : Expr} {fa fb : Ev → Mn D} {p : Pos} (ha : SE G k sc N a fa) (hb : SE G k sc N b fb) : SE G k sc N (.BinOp a .Mult b p) (dBin mulxD fa fb) := by
  refine e_bin ha hb (fun X ta tb g h1 h2 => pe_op (op_mul.or (op_rep.or op_repT)) h1 h2) fun X M H x y dx dy d Q g ml hx hy e hq => ?_
  cases hx with
  | int i =>
    cases hy with
    | int j =>
      have e : (if (-(2 ^ 64) < i ∧ i < 2 ^ 64) ∨ (-(2 ^ 64) < j ∧ j < 2 ^ 64) then some (PyData.int (i * j)) else none) = some d := e
      split at e
      · rename_i hl; cases e; exact .inl ⟨i, j, rfl, rfl, hl, hq _ H (.refl _) (.int _)⟩
      · cases e
    | _ => cases e
  | lst h n t =>
    cases hy with
    | int j =>
      rename_i a xs ds
      have e : (if -(2 ^ 63) ≤ j ∧ j < 2 ^ 63 ∧ ds.length * j.toNat ≤ sizeLine then some (PyData.list (repL j.toNat ds)) else none) = some d := e
      split at e
      · rename_i hl
        cases e
        exact .inr (.inl ⟨_, _, _, rfl, rfl, h, hl.1, hl.2.1, by rw [t.length]; exact hl.2.2, fun p hp => hq _ _ (same_upd hp) (Da.newL ml hp (t.rep _))⟩)
      · cases e
    | _ => cases e
  | tup h t =>
    cases hy with
    | int j =>
      rename_i a xs ds
      have e : (if ds ≠ [] ∧ 2 ≤ j ∧ j ≤ 1000 ∧ ds.length ≤ 1000 then some (PyData.tuple (repL j.toNat ds)) else none) = some d := e
      split at e
      · rename_i hl
        cases e
        refine .inr (.inr ⟨_, _, _, rfl, rfl, by rw [g.hK]; exact h, fun z => ?_, hl.2.1, hl.2.2.1, by rw [t.length]; exact hl.2.2.2, fun p hp => hq _ _ (same_upd hp) (Da.newT ml hp (t.rep _))⟩)
        subst z
        cases t
        exact hl.1 rfl
      · cases e
    | _ => cases e
  | _ => cases hy <;> cases e
section
end
end
end DL
namespace DL
open PySem PySem.Spec PyProof.Rows L2
section
variable {K : PySem.W.Frag} {M : Addr → Prop} {H H' : Hp} {r : Rw} {rs : RS}
def lookL : List (Str × D) → Str → Option D
  | [], _ => none
  | (x, d) :: ps, z => if x = z then some d else lookL ps z
end
def dDisp : List (Str × (Ev → Mn D)) → Ev → Mn (List (Str × D))
  | [], _ => pur []
  | (x, f) :: r, ev => bnd (f ev) fun d => bnd (dDisp r ev) fun ps => pur ((x, d) :: ps)
def dDGet (kfs : List (Str × (Ev → Mn D))) (fw : Ev → Mn D) (ev : Ev) : Mn D := bnd (dDisp kfs ev) fun ps => bnd (fw ev) fun w => lft (match w with
  | .str z => lookL ps z
  | _ => none)
@[simp] theorem dDisp_nil (ev : Ev) : dDisp [] ev = pur [] := rfl
@[simp] theorem dDisp_cons (x : Str) (f : Ev → Mn D) (r : List (Str × (Ev → Mn D))) (ev : Ev) : dDisp ((x, f) :: r) ev = bnd (f ev) fun d => bnd (dDisp r ev) fun ps => pur ((x, d) :: ps) := rfl
section
variable {G : Gm} {k : Nat} {sc : Sx} {N : List Str}
inductive SPr (G : Gm) (k : Nat) (sc : Sx) (N : List Str) : List (Option Expr) → List Expr → List (Str × (Ev → Mn D)) → Prop
  | nil : SPr G k sc N [] [] []
  | cons {x : Str} {j : Nat} {p : Pos} {ks : List (Option Expr)} {v : Expr} {vs : List Expr} {f : Ev → Mn D} {r : List (Str × (Ev → Mn D))} : SE G k sc N v f → SPr G k sc N ks vs r → SPr G k sc N (some (.Constant (.str x) j p) :: ks) (v :: vs) ((x, f) :: r)
theorem SPr.len : ∀ {ks : List (Option Expr)} {vs : List Expr} {r : List (Str × (Ev → Mn D))}, SPr G k sc N ks vs r → ks.length = r.length ∧ vs.length = r.length ∧ ks.all (·.isSome) = true
  | _, _, _, .nil => ⟨rfl, rfl, rfl⟩
  | _, _, _, .cons h t => ⟨congrArg (· + 1) t.len.1, congrArg (· + 1) t.len.2.1, by simp [t.len.2.2]⟩
end
end DL
namespace DL
open PySem PySem.Spec PyProof.Rows L2
section
variable {G : Gm} {k : Nat} {sc : Sx} {N : List Str}
def dStuck (_ : Ev) : Mn D := fun _ => none
def sStuck (_ : Ev) : Ms := fun _ => none
theorem s_stuck {st : Stmt} : SS G k sc N st sStuck := fun X W g tk po => ⟨fun pins s σ H D I h => by
  obtain ⟨M, r, Pr, ev, rs, oa, R, o, rs', e, w⟩ := h
  cases e⟩
@[simp] theorem dStuck_eq (ev : Ev) : dStuck ev = stk := rfl
@[simp] theorem sStuck_eq (ev : Ev) : sStuck ev = stS := rfl
end
end DL
namespace DL
open PySem PySem.Spec PyProof.Rows L2
section
variable {G : Gm} {k : Nat} {sc : Sx} {N : List Str}
def nestD (n : Nat) : D → Option (List D)
  | .tuple [d, .tuple es] => if es.length = n then some (d :: es) else none
  | _ => none
def pTgN (i : Nat) (js : List Nat) (f : Ev → Mn D) (ev : Ev) : Ms := bnS (bnd (f ev) fun d => lft (nestD js.length d)) fun ds rs => some (.nx (setE ev (i :: js) ds), rs)
@[simp] theorem pTgN_eq (i : Nat) (js : List Nat) (f : Ev → Mn D) (ev : Ev) : pTgN i js f ev = bnS (bnd (f ev) fun d => lft (nestD js.length d)) fun ds => nxM (setE ev (i :: js) ds) := rfl
end
end DL
namespace DL
open PySem PySem.Spec PyProof.Rows L2
abbrev NoX : Value → Shared → Prop := fun _ _ => False
abbrev Go := (Shared → Prop) → Shared → Prop
def goIn (p : Program) (w : World) (A : Around) (elt : Expr) (env : Env) (acc : Value) : Go := fun Rr s =>
  wpAny (model p w) A (eval elt env) (fun x s1 => wpAny (model p w) A (call (.builtin "list.append") [acc, x]) (fun _ s2 => Rr s2) NoX s1) NoX s
section
variable {p : Program} {w : World} {A : Around} {elt t0 i0 : Expr} {ifs0 : List Expr} {k : Nat} {env : Env} {acc : Value} {gs : List Comprehension} {scope : Scope} {pos : Pos}
def turnIn (t0 i0 : Expr) (ifs0 : List Expr) (elt e : Expr) (k : Nat) (it acc : Value) (env : Env) : Sem PySem.Fin := do
  standAt i0.pos
  match ← pyNext it with
  | none => pure (.done .next)
  | some v =>
    letOwnedTupleGo t0 it v
    assign t0 env v
    let mut ok := true
    for c in ifs0 do
      if ok then ok ← isTrue c env (eval c env)
    if ok then
      (do let _ ← call (.builtin "list.append") [acc, ← eval elt env])
    again (.compLoop e k it acc env)
theorem nox_mono {α : Type} {t : Sem α} {Q Q' : α → Shared → Prop} {E : Value → Shared → Prop} {s : Shared} (h : wpAny (model p w) A t Q NoX s) (hQ : ∀ a s, Q a s → Q' a s) : wpAny (model p w) A t Q' E s := wpAny_mono h hQ fun _ _ z => z.elim
end
section
variable {p : Program} {w : World} {A : Around} {elt : Expr} {scope : Scope} {pos : Pos} {env : Env} {acc : Value} {g0 g1 g2 : Comprehension} {t i i' : Expr} {ifs ifs' : List Expr} {t' : Expr} {gs : List Comprehension}
theorem in1 (it : Value) : compTurn (.ListComp elt [g0, ⟨t, i, ifs, 0⟩] scope pos) 1 it acc env = turnIn t i ifs elt (.ListComp elt [g0, ⟨t, i, ifs, 0⟩] scope pos) 1 it acc env := by rfl
end
end DL
namespace DL
open PySem PySem.Spec PyProof.Rows L2
def gnGo (rest : Ev → Mn (List D)) (t : Tgt) (cond : Ev → Mn Bool) (ev : Ev) : List D → Mn (List D)
  | [] => pur []
  | d :: ds => bnd (lft (t.of d)) fun es => bnd (nox (cond (setE ev t.ix es))) fun c =>
      bnd (if c = true then nox (rest (setE ev t.ix es)) else pur []) fun xs => bnd (nox (gnGo rest t cond ev ds)) fun ys => pur (xs ++ ys)
def dLast (elt : Ev → Mn D) (ev : Ev) : Mn (List D) := bnd (nox (elt ev)) fun x => pur [x]
def dMid (src : Ev → Mn (List D)) (vs : List Nat) (rest : Ev → Mn (List D)) (t : Tgt) (cond : Ev → Mn Bool) (ev : Ev) : Mn (List D) := bnd (nox (src ev)) fun ds => gnGo rest t cond (wipeE ev vs) ds
def dCompN (own : List Nat) (src : Ev → Mn (List D)) (rest : Ev → Mn (List D)) (t : Tgt) (cond : Ev → Mn Bool) (ev : Ev) : Mn D :=
  bnd (src ev) fun ds => bnd (gnGo rest t cond (wipeE ev own) ds) fun out => lft (if out.length ≤ sizeLine then some (.list out) else none)
section
variable {G : Gm} {k : Nat} {sc : Sx} {N : List Str}
/-- within the loops: the list that grows stands at P -/
structure Lp (Y : Cx) (G : Gm) (M : Addr → Prop) (r : Rw) (P : Addr) (pins : List (Addr × Obj)) (σ : L2.St) (ev : Ev) (H : Hp) (rs : RS) (got : List D) (s : Shared) : Prop where
  inv : Inv Y pins σ H s
  rel : RelE G.K (And1 M P) r σ H ev rs
  acc : ∃ xs, H P = some (.lst xs) ∧ DaL G.K (And1 M P) H xs got
/-- the rest of a turn keeps to what it gives -/
def Body (Y : Cx) (G : Gm) (M : Addr → Prop) (r : Rw) (P : Addr) (den : Ev → Mn (List D)) (vs : List Nat) (go : Go) : Prop :=
  ∀ pins σ ev H rs got s xs rs' (Rr : Shared → Prop), Lp Y G M r P pins σ ev H rs got s → den ev rs = some (.val xs, rs') → got.length + xs.length ≤ sizeLine →
    (∀ s' H', Lp Y G M r P pins (wipe σ vs) (wipeE ev vs) H' rs' (got ++ xs) s' → Same' r P H H' → Rr s') → go Rr s
variable {Y : Cx} {M : Addr → Prop} {r : Rw} {P : Addr}
theorem body_in {elt : Expr} {fe : Ev → Mn D} (he : PE Y elt (tE G.K G.mg W0 fe)) (hx : Y.xe = NoX) (hP : P ≠ r.a) (mr : M r.a) : Body Y G M r P (dLast fe) [] (goIn Y.prog Y.w Y.A elt Y.env (.ref P)) := by
  intro pins σ ev H rs got s xs rs' Rr L h hz hR
  obtain ⟨y, rs1, e1, h⟩ := bnd_nox h
  cases h
  obtain ⟨acc, hA, hD⟩ := L.acc
  have z := he.run pins s σ H (fun v H5 => Da G.K (And1 M P) H5 v y ∧ Stp r H H5 ∧ RowAt G.K (And1 M P) H5 r rs') L.inv ⟨_, r, ev, rs, L.rel, .val y, rs', e1, fun H5 s5 w5 v dv => ⟨dv, s5, w5⟩⟩
  rw [hx] at z
  refine nox_mono z fun u s1 q => ?_
  obtain ⟨v, H5, I5, rv, dv, s5, w5⟩ := q
  have m1 : And1 M P r.a := .inl mr
  have ml5 : Ml (And1 M P) H5 := L.rel.ml.stp m1 s5 w5
  have hA5 : H5 P = some (.lst acc) := s5 _ _ hP hA
  have acc5 : DaL G.K (And1 M P) H5 acc got := hD.kp L.rel.ml (s5.kp m1)
  have la : acc.length < sizeLine := by
    rw [acc5.length]
    simp only [List.length_cons, List.length_nil] at hz
    omega
  refine app_ok (X := Y) I5 hA5 la rv fun s6 I6 => ?_
  have k6 : Kp (And1 M P) H5 (upd H5 P (.lst (acc ++ [v]))) := fun b o n e => by rw [upd_ne fun q => n (.inr q)]; exact e
  have t6 : ∀ b o, b ≠ P → H5 b = some o → (upd H5 P (.lst (acc ++ [v]))) b = some o := fun b o n e => by rw [upd_ne n]; exact e
  have row6 : RowAt G.K (And1 M P) (upd H5 P (.lst (acc ++ [v]))) r rs' := by
    obtain ⟨⟨e1, e1'⟩, e2⟩ := w5
    exact ⟨⟨t6 _ _ hP.symm e1, e1'⟩, sqlm_kp e2 k6⟩
  refine hR s6 _ ⟨I6, ?_, acc ++ [v], upd_same, ?_⟩ fun b o n m e => t6 b o n (s5 b o m e)
  · have R5 : RelE G.K (And1 M P) r σ H5 ev rs' := L.rel.stp s5 w5
    refine ⟨R5.mr, fun b q => ?_, row6, fun j t e => (R5.slots j t e).kp ml5 k6, R5.len⟩
    by_cases hb : b = P
    · exact ⟨.lst _, by rw [hb]; exact upd_same, trivial⟩
    · obtain ⟨ys, e, mu⟩ := R5.ml b q
      exact ⟨ys, t6 _ _ hb e, mu⟩
  · exact DaL.kp ml5 k6 (acc5.append (.cons dv .nil))
end
end DL
namespace DL
open PySem PySem.Spec PyProof.Rows L2
section
end
end DL
namespace DL
open PySem PySem.Spec PyProof.Rows L2
section
end
end DL
noncomputable section
namespace HM
open PySem PySem.W PySem.Calls PyProof.Rows HandSHeadRun
abbrev Fr : Type := Ctx × (Result → Sem Fin) × Pos
def mk (den : Code → Sem Fin) (stg : Setting) : Nat → List Fr → Ctx → Sem Fin → SharedT → Pos → Option (Flow × SharedT × Pos)
  | 0, _, _, _, _, _ => none
  | n + 1, fs, Γ, t, s, p => match t with
    | .pure (.done f) => (match fs with
      | [] => some (f, s, p)
      | g :: r => mk den stg n r g.1 (g.2.1 (.ok f)) s g.2.2)
    | .pure (.again c) => (match fs with
      | [] => none
      | _ :: _ => (match c.quiet with
        | true => mk den stg n fs (Γ.goto c) (den c) s p
        | false => none))
    | .raise e => (match fs with
      | [] => none
      | g :: r => mk den stg n r g.1 (g.2.1 (.error e)) s g.2.2)
    | .rule _ k => mk den stg n fs Γ (k ()) s p
    | .at p' k => mk den stg n fs Γ (k ()) s p'
    | .load a _ k => (match getT s a with
      | some o => mk den stg n fs Γ (k o) s p
      | none => none)
    | .update a _ f k => (match Nat.blt a s.n with
      | true => (match s.tree.get a with
        | some o => (match alive o with
          | some _ => mk den stg n fs Γ (k ()) ⟨s.tree.set a f, s.n, s.life, s.gens, s.drawn, s.toks, s.os⟩ p
          | none => none)
        | none => none)
      | false => none)
    | .loadIfAlive a k => mk den stg n fs Γ (k (getT s a)) s p
    | .point _ k => mk den stg n fs Γ (k ()) s p
    | .alloc o k => (match ((s.tree.ins s.n o).get s.n).isSome with
      | true => frS ⟨s.tree.ins s.n o, s.n + 1, s.life, s.gens, s.drawn, s.toks, s.os⟩ fun s' => mk den stg n fs Γ (k s.n) s' p
      | false => none)
    | .fresh k => frS ⟨s.tree, s.n, s.life, s.gens, s.drawn, s.toks + 1, s.os⟩ fun s' => mk den stg n fs Γ (k s.toks) s' p
    | .ask k => mk den stg n fs Γ (k stg) s p
    | .call c h _ _ k => mk den stg n ((Γ, k, p) :: fs) (Γ.enter c h p) (den c) s p
    | .handled own k => mk den stg n fs Γ (k (match own with
      | true => Γ.own
      | false => Γ.handled)) s p
    | .stack k => mk den stg n fs Γ (k ((Γ.code, p) :: Γ.below)) s p
    | .thread k => mk den stg n fs Γ (k 0) s p
    | _ => none
section
variable {M : Model} {Q : Fin → Pos → Shared → Prop} {E : Value → Pos → Shared → Prop}
/-- what the tree and the calls on the list come to -/
def Wf (M : Model) (Q : Fin → Pos → Shared → Prop) (E : Value → Pos → Shared → Prop) : List Fr → Ctx → Sem Fin → Pos → Shared → Prop
  | [], Γ, t, p, s => Sem.wp M Γ t Q E p s
  | g :: r, Γ, t, p, s => Sem.wp M Γ t (Sem.finPost M Γ fun x s' => Wf M Q E r g.1 (g.2.1 x) g.2.2 s') (fun e _ s' => Wf M Q E r g.1 (g.2.1 (.error e)) g.2.2 s') p s
theorem Wf.lift {fs : List Fr} {Γ : Ctx} {t t' : Sem Fin} {p p' : Pos} {s s' : Shared}
    (h : ∀ (Q : Fin → Pos → Shared → Prop) (E : Value → Pos → Shared → Prop), Sem.wp M Γ t' Q E p' s' → Sem.wp M Γ t Q E p s) (x : Wf M Q E fs Γ t' p' s') : Wf M Q E fs Γ t p s := by
  cases fs with
  | nil => exact h _ _ x
  | cons g r => exact h _ _ x
theorem Wf.call {fs : List Fr} {Γ : Ctx} {c : Code} {hd : Option Value} {gd : Bool} {l : List Value} {k : Result → Sem Fin} {p : Pos} {s : Shared}
    (x : Wf M Q E ((Γ, k, p) :: fs) (Γ.enter c hd p) (M.den c) p s) : Wf M Q E fs Γ (.call c hd gd l k) p s := by
  cases fs with
  | nil =>
    show Sem.wp M Γ (.call c hd gd l k) Q E p s
    rw [Sem.wp_call, wpCode_iff_wp]
    exact x
  | cons g r =>
    show Sem.wp M Γ (.call c hd gd l k) _ _ p s
    rw [Sem.wp_call, wpCode_iff_wp]
    exact x
theorem mk_ok : ∀ {n : Nat} {fs : List Fr} {Γ : Ctx} {t : Sem Fin} {s s' : SharedT} {p p' : Pos} {f : Flow},
    mk M.den ⟨M.prog, M.w.params⟩ n fs Γ t s p = some (f, s', p') → Q (.done f) p' s'.abs → Wf M Q E fs Γ t p s.abs
  | 0, _, _, _, _, _, _, _, _, h, _ => by cases h
  | n + 1, fs, Γ, t, s, s', p, p', f, h, q => by
    unfold mk at h
    cases t with
    | pure x =>
      cases x with
      | done g =>
        cases fs with
        | nil =>
          cases h
          show Sem.wp M Γ (.pure (.done f)) Q E p s.abs
          rw [Sem.wp_pure]
          exact q
        | cons y r =>
          show Sem.wp M Γ (Sem.pure (PySem.Fin.done g)) _ _ p s.abs
          rw [Sem.wp_pure]
          exact mk_ok (n := n) h q
      | again c =>
        cases fs with
        | nil => cases h
        | cons y r =>
          cases hc : c.quiet with
          | false => simp only [hc] at h; cases h
          | true =>
            simp only [hc] at h
            show Sem.wp M Γ (Sem.pure (PySem.Fin.again c)) _ _ p s.abs
            rw [Sem.wp_pure]
            refine ⟨hc, ?_⟩
            rw [wpCode_iff_wp]
            exact mk_ok (n := n) (fs := y :: r) (Γ := Γ.goto c) h q
    | raise e =>
      cases fs with
      | nil => cases h
      | cons y r =>
        show Sem.wp M Γ (Sem.raise e : Sem PySem.Fin) _ _ p s.abs
        rw [Sem.wp_raise]
        exact mk_ok (n := n) h q
    | rule tag k => exact Wf.lift (fun Q E z => by rw [Sem.wp_rule]; exact z) (mk_ok (n := n) h q)
    | «at» p1 k => exact Wf.lift (fun Q E z => by rw [Sem.wp_at]; exact z) (mk_ok (n := n) h q)
    | load a part k =>
      cases g : getT s a with
      | none => simp only [g] at h; cases h
      | some o =>
        simp only [g] at h
        exact Wf.lift (fun Q E z => by rw [Sem.wp_load]; exact ⟨o, (getT_eq s a).symm.trans g, z⟩) (mk_ok (n := n) h q)
    | update a part u k =>
      cases b : Nat.blt a s.n with
      | false => simp only [b] at h; cases h
      | true =>
        have lt : a < s.n := Nat.le_of_ble_eq_true b
        cases g : s.tree.get a with
        | none => simp only [b, g] at h; cases h
        | some o =>
          cases al : alive o with
          | none => simp only [b, g, al] at h; cases h
          | some o' =>
            simp only [b, g, al] at h
            refine Wf.lift (fun Q E z => ?_) (mk_ok (n := n) h q)
            rw [Sem.wp_update]
            refine ⟨by rw [show s.abs.heap.get? a = alive o from abs_get lt g, al]; rfl, ?_⟩
            have e : (SharedT.abs ⟨s.tree.set a u, s.n, s.life, s.gens, s.drawn, s.toks, s.os⟩) = { s.abs with heap := s.abs.heap.update a u } := by
              show (⟨absHeap (s.tree.set a u) s.n s.life, _, _, _, _⟩ : Shared) = _
              rw [absHeap_set g]
              rfl
            rw [e] at z
            exact z
    | loadIfAlive a k => exact Wf.lift (fun Q E z => by rw [Sem.wp_loadIfAlive, ← getT_eq s a]; exact z) (mk_ok (n := n) h q)
    | point l k => exact Wf.lift (fun Q E z => by rw [Sem.wp_point]; exact z) (mk_ok (n := n) h q)
    | alloc o k =>
      cases g : ((s.tree.ins s.n o).get s.n).isSome with
      | false => simp only [g] at h; cases h
      | true =>
        simp only [g, frS_eq] at h
        refine Wf.lift (fun Q E z => ?_) (mk_ok (n := n) h q)
        rw [Sem.wp_alloc]
        have e : (SharedT.abs ⟨s.tree.ins s.n o, s.n + 1, s.life, s.gens, s.drawn, s.toks, s.os⟩) = { s.abs with heap := s.abs.heap.push o } := by
          show (⟨absHeap (s.tree.ins s.n o) (s.n + 1) s.life, _, _, _, _⟩ : Shared) = _
          rw [absHeap_ins g]
          rfl
        have e2 : s.abs.heap.objs.size = s.n := absHeap_size s.tree s.n s.life
        rw [e] at z
        rw [e2]
        exact z
    | fresh k =>
      simp only [frS_eq] at h
      exact Wf.lift (fun Q E z => by rw [Sem.wp_fresh]; exact z) (mk_ok (n := n) h q)
    | ask k => exact Wf.lift (fun Q E z => by rw [Sem.wp_ask]; exact z) (mk_ok (n := n) h q)
    | call c hd gd l k => exact Wf.call (mk_ok (n := n) h q)
    | handled own k =>
      refine Wf.lift (fun Q E z => ?_) (mk_ok (n := n) h q)
      rw [Sem.wp_handled]
      cases own with
      | true => exact z
      | false => exact z
    | stack k => exact Wf.lift (fun Q E z => by rw [Sem.wp_stack]; exact z) (mk_ok (n := n) h q)
    | thread k => exact Wf.lift (fun Q E z => by rw [Sem.wp_thread]; exact z) (mk_ok (n := n) h q)
    | _ => cases h
/-- a tree of values, of flows as a tree of ends -/
def asV (t : Sem Value) : Sem Fin := t.bind fun v => .pure (.done (.ret v))
def asF (t : Sem Flow) : Sem Fin := t.bind fun f => .pure (.done f)
theorem run_F {n : Nat} {Γ : Ctx} {t : Sem Flow} {s s' : SharedT} {p p' : Pos} {f : Flow} {Q : Flow → Pos → Shared → Prop} (h : mk M.den ⟨M.prog, M.w.params⟩ n [] Γ (asF t) s p = some (f, s', p')) (q : Q f p' s'.abs) : Sem.wp M Γ t Q E p s.abs := by
  have z : Sem.wp M Γ (asF t) (fun x p' s' => ∃ f, x = .done f ∧ Q f p' s') E p s.abs := mk_ok (fs := []) h ⟨f, rfl, q⟩
  unfold asF at z
  rw [show t.bind (fun f => (.pure (.done f) : Sem Fin)) = (t >>= fun f => (.pure (.done f) : Sem Fin)) from rfl, Sem.wp_bind'] at z
  refine Sem.wp_mono M Γ t (fun a p2 s2 x => ?_) (fun _ _ _ x => x) p s.abs z
  rw [Sem.wp_pure] at x
  obtain ⟨g, e, x⟩ := x
  cases e
  exact x
theorem run_V {n : Nat} {Γ : Ctx} {t : Sem Value} {s s' : SharedT} {p p' : Pos} {v : Value} {Q : Value → Pos → Shared → Prop} (h : mk M.den ⟨M.prog, M.w.params⟩ n [] Γ (asV t) s p = some (.ret v, s', p')) (q : Q v p' s'.abs) : Sem.wp M Γ t Q E p s.abs := by
  have z : Sem.wp M Γ (asV t) (fun x p' s' => ∃ v, x = .done (.ret v) ∧ Q v p' s') E p s.abs := mk_ok (fs := []) h ⟨v, rfl, q⟩
  unfold asV at z
  rw [show t.bind (fun f => (.pure (.done (.ret f)) : Sem Fin)) = (t >>= fun f => (.pure (.done (.ret f)) : Sem Fin)) from rfl, Sem.wp_bind'] at z
  refine Sem.wp_mono M Γ t (fun a p2 s2 x => ?_) (fun _ _ _ x => x) p s.abs z
  rw [Sem.wp_pure] at x
  obtain ⟨g, e, x⟩ := x
  cases e
  exact x
end
end HM
noncomputable section
namespace HM
open PySem PySem.W PySem.Calls PyProof.Rows HandSHeadRun
abbrev Γ0 : Ctx := ⟨.builtin "claim.caller" {}, none, none, [], none⟩
theorem forget_nil {a b : Shared} (h : a.forget = b.forget) (g : b.gens = #[]) : a = b := by
  obtain ⟨h1, g1, d1, t1, o1⟩ := a
  obtain ⟨h2, g2, d2, t2, o2⟩ := b
  have g' : g2 = #[] := g
  subst g'
  simp only [Shared.forget, Shared.mk.injEq] at h
  obtain ⟨e1, e2, e3, e4, e5⟩ := h
  have e : g1 = #[] := by
    have z : (g1.map GenState.forget).size = 0 := by rw [e2]; simp
    rw [Array.size_map] at z
    exact Array.eq_empty_of_size_eq_zero z
  subst e1 e3 e4 e5 e
  rfl
/-- a tree of the caller's that comes to an end: the thread is run so far -/
theorem ran_of {p : Program} {w : World} {t : Sem PySem.Fin} {s0 : Shared} {G : Shared → Prop} (hz : s0.asleep) (hg : ∀ s', G s' → s'.gens = #[])
    (h : Sem.wp (model p w) Γ0 t (fun a _ s' => (∃ f, a = .done f) ∧ G s') (fun _ _ _ => False) default s0) :
    ∃ s1, G s1 ∧ ∃ n t1, schedN (denote table) p w n (.single s0 ⟨t, .builtin "claim.caller" {}, default, []⟩) = .running (.single s1 t1) ∧ through t1 = true := by
  have h1 := wp_reaches_first (M := model p w) (c := .builtin "claim.caller" {}) (t := t) (p := default) (s := s0) h
  obtain ⟨n, s', σ, p', leaf, hr, hσ, hl, _⟩ := h1
  have h2 : Sem.wp (model p w) Γ0 t (Sem.finPost (model p w) Γ0 fun r s' => True ∧ leftWithCleanup s'.gens = false) (fun e _ s' => True ∧ leftWithCleanup s'.gens = false) default s0 := by
    refine Sem.wp_mono _ _ t (fun a p2 s2 x => ?_) (fun _ _ _ x => x.elim) default s0 h
    obtain ⟨⟨f, rfl⟩, x⟩ := x
    exact ⟨trivial, by rw [hg _ x]; first | decide | simp [leftWithCleanup]⟩
  obtain ⟨m, r, s2, hm, _⟩ := (wp_iff_halts (M := model p w) t (fun _ _ => True) default s0).mp h2
  obtain ⟨s3, hn, hf, hc⟩ := runNI_real (denote table) p w hm (outcomeOf_ends r)
  have quiet : ∀ k s4, PySem.runN (denote table) p w k s0 ⟨t, .builtin "claim.caller" {}, default, []⟩ ≠ .halted (.unsupported "lifetime:generator-with-cleanup-left-suspended") s4 := by
    intro k s4 hk
    have a := runN_mono (denote table) p w m k _ _ _ _ hn
    have b := runN_mono (denote table) p w k m _ _ _ _ hk
    rw [Nat.add_comm, b] at a
    injection a with a1 _
    have o := outcomeOf_ends r
    rw [← a1] at o
    cases o
  have sq := schedN_eq_runN (denote table) p w s0 ⟨t, .builtin "claim.caller" {}, default, []⟩ hz ⟨hc, quiet⟩ n
  rcases hl with ⟨a, rfl, ⟨f, rfl⟩, x⟩ | ⟨e, _, x⟩
  · obtain rfl := forget_nil hσ (hg _ x)
    exact ⟨σ, x, n, _, sq.trans (congrArg Run.lift hr), rfl⟩
  · exact x.elim
/-- what the top's end must show -/
structure Shows (p q : Program) (loose : List Str) (Xt : Shared → Bool) (H : Hook) (w : World) (os : OsState) (s : Shared) : Prop where
  looks : looksF p (boot_heap w.params) s = true
  seen : openSeen q loose (importedModules p.main.body) Xt true s = openGood q loose
  obs : H.obs s = H.val w
  life : s.heap.life = (boot_heap w.params).life
  os : s.os = os
  kept : ∀ b o, b ≠ mainNs → b ≠ cStatics → bootAnn w ≠ some (.ref b) → (boot_heap w.params).get? b = some o → s.heap.get? b = some o
abbrev bootS (w : World) (os : OsState) : Shared := ⟨boot_heap w.params, #[], boot_drawn, boot_toks, os⟩
theorem behind_of {p q : Program} {loose : List Str} {Xt : Shared → Bool} {XP : (Str → Option Value) → Heap → Prop} {H : Hook} {w : World} (e : opening p = plainProg p.main.scope.names) (f : ∀ s, fenceModules? p s = some s)
    (hX : ∀ s, Xt s = true → XP (s.heap.nsMap mainGlobals) s.heap) (hch : chainsOk q = true)
    (run : ∀ os, Sem.wp (model p w) Γ0 (topStub p).cur (fun a _ s' => (∃ f, a = .done f) ∧ Shows p q loose Xt H w os s') (fun _ _ _ => False) default (bootS w os)) :
    (∃ s, AfterRun (opening p) w s) ∧ ∀ s, AfterRun (opening p) w s → ∃ s0, fenceModules? p s = some s0 ∧ s0.gens = #[] ∧ ∃ s1, TopRan p w s0 s1 ∧ s1.asleep ∧ s1.gens = #[] ∧ s1.heap.isNs mainGlobals = true ∧
      Ground q loose [] XP w s1 (s1.heap.nsMap mainGlobals) (s1.heap.nsMap builtinsNs) s1.heap ∧ H.says w s1.heap := by
  obtain ⟨⟨h, gs, d, k, os⟩, a, a'⟩ := Option.map_eq_some_iff.mp (boot_open (N := 600) e rfl f w)
  obtain ⟨rfl, rfl, rfl, rfl⟩ : h = boot_heap w.params ∧ gs = Array.mk [] ∧ d = boot_drawn ∧ k = boot_toks := by simpa using a'
  rw [← table_eq_tree] at a
  obtain ⟨s, b, c⟩ := Option.bind_eq_some_iff.mp a
  have A := AfterImport.of_importEnds b
  refine ⟨⟨s, A⟩, fun s' hs' => ?_⟩
  obtain rfl : s' = s := AfterImport.unique hs' A
  have z : (bootS w os).asleep := Shared.asleep_of_life (fence_lifeW c) A.life
  have gn : ∀ s1, Shows p q loose Xt H w os s1 → s1.gens = #[] := fun s1 x => by
    obtain ⟨_, g, _⟩ := ground_of_open (w := w) hX hch x.seen
    exact Array.eq_empty_of_size_eq_zero (beq_iff_eq.mp g)
  obtain ⟨s1, x, ran⟩ := ran_of (t := (topStub p).cur) z gn (run os)
  obtain ⟨G, _, g1, g2, g3, g4, g5⟩ := ground_of_open (w := w) hX hch x.seen
  obtain ⟨l1, l4⟩ := Bool.and_eq_true_iff.mp (show (staticsOk (importedModules p.main.body) (boot_heap w.params) s1.heap && namesBound p s1.heap && gensDone s1 && laidKept (boot_heap w.params) s1.heap) = true from x.looks)
  obtain ⟨l1, l3⟩ := Bool.and_eq_true_iff.mp l1
  obtain ⟨l1, l2⟩ := Bool.and_eq_true_iff.mp l1
  refine ⟨bootS w os, c, rfl, s1, ⟨ran, x.life, Shared.rest_eq x.os, fun b o hb hn => ?_, g2, statics_of_ok l1, g3, g4, g5, gens_of_done l3, names_of_bound l2, laid_of_kept l4⟩, Shared.asleep_of_life x.life z, gn _ x, g1, G, H.of w s1 x.obs⟩
  exact x.kept b o (fun y => hn (.inl y)) (fun y => hn (.inr (.inl y))) (fun y => hn (.inr (.inr ((Pin.globalOf_eq (boot_ns w.params) _).trans y)))) hb
/-- the law, over what stands behind the top -/
theorem holds_behind {r : OpenRow} {q : Program} {loose : List Str} {H : Hook} {d : DefRec} {kwd : List (Str × PySem.Expr)}
    (beh : ∀ w, (∃ s, AfterRun (opening r.prog) w s) ∧ ∀ s, AfterRun (opening r.prog) w s → ∃ s0, fenceModules? r.prog s = some s0 ∧ s0.gens = #[] ∧ ∃ s1, TopRan r.prog w s0 s1 ∧ s1.asleep ∧ s1.gens = #[] ∧
      s1.heap.isNs mainGlobals = true ∧ Ground q loose [] (fun m h => XL q [] m h ∧ RecFacts r.toRowW.records h) w s1 (s1.heap.nsMap mainGlobals) (s1.heap.nsMap builtinsNs) s1.heap ∧ H.says w s1.heap)
    (hdef : defOf q r.name = some (d, kwd)) (hp : r.prog.theDef r.name = some (d.params, d.body, d.scope)) (hk : kwWritten? d.params.kwonlyargs d.params.kw_defaults = some kwd)
    (hwr : (!r.writes || r.records.isEmpty) = true) (k1 : r.wellSaid = true) (ok : (chainsOk q && opensWell r.prog && (frees r.toRowW && r.within.isEmpty)) = true) (hb : r.prog.bare) (hw : r.toRowW.promised)
    (call : WalkO q loose (XL q []) H.says r.toRowW d kwd fun f vs => PySem.call f vs) : r.Holds := by
  refine ⟨k1, hw, ?_⟩
  obtain ⟨ok1, within⟩ := Bool.and_eq_true_iff.mp ok
  obtain ⟨_, well⟩ := Bool.and_eq_true_iff.mp ok1
  obtain ⟨within, noin⟩ := Bool.and_eq_true_iff.mp within
  obtain ⟨hsame, hu, ha, hap, hm⟩ := frees_parts within
  refine ⟨⟨hb, well, by show r.makers.map _ = []; rw [hm]; rfl⟩, hw.witness, fun w => ⟨(beh w).1, fun s' hs' => ?_⟩⟩
  obtain ⟨s0, hf, g0, s, T, z, gens, ns, G1, Y⟩ := (beh w).2 s' hs'
  have RF := G1.X.2
  have GX : Ground q loose [] (XL q []) w s (s.heap.nsMap mainGlobals) (s.heap.nsMap builtinsNs) s.heap := ⟨G1.T, G1.B, G1.D, G1.TE, G1.TD, G1.W, G1.X.1, G1.cls, G1.has, G1.apart, G1.once, G1.K⟩
  have GR : Ground q loose r.toRowW.records (XL q []) w s _ _ s.heap := RF.ground GX
  refine ⟨s0, hf, g0, s, T, fun n hn => ?_, RF.1, RF.2.1, ?_⟩
  · have en : n = r.name := by
      split at hn <;> simp_all
    subst en
    exact pinned_of_view ns GX hdef hp hk
  refine ClaimW.callFrom_of_specG (c := r.toRowW.claim) (tree := fun vs => do match ← nsGet mainNs r.name with
      | some f => do ret (← PySem.call f vs)
      | none => unsupported "claim.caller:no-such-global") z gens fun args pre lay ord hord => ?_
  obtain ⟨⟨vs, s1⟩, laid⟩ := Option.isSome_iff_exists.mp (layAllW_isSome (P := w.params) (ord := ord) GR.has args r.toRowW.args s (pre_splitW pre).1)
  have keeps := layAllW_keeps _ _ _ laid
  have rest := layAllW_rest _ _ _ laid
  obtain ⟨as, reads, inn, old⟩ := reads_layAllW hord _ _ _ laid lay s1.heap (fun _ _ e => e)
  have L : Laid r.toRowW.records w s s1 args vs as := ⟨⟨ord, hord, laid⟩, reads, inn, old, keeps, rest.1.trans gens, rest.2.2.1⟩
  have G2 := GR.keeps XL.keeps keeps
  obtain ⟨a, o, pm, cd, doc, dV, kV, h1, h2, h3, h4, h5⟩ := G2.fn hdef
  have W := call w s s1 _ _ G2 (H.keeps w _ _ Y keeps) a o pm cd doc dV kV h2 h3 h4 h5 (defOf_name hdef ▸ h1) L.gens args vs as pre lay L.reads L.well (L.low G1.low)
  have ids := ident_freeW hu ha hap
  have none_in : r.toRowW.claim.within = [] := List.isEmpty_iff.mp noin
  have fin : ∀ x s', GoodWG r.toRowW.claim (classAt s.heap) (ExcName.means s.heap) args s1 x s' → _ := fun x s' g => g.laid (c := r.toRowW.claim) hsame none_in ids L
  refine ⟨vs, s1, laid, wpAny_bind (wpAny_nsGet G2.T.g ?_)⟩
  have hr : s1.heap.nsMap mainGlobals = s1.heap.nsMap mainGlobals := rfl
  rw [h1]
  refine wpAny_bind (wpAny_mono W (fun v s' g => wpAny_pure ⟨_, rfl, ?_⟩) fun e s' g => ?_)
  · have y := fin _ _ g
    exact ⟨y.1, y.2.1, y.2.2, fun _ => ⟨namesKept_of T ns _ keeps g.2.1.old, noTable hwr ‹_›⟩⟩
  · have y := fin _ _ g
    exact ⟨y.1, y.2.1, y.2.2, fun _ => ⟨namesKept_of T ns _ keeps g.2.1.old, noTable hwr ‹_›⟩⟩
end HM
noncomputable section
namespace HM
open PySem PySem.W PySem.Calls PyProof.Rows HandSHeadRun
abbrev tk (p : Program) (w : World) : HeapKind p w (List L2.Key) := tupleKind (L2.mixKind p w)
abbrev sks (ks : List Str) : List L2.Key := ks.map Sum.inr
section
variable {p : Program} {w : World} {A : Around} {E : Value → Shared → Prop} {s : Shared}
theorem dictSet_new {d a : Addr} {o : Obj} {es : Array DictEntry} {ep : Nat} {xs : List (List L2.Key × Addr × Value)} {k : List L2.Key} {v : Value} {Q : Unit → Shared → Prop} (hu : (tk p w).room A) (hkey : (tk p w).is s.heap k a)
    (ho : s.heap.get? d = some o) (hd : o.data = .dict es ep) (he : es.toList = xs.map (entryOfKey (tk p w))) (his : ∀ x ∈ xs, (tk p w).is s.heap x.1 x.2.1) (hn : (xs.map (·.1)).Nodup) (hno : ¬ k ∈ xs.map (·.1)) (hz : xs.length ≤ 1000)
    (h : Q () { s with heap := s.heap.update d (Obj.mapDictKeys fun l => l.push ⟨(tk p w).hash k, .ref a, v⟩), toks := s.toks + (tk p w).draws k }) :
    wpAny (model p w) A (dictSet d (.ref a) v) Q E s := by
  have hes : es.size ≤ sizeLine := by
    have e := size_of_entries he
    rw [sizeLine_eq]
    omega
  unfold dictSet
  refine wpAny_holding ?_
  refine wpAny_bind ((tk p w).pyHash hu hkey ?_)
  unfold dictSetHashed
  refine wpAny_holding ?_
  refine wpAny_bind (wpAny_dictFind_heap (s := { s with toks := s.toks + (tk p w).draws k }) hu hkey ho hd he his hn ?_ ?_)
  · intro _
    exact wpAny_bind (wpAny_rule (wpAny_updateDictKeys (hz := hes) (s := { s with toks := s.toks + (tk p w).draws k }) ho hd h))
  · intro j y hj
    exact absurd (List.mem_map.mpr ⟨_, List.mem_of_getElem? hj, rfl⟩) hno
end
def strsB : List Str → List Value → Bool
  | [], [] => true
  | x :: xs, .str y _ :: vs => decide (x = y) && strsB xs vs
  | _, _ => false
theorem strsB_ok {p : Program} {w : World} : ∀ {ks : List Str} {vs : List Value}, strsB ks vs = true → PySem.ItemsAre (L2.mixKind p w) (sks ks) vs
  | [], [], _ => .nil
  | x :: xs, v :: vs, h => by
    cases v with
    | str y t =>
      obtain ⟨h1, h2⟩ := Bool.and_eq_true_iff.mp (show (decide (x = y) && strsB xs vs) = true from h)
      have e : x = y := of_decide_eq_true h1
      subst e
      exact .cons (L2.kV_is (P := p) (w := w) (k := Sum.inr x) (u := .str x t) ⟨t, rfl⟩) (strsB_ok h2)
    | _ => cases h
  | [], _ :: _, h => by cases h
  | _ :: _, [], h => by cases h
def keyB (s : SharedT) (ks : List Str) (a : Addr) : Bool := match getT s a with
  | some ⟨.type T, _, .seq its _, _⟩ => (match decide (T = "tuple") with
    | true => strsB ks its.toList
    | false => false)
  | _ => false
theorem keyB_ok {p : Program} {w : World} {s : SharedT} {ks : List Str} {a : Addr} (h : keyB s ks a = true) : (tk p w).is s.abs.heap (sks ks) a := by
  unfold keyB at h
  cases g : getT s a with
  | none => rw [g] at h; cases h
  | some o =>
    rw [g] at h
    obtain ⟨c, d, dt, sl⟩ := o
    cases c with
    | type T =>
      cases dt with
      | seq its n =>
        cases e : decide (T = "tuple") with
        | false => simp only [e] at h; cases h
        | true =>
          simp only [e] at h
          have eT : T = "tuple" := of_decide_eq_true e
          subst eT
          exact ⟨_, its, n, (getT_eq s a).symm.trans g, rfl, rfl, strsB_ok h⟩
      | _ => cases h
    | _ => cases h
def put (s : SharedT) (d : Addr) (e : DictEntry) (n : Nat) : SharedT := ⟨s.tree.set d (Obj.mapDictKeys fun l => l.push e), s.n, s.life, s.gens, s.drawn, s.toks + n, s.os⟩
theorem put_abs {s : SharedT} {d : Addr} {e : DictEntry} {n : Nat} {o : Obj} (g : s.tree.get d = some o) : (put s d e n).abs = { s.abs with heap := s.abs.heap.update d (Obj.mapDictKeys fun l => l.push e), toks := s.abs.toks + n } := by
  show (⟨absHeap (s.tree.set d _) s.n s.life, _, _, _, _⟩ : Shared) = _
  rw [absHeap_set g]
  rfl
abbrev Xs : Type := List (List Str × Addr × Value)
abbrev Ob2 : Type := Option Obj × Option Obj
def dicO (hh : List L2.Key → Int) (xs : Xs) (ep : Nat) : Obj := ⟨.type "dict", none, .dict (xs.map fun x => (⟨hh (sks x.1), .ref x.2.1, x.2.2⟩ : DictEntry)).toArray ep, #[]⟩
/-- what the rounds do; on the way what they lean on: the dict as it stands beside what it should be, the keys' tuples, a new key -/
def rounds (den : Code → Sem PySem.Fin) (stg : Setting) (Γ : Ctx) (hh : List L2.Key → Int) (d : Addr) : List (Sem Value × Sem Value × List Str) → Xs → SharedT → List Ob2 → Bool → Option (SharedT × Xs × List Ob2 × Bool)
  | [], xs, s, ob, b => some (s, xs, ob, b)
  | x :: r, xs, s, ob, b => (match mk den stg 200 [] Γ (asV x.1) s default with
    | some (.ret (.ref a), s1, p1) => (match mk den stg 200 [] Γ (asV x.2.1) s1 p1 with
      | some (.ret v, s2, _) => frS (put s2 d ⟨hh (sks x.2.2), .ref a, v⟩ (x.2.2.length + 1)) fun s3 =>
          rounds den stg Γ hh d r (xs ++ [(x.2.2, a, v)]) s3 ((s2.tree.get d, some (dicO hh xs xs.length)) :: ob)
            (b && (keyB s2 x.2.2 a && ((xs.all fun y => keyB s2 y.1 y.2.1) && (Nat.blt d s2.n && !(xs.any fun y => decide (y.1 = x.2.2))))))
      | _ => none)
    | _ => none)
/-- the position is of no matter to a tree that begins by standing somewhere -/
def Stands (t : Sem Value) : Prop := ∃ q k, t = .at q k
theorem Stands.wp {t : Sem Value} (h : Stands t) {M : Model} {Γ : Ctx} {Q : Value → Pos → Shared → Prop} {E : Value → Pos → Shared → Prop} {p p' : Pos} {s : Shared} (x : Sem.wp M Γ t Q E p' s) : Sem.wp M Γ t Q E p s := by
  obtain ⟨q, k, rfl⟩ := h
  rw [Sem.wp_at] at x ⊢
  exact x
section
variable {p : Program} {w : World} {Γ : Ctx} {A : Around} {d : Addr}
theorem inj_sks : ∀ {a b : List Str}, sks a = sks b → a = b
  | [], [], _ => rfl
  | [], _ :: _, h => by cases h
  | _ :: _, [], h => by cases h
  | x :: a, y :: b, h => by
    injection h with h1 h2
    injection h1 with h1
    rw [h1, inj_sks h2]
theorem rounds_b {den : Code → Sem PySem.Fin} {stg : Setting} {hh : List L2.Key → Int} : ∀ {l : List (Sem Value × Sem Value × List Str)} {xs xs' : Xs} {s s' : SharedT} {ob ob' : List Ob2} {b : Bool},
    rounds den stg Γ hh d l xs s ob b = some (s', xs', ob', true) → b = true ∧ ∀ y ∈ ob, y ∈ ob'
  | [], xs, xs', s, s', ob, ob', b, h => by
    cases h
    exact ⟨rfl, fun _ z => z⟩
  | x :: r, xs, xs', s, s', ob, ob', b, h => by
    unfold rounds at h
    split at h
    · split at h
      · rw [frS_eq] at h
        obtain ⟨h1, h2⟩ := rounds_b h
        exact ⟨(Bool.and_eq_true_iff.mp h1).1, fun y z => h2 y (List.mem_cons_of_mem _ z)⟩
      · cases h
    · cases h
theorem rounds_ok (hu : (tk p w).room A) (hΓ : Γ.In A) {C : PUnit → Pos → Shared → Prop} {E : Value → Pos → Shared → Prop} :
    ∀ {l : List (Sem Value × Sem Value × List Str)} {xs xs' : Xs} {s s' : SharedT} {ob ob' : List Ob2} {b : Bool}, rounds (denote table) ⟨p, w.params⟩ Γ (tk p w).hash d l xs s ob b = some (s', xs', ob', true) →
      (∀ y ∈ ob', y.1 = y.2) → (∀ x ∈ l, Stands x.1) → (xs.map (·.1)).Nodup → xs.length + l.length ≤ 1000 → (∀ pp, C PUnit.unit pp s'.abs) → ∀ pp,
      Sem.wp (model p w) Γ (forIn (l.map fun x => (x.1, x.2.1)) PUnit.unit fun (x : Sem Value × Sem Value) (_ : PUnit) => (do
        let kv ← x.1
        let vv ← holding [kv] x.2
        holding [kv, vv] (dictSet d kv vv)
        pure (ForInStep.yield PUnit.unit) : Sem (ForInStep PUnit))) C E pp s.abs
  | [], xs, xs', s, s', ob, ob', b, h, _, _, _, _, hC, pp => by
    cases h
    rw [List.map_nil, List.forIn_nil, Sem.wp_pure']
    exact hC pp
  | x :: r, xs, xs', s, s', ob, ob', b, h, hob, hst, hn, hz, hC, pp => by
    unfold rounds at h
    split at h
    · rename_i a s1 p1 h1
      split at h
      · rename_i v s2 p2 h2
        rw [frS_eq] at h
        obtain ⟨hb, hmem⟩ := rounds_b h
        obtain ⟨_, hb⟩ := Bool.and_eq_true_iff.mp hb
        obtain ⟨k1, hb⟩ := Bool.and_eq_true_iff.mp hb
        obtain ⟨k2, hb⟩ := Bool.and_eq_true_iff.mp hb
        obtain ⟨k3, k4⟩ := Bool.and_eq_true_iff.mp hb
        have lt : d < s2.n := Nat.le_of_ble_eq_true k3
        have hg : s2.tree.get d = some (dicO (tk p w).hash xs xs.length) := hob _ (hmem _ (List.mem_cons_self))
        have hget : s2.abs.heap.get? d = some (dicO (tk p w).hash xs xs.length) := abs_get lt hg
        have hnew : ¬ x.2.2 ∈ xs.map (·.1) := fun m => by
          obtain ⟨y, hy, e⟩ := List.mem_map.mp m
          have z : (xs.any fun y => decide (y.1 = x.2.2)) = true := List.any_eq_true.mpr ⟨y, hy, by rw [e]; exact decide_eq_true rfl⟩
          rw [z] at k4
          cases k4
        rw [List.map_cons, List.forIn_cons]
        refine (Sem.wp_bind' ..).mpr ?_
        refine (Sem.wp_bind' ..).mpr ?_
        refine (hst x (List.mem_cons_self)).wp (p' := default) (run_V (M := model p w) h1 ?_)
        refine (Sem.wp_bind' ..).mpr ?_
        rw [Sem.wp_holding]
        refine run_V (M := model p w) h2 ?_
        refine (Sem.wp_bind' ..).mpr ?_
        rw [Sem.wp_holding]
        have key : wpAny (model p w) A (dictSet d (.ref a) v) (fun _ t => t = (put s2 d ⟨(tk p w).hash (sks x.2.2), .ref a, v⟩ (x.2.2.length + 1)).abs) (fun _ _ => False) s2.abs := by
          refine dictSet_new (xs := xs.map fun y => (sks y.1, y.2.1, y.2.2)) hu (keyB_ok k1) hget rfl ?_ ?_ ?_ ?_ (by rw [List.length_map]; omega) ?_
          · show (xs.map _).toArray.toList = _
            rw [List.map_map]
            rfl
          · intro y hy
            obtain ⟨z, hz, rfl⟩ := List.mem_map.mp hy
            exact keyB_ok (List.all_eq_true.mp k2 z hz)
          · have e : (xs.map fun y => (sks y.1, y.2.1, y.2.2)).map (·.1) = (xs.map (·.1)).map sks := by rw [List.map_map, List.map_map]; rfl
            rw [e]
            exact List.Pairwise.map _ (fun a b hab e => hab (inj_sks e)) hn
          · intro m
            obtain ⟨y, hy, e⟩ := List.mem_map.mp m
            obtain ⟨z, hz, rfl⟩ := List.mem_map.mp hy
            exact hnew (List.mem_map.mpr ⟨z, hz, inj_sks e⟩)
          · rw [put_abs hg]
            have e : (tk p w).draws (sks x.2.2) = x.2.2.length + 1 := by
              show (sks x.2.2).length + 1 = _
              rw [List.length_map]
            rw [e]
        refine Sem.wp_mono _ _ _ (fun _ p3 t ht => ?_) (fun _ _ _ z => z.elim) p2 s2.abs (key Γ p2 hΓ)
        subst ht
        rw [Sem.wp_pure']
        show Sem.wp _ _ _ _ _ _ _
        refine rounds_ok hu hΓ h hob (fun y hy => hst y (List.mem_cons_of_mem _ hy)) ?_ (by simp only [List.length_append, List.length_cons, List.length_nil] at hz ⊢; omega) hC p3
        rw [List.map_append, List.nodup_append]
        refine ⟨hn, by simp, fun a ha b hb e => ?_⟩
        rw [List.map_cons, List.map_nil, List.mem_singleton] at hb
        rw [e, hb] at ha
        exact hnew ha
      · cases h
    · cases h
end
end HM
noncomputable section
namespace HM
open PySem PySem.W PySem.Calls PyProof.Rows HandSHeadRun
abbrev Pr2 : Type := Sem Value × Sem Value
theorem gather (f : (Option (Sem Value) × Sem Value) → (Option Addr × List Pr2) → Sem (ForInStep (Option Addr × List Pr2))) (hf : ∀ (p : Pr2) (run : List Pr2), run.length + 1 < 17 → f (some p.1, p.2) (none, run) = pure (.yield (none, run ++ [p])))
    (tail : List (Option (Sem Value) × Sem Value)) : ∀ (items run : List Pr2), run.length + items.length < 17 → forIn ((items.map fun p => (some p.1, p.2)) ++ tail) ((none : Option Addr), run) f = forIn tail ((none : Option Addr), run ++ items) f
  | [], run, _ => by simp
  | p :: rest, run, h => by
    rw [List.map_cons, List.cons_append, List.forIn_cons, hf p run (by simp at h; omega), pure_bind]
    have e := gather f hf tail rest (run ++ [p]) (by simp at h ⊢; omega)
    simpa using e
theorem display17 {M : Model} {Γ : Ctx} {Q : Value → Pos → Shared → Prop} {E : Value → Pos → Shared → Prop} {pp : Pos} {s : Shared} (ps : List Pr2) (x : Pr2) (h16 : ps.length = 16)
    (h : Sem.wp M Γ (subDict (ps ++ [x])) (fun d p' s' => Q (.ref d) p' s') E pp s) : Sem.wp M Γ (dictDisplay ((ps ++ [x]).map fun p => (some p.1, p.2))) Q E pp s := by
  unfold dictDisplay
  dsimp only
  rw [List.map_append, gather _ (fun p run h => by
    have hne : ((run ++ [(p.1, p.2)]).length == 17) = false := by simp; omega
    simp only [hne, Bool.false_eq_true, if_false]) _ ps [] (by simp; omega)]
  have e17 : ((ps ++ [(x.1, x.2)]).length == 17) = true := by simp; omega
  have ne : (ps ++ [(x.1, x.2)]).isEmpty = false := by simp
  rw [List.map_cons, List.map_nil, List.forIn_cons]
  simp only [e17, ne, if_true, Bool.false_eq_true, if_false, List.forIn_nil, Sem.wp_bind', Sem.wp_pure', List.isEmpty_nil, List.nil_append]
  exact h
/-- the dict made and filled, more than fifteen pairs -/
theorem subDict_long {p : Program} {w : World} {Γ : Ctx} {A : Around} {E : Value → Pos → Shared → Prop} {Q : Addr → Pos → Shared → Prop} {l : List (Sem Value × Sem Value × List Str)} {s s' : SharedT} {xs' : Xs} {ob' : List Ob2} (hu : (tk p w).room A) (hΓ : Γ.In A)
    (g : ((s.tree.ins s.n ⟨.type "dict", none, .dict #[] 0, #[]⟩).get s.n).isSome = true)
    (h : rounds (denote table) ⟨p, w.params⟩ Γ (tk p w).hash s.n l [] ⟨s.tree.ins s.n ⟨.type "dict", none, .dict #[] 0, #[]⟩, s.n + 1, s.life, s.gens, s.drawn, s.toks, s.os⟩ [] true = some (s', xs', ob', true))
    (hob : ∀ y ∈ ob', y.1 = y.2) (hst : ∀ x ∈ l, Stands x.1) (h15 : 15 < l.length) (hz : l.length ≤ 1000) (hQ : ∀ pp, Q s.n pp s'.abs) (pp : Pos) : Sem.wp (model p w) Γ (subDict (l.map fun x => (x.1, x.2.1))) Q E pp s.abs := by
  unfold subDict
  refine (Sem.wp_bind' ..).mpr ?_
  show Sem.wp _ _ (.alloc _ .pure) _ _ _ _
  rw [Sem.wp_alloc, Sem.wp_pure]
  have e2 : s.abs.heap.objs.size = s.n := absHeap_size s.tree s.n s.life
  rw [e2]
  have e : ({ s.abs with heap := s.abs.heap.push { cls := .type "dict", data := .dict #[] } } : Shared) = SharedT.abs ⟨s.tree.ins s.n ⟨.type "dict", none, .dict #[] 0, #[]⟩, s.n + 1, s.life, s.gens, s.drawn, s.toks, s.os⟩ := by
    show _ = (⟨absHeap (s.tree.ins s.n _) (s.n + 1) s.life, _, _, _, _⟩ : Shared)
    rw [absHeap_ins g]
    rfl
  rw [e]
  refine (Sem.wp_bind' ..).mpr ?_
  rw [Sem.wp_holding, if_neg (by rw [List.length_map]; omega)]
  refine (Sem.wp_bind' ..).mpr ?_
  show Sem.wp _ _ (.rule _ .pure) _ _ _ _
  rw [Sem.wp_rule, Sem.wp_pure]
  refine (Sem.wp_bind' ..).mpr ?_
  refine rounds_ok hu hΓ h hob hst List.nodup_nil (by simpa using hz) (fun p2 => ?_) pp
  rw [Sem.wp_pure', Sem.wp_pure']
  exact hQ p2
/-- a display of seventeen pairs, given a name -/
theorem exec_dict {p : Program} {w : World} {Γ : Ctx} {A : Around} {env : Env} {tg : PySem.Expr} {keys : List (Option PySem.Expr)} {values : List PySem.Expr} {pos pos2 : Pos} {E : Value → Pos → Shared → Prop} {Q : Flow → Pos → Shared → Prop} {l : List (Sem Value × Sem Value × List Str)} {s s' : SharedT} {xs' : Xs}
    {ob' : List Ob2} (hu : (tk p w).room A) (hΓ : Γ.In A) (hshape : (evalEachOpt keys env).zip ((evalEach values env).map fun v => do let x ← v; standAt pos2; pure x) = l.map fun x => (some x.1, x.2.1))
    (hsw : swapsWithSole [tg] (.Dict keys values pos2) pos.line env = pure false) (g : ((s.tree.ins s.n ⟨.type "dict", none, .dict #[] 0, #[]⟩).get s.n).isSome = true)
    (h : rounds (denote table) ⟨p, w.params⟩ Γ (tk p w).hash s.n l [] ⟨s.tree.ins s.n ⟨.type "dict", none, .dict #[] 0, #[]⟩, s.n + 1, s.life, s.gens, s.drawn, s.toks, s.os⟩ [] true = some (s', xs', ob', true))
    (hob : ∀ y ∈ ob', y.1 = y.2) (hst : ∀ x ∈ l, Stands x.1) (h17 : l.length = 17)
    (hQ : ∀ pp, Sem.wp (model p w) Γ (do assignStores env (.ref s.n) (← swappedStores [tg] (.Dict keys values pos2) env) ((assignEach [tg] env).map (·.2))) Q E pp s'.abs) (pp : Pos) :
    Sem.wp (model p w) Γ (exec (.Assign [tg] (.Dict keys values pos2) pos) env) Q E pp s.abs := by
  rw [arm_exec_Assign]
  refine (Sem.wp_bind' ..).mpr ?_
  show Sem.wp _ _ (.at _ .pure) _ _ _ _
  rw [Sem.wp_at, Sem.wp_pure, hsw]
  refine (Sem.wp_bind' ..).mpr ?_
  rw [Sem.wp_pure', if_neg (by decide)]
  refine (Sem.wp_bind' ..).mpr ?_
  rw [arm_eval_Dict]
  refine (Sem.wp_bind' ..).mpr ?_
  show Sem.wp _ _ (.at _ .pure) _ _ _ _
  rw [Sem.wp_at, Sem.wp_pure, hshape]
  obtain ⟨ps, x, e, h16⟩ : ∃ ps x, l = ps ++ [x] ∧ ps.length = 16 := by
    have ne : l ≠ [] := fun z => by rw [z] at h17; cases h17
    refine ⟨l.dropLast, l.getLast ne, (List.dropLast_concat_getLast ne).symm, ?_⟩
    rw [List.length_dropLast, h17]
  have z : (l.map fun x => (some x.1, x.2.1)) = ((ps.map fun x => (x.1, x.2.1)) ++ [(x.1, x.2.1)]).map fun (p : Pr2) => (some p.1, p.2) := by
    rw [e]
    simp
  have z2 : (ps.map fun x => (x.1, x.2.1)) ++ [(x.1, x.2.1)] = l.map fun x => (x.1, x.2.1) := by
    rw [e]
    simp
  rw [z]
  refine display17 _ _ (by rw [List.length_map]; exact h16) ?_
  rw [z2]
  exact subDict_long hu hΓ g h hob hst (by omega) (by omega) (fun p2 => hQ p2) pos2
end HM
noncomputable section
namespace HM
open PySem PySem.W PySem.Calls PyProof.Rows HandSHeadRun
section
variable {M : Model} {Γ : Ctx} {env : Env}
theorem execs_app : ∀ {l r : List Stmt} {Q : Flow → Pos → Shared → Prop} {E : Value → Pos → Shared → Prop} {p : Pos} {s : Shared},
    Sem.wp M Γ (execs l env) (fun f p' s' => f = .next ∧ Sem.wp M Γ (execs r env) Q E p' s') E p s → Sem.wp M Γ (execs (l ++ r) env) Q E p s
  | [], r, Q, E, p, s, h => by
    rw [show execs [] env = (Sem.pure Flow.next : Sem Flow) from rfl, Sem.wp_pure] at h
    exact h.2
  | x :: l, r, Q, E, p, s, h => by
    have e : ∀ m : List Stmt, execs (x :: m) env = (exec x env >>= fun f => match f with
      | .next => execs m env
      | f => pure f) := fun _ => rfl
    rw [List.cons_append, e, Sem.wp_bind']
    rw [e, Sem.wp_bind'] at h
    refine Sem.wp_mono M Γ _ (fun f p' s' z => ?_) (fun _ _ _ z => z) p s h
    cases f with
    | next => exact execs_app z
    | _ =>
      have z2 := (Sem.wp_pure' ..).mp z
      cases z2.1
end
abbrev envOf (p : Program) (cv : Value) (fa : Addr) : Env := { scope := p.main.scope, locals := mainNs, globals := mainNs, cells := [], code := cv, frame := some fa }
abbrev dNew : Obj := ⟨.type "dict", none, .dict #[] 0, #[]⟩
/-- the top's pieces as trees -/
structure Parts where
  code : Sem Value
  frame : Value → Sem Value
  start : Env → Sem Flow
  ahead : Env → Sem Flow
  pairs : Env → List (Sem Value × Sem Value × List Str)
  behind : Env → Addr → Sem Flow
def full (den : Code → Sem PySem.Fin) (p : Program) (w : World) (hh : List L2.Key → Int) (T : Parts) (N : Nat) (s0 : SharedT) (pX : Pos) : Option (SharedT × List Ob2 × Bool) :=
  match mk den ⟨p, w.params⟩ N [] Γ0 (asV T.code) s0 default with
  | some (.ret cv, s1, p1) => (match mk den ⟨p, w.params⟩ N [] Γ0 (asV (T.frame cv)) s1 p1 with
    | some (.ret (.ref fa), s2, p2) => (match mk den ⟨p, w.params⟩ N [] (Γ0.enter (.body (behindTheImports p) (envOf p cv fa)) none p2) (asF (T.start (envOf p cv fa))) s2 p2 with
      | some (.next, s3, p3) => (match mk den ⟨p, w.params⟩ N [] (Γ0.enter (.body (behindTheImports p) (envOf p cv fa)) none p2) (asF (T.ahead (envOf p cv fa))) s3 p3 with
        | some (.next, s4, p4) => (match ((s4.tree.ins s4.n dNew).get s4.n).isSome with
          | true => frS ⟨s4.tree.ins s4.n dNew, s4.n + 1, s4.life, s4.gens, s4.drawn, s4.toks, s4.os⟩ fun s5 =>
            (match rounds den ⟨p, w.params⟩ (Γ0.enter (.body (behindTheImports p) (envOf p cv fa)) none p2) hh s4.n (T.pairs (envOf p cv fa)) [] s5 [] true with
            | some (s6, xs, ob, b) => (match mk den ⟨p, w.params⟩ N [] (Γ0.enter (.body (behindTheImports p) (envOf p cv fa)) none p2) (asF (T.behind (envOf p cv fa) s4.n)) s6 pX with
              | some (.next, s7, _) => some (s7, ob, b)
              | _ => none)
            | none => none)
          | false => none)
        | _ => none)
      | _ => none)
    | _ => none)
  | _ => none
abbrev A1 : Around := { handled := none, depth := 100000, frames := none, guards := none, units := 1000 }
/-- the pieces are those of the program: l1, a display of seventeen pairs with a name, l2 -/
structure PartsOk (p : Program) (T : Parts) (l1 l2 : List Stmt) (tg : PySem.Expr) (keys : List (Option PySem.Expr)) (values : List PySem.Expr) (pos pos2 : Pos) : Prop where
  body : behindTheImports p = l1 ++ .Assign [tg] (.Dict keys values pos2) pos :: l2
  code : T.code = moduleCode p.main
  frame : ∀ cv, T.frame cv = (newBodyFrame cv mainNs mainNs).bind fun a => .pure (.ref a)
  start : ∀ env, T.start env = (blockStart (behindTheImports p) env).bind fun _ => .pure .next
  ahead : ∀ env, T.ahead env = execs l1 env
  shape : ∀ env, (evalEachOpt keys env).zip ((evalEach values env).map fun v => do let x ← v; standAt pos2; pure x) = (T.pairs env).map fun x => (some x.1, x.2.1)
  stands : ∀ env, ∀ x ∈ T.pairs env, Stands x.1
  len : ∀ env, (T.pairs env).length = 17
  behind : ∀ env d, T.behind env d = ((do assignStores env (.ref d) (← swappedStores [tg] (.Dict keys values pos2) env) ((assignEach [tg] env).map (·.2))) : Sem Flow).bind fun f => match f with
    | .next => execs l2 env
    | f => .pure f
  sole : ∀ env, swapsWithSole [tg] (.Dict keys values pos2) pos.line env = pure false
theorem top_wp {p : Program} {w : World} {T : Parts} {l1 l2 : List Stmt} {tg : PySem.Expr} {keys : List (Option PySem.Expr)} {values : List PySem.Expr} {pos pos2 : Pos} {N : Nat} {s0 : SharedT} {G : Shared → Prop} (ok : PartsOk p T l1 l2 tg keys values pos pos2)
    (hin : ∀ cv fa p2, (Γ0.enter (.body (behindTheImports p) (envOf p cv fa)) none p2).In A1) (hu : A1.units < cLine)
    (h : ∀ pX, ∃ s7 ob, full (denote table) p w (tk p w).hash T N s0 pX = some (s7, ob, true) ∧ (∀ y ∈ ob, y.1 = y.2) ∧ G s7.abs) :
    Sem.wp (model p w) Γ0 (topStub p).cur (fun a _ s' => (∃ f, a = .done f) ∧ G s') (fun _ _ _ => False) default s0.abs := by
  obtain ⟨s7, ob, hf, _⟩ := h default
  unfold full at hf
  split at hf
  case h_2 => cases hf
  case h_1 =>
  rename_i cv s1 p1 h1
  split at hf
  case h_2 => cases hf
  case h_1 =>
  rename_i fa s2 p2 h2
  split at hf
  case h_2 => cases hf
  case h_1 =>
  rename_i s3 p3 h3
  split at hf
  case h_2 => cases hf
  case h_1 =>
  rename_i s4 p4 h4
  split at hf
  case h_2 => cases hf
  case h_1 =>
  rename_i h5
  rw [frS_eq] at hf
  split at hf
  case h_2 => cases hf
  case h_1 =>
  rename_i s6 xs ob0 b h6
  have all : ∀ pX, ∃ s7 p8, mk (denote table) ⟨p, w.params⟩ N [] (Γ0.enter (.body (behindTheImports p) (envOf p cv fa)) none p2) (asF (T.behind (envOf p cv fa) s4.n)) s6 pX = some (.next, s7, p8) ∧ (∀ y ∈ ob0, y.1 = y.2) ∧ b = true ∧ G s7.abs := by
    intro pX
    obtain ⟨s8, ob8, g1, g2, g3⟩ := h pX
    unfold full at g1
    simp only [h1, h2, h3, h4, h5, frS_eq, h6] at g1
    split at g1
    case h_2 => cases g1
    case h_1 =>
    rename_i s9 p9 h9
    cases g1
    exact ⟨_, _, h9, g2, rfl, g3⟩
  show Sem.wp (model p w) Γ0 (moduleCode p.main >>= fun code => newBodyFrame code mainNs mainNs >>= fun frame => run (.body (behindTheImports p) (envOf p code frame)) >>= fun _ => (ret .none : Sem PySem.Fin)) _ _ default s0.abs
  rw [ok.code] at h1
  refine (Sem.wp_bind' ..).mpr (run_V (M := model p w) h1 ?_)
  rw [ok.frame] at h2
  refine (Sem.wp_bind' ..).mpr ?_
  have fr : Sem.wp (model p w) Γ0 ((newBodyFrame cv mainNs mainNs).bind fun a => .pure (.ref a) : Sem Value) (fun v p' s' => v = .ref fa ∧ p' = p2 ∧ s' = s2.abs) (fun _ _ _ => False) p1 s1.abs := run_V (M := model p w) h2 ⟨rfl, rfl, rfl⟩
  have fr2 : Sem.wp (model p w) Γ0 (newBodyFrame cv mainNs mainNs >>= fun a => (.pure (.ref a) : Sem Value)) (fun v p' s' => v = .ref fa ∧ p' = p2 ∧ s' = s2.abs) (fun _ _ _ => False) p1 s1.abs := fr
  rw [Sem.wp_bind'] at fr2
  refine Sem.wp_mono _ _ _ (fun a p' s' z => ?_) (fun _ _ _ z => z) p1 s1.abs fr2
  rw [Sem.wp_pure] at z
  obtain ⟨za, rfl, rfl⟩ := z
  cases za
  refine (Sem.wp_bind' ..).mpr ?_
  show Sem.wp _ _ (.call _ _ _ _ _) _ _ _ _
  rw [Sem.wp_call, wpCode_iff_wp]
  show Sem.wp (model p w) (Γ0.enter (.body (behindTheImports p) (envOf p cv fa)) none p') (((blockStart (behindTheImports p) (envOf p cv fa)) >>= fun _ => ((execs (behindTheImports p) (envOf p cv fa)).onRaise (leaving (envOf p cv fa))) >>= fun f => (Sem.pure (PySem.Fin.done f) : Sem PySem.Fin))) _ _ p' s2.abs
  rw [ok.start] at h3
  have st : Sem.wp (model p w) (Γ0.enter (.body (behindTheImports p) (envOf p cv fa)) none p') ((blockStart (behindTheImports p) (envOf p cv fa)) >>= fun _ => (Sem.pure Flow.next : Sem Flow)) (fun f pp s' => pp = p3 ∧ s' = s3.abs) (fun _ _ _ => False) p' s2.abs := run_F (M := model p w) h3 ⟨rfl, rfl⟩
  rw [Sem.wp_bind'] at st
  refine (Sem.wp_bind' ..).mpr (Sem.wp_mono _ _ _ (fun a pp s' z => ?_) (fun _ _ _ z => z.elim) _ _ st)
  rw [Sem.wp_pure] at z
  obtain ⟨rfl, rfl⟩ := z
  refine (Sem.wp_bind' ..).mpr ?_
  have eb : execs (behindTheImports p) (envOf p cv fa) = execs (l1 ++ .Assign [tg] (.Dict keys values pos2) pos :: l2) (envOf p cv fa) := by rw [ok.body]
  rw [Sem.wp_onRaise, eb]
  rw [ok.ahead] at h4
  refine execs_app (run_F (M := model p w) h4 ⟨rfl, ?_⟩)
  have e : ∀ (x : Stmt) (m : List Stmt), execs (x :: m) (envOf p cv fa) = (exec x (envOf p cv fa) >>= fun f => match f with
      | .next => execs m (envOf p cv fa)
      | f => pure f) := fun _ _ => rfl
  rw [e]
  refine (Sem.wp_bind' ..).mpr ?_
  obtain ⟨_, _, _, hob, hb, _⟩ := all default
  subst hb
  refine exec_dict (A := A1) hu (hin cv fa p') (ok.shape _) (ok.sole _) h5 h6 hob (ok.stands _) (ok.len _) (fun pX => ?_) p4
  obtain ⟨s8, p8, h8, _, _, hG⟩ := all pX
  rw [ok.behind] at h8
  have bh : Sem.wp (model p w) (Γ0.enter (.body (behindTheImports p) (envOf p cv fa)) none p') (((do assignStores (envOf p cv fa) (.ref s4.n) (← swappedStores [tg] (.Dict keys values pos2) (envOf p cv fa)) ((assignEach [tg] (envOf p cv fa)).map (·.2))) : Sem Flow) >>= fun f => match f with
    | .next => execs l2 (envOf p cv fa)
    | f => .pure f) (fun f _ s' => f = .next ∧ s' = s8.abs) (fun _ _ _ => False) pX s6.abs := run_F (M := model p w) h8 ⟨rfl, rfl⟩
  rw [Sem.wp_bind'] at bh
  refine Sem.wp_mono _ _ _ (fun f pp s' z => ?_) (fun _ _ _ z => z.elim) pX s6.abs bh
  have fin : ∀ (f : Flow) (pp : Pos) (s' : Shared), (f = .next ∧ s' = s8.abs) → Sem.wp (model p w) (Γ0.enter (.body (behindTheImports p) (envOf p cv fa)) none p') (Sem.pure (PySem.Fin.done f)) (Sem.finPost (model p w) (Γ0.enter (.body (behindTheImports p) (envOf p cv fa)) none p') fun x s' => Sem.wp (model p w) Γ0 ((match x with
      | .ok f => .pure f
      | .error e => .raise e : Sem Flow)) (fun _ p3 s3 => Sem.wp (model p w) Γ0 (ret .none : Sem PySem.Fin) (fun a _ s' => (∃ f, a = .done f) ∧ G s') (fun _ _ _ => False) p3 s3) (fun _ _ _ => False) p' s') (fun e _ s' => False) pp s' := by
    rintro f pp s' ⟨rfl, rfl⟩
    rw [Sem.wp_pure]
    simp only [Sem.finPost]
    rw [Sem.wp_pure]
    unfold ret
    rw [Sem.wp_pure']
    exact ⟨⟨_, rfl⟩, hG⟩
  cases f with
  | next =>
    refine Sem.wp_mono _ _ _ (fun f pp s' y => ?_) (fun _ _ _ y => y.elim) pp s' z
    exact Sem.wp_mono _ _ _ (fun _ _ _ q => q) (fun _ _ _ q => q.elim) pp s' (fin f pp s' y)
  | _ =>
    have z2 := (Sem.wp_pure' ..).mp z
    cases z2.1
end HM
noncomputable section
namespace HM
open PySem PySem.W PySem.Calls PyProof.Rows HandSHeadRun
/-- the texts of a tuple that is written out -/
def strsOf : PySem.Expr → List Str
  | .Tuple es _ _ => es.filterMap fun e => match e with
    | .Constant (.str x) _ _ => some x
    | _ => none
  | _ => []
def isTup : PySem.Expr → Bool
  | .Tuple _ _ _ => true
  | _ => false
/-- the pairs of a display, by any reading of expressions -/
def pairsBy (ev : PySem.Expr → Env → Sem Value) (pos2 : Pos) (env : Env) : List (Option PySem.Expr) → List PySem.Expr → List (Sem Value × Sem Value × List Str)
  | some k :: ks, v :: vs => (ev k env, (ev v env).bind (fun x => (standAt pos2).bind fun _ => .pure x), strsOf k) :: pairsBy ev pos2 env ks vs
  | _, _ => []
theorem pairs_cons {ev : PySem.Expr → Env → Sem Value} {pos2 : Pos} {env : Env} {k v : PySem.Expr} {ks : List (Option PySem.Expr)} {vs : List PySem.Expr} :
    pairsBy ev pos2 env (some k :: ks) (v :: vs) = (ev k env, (ev v env).bind (fun x => (standAt pos2).bind fun _ => .pure x), strsOf k) :: pairsBy ev pos2 env ks vs := by
  rw [pairsBy]
theorem pairs_shape {env : Env} {pos2 : Pos} : ∀ {ks : List (Option PySem.Expr)} {vs : List PySem.Expr}, ks.all (fun k => match k with
      | some k => isTup k
      | none => false) = true → ks.length = vs.length →
    (evalEachOpt ks env).zip ((evalEach vs env).map fun v => do let x ← v; standAt pos2; pure x) = (pairsBy eval pos2 env ks vs).map (fun x => (some x.1, x.2.1)) ∧ (∀ x ∈ pairsBy eval pos2 env ks vs, Stands x.1) ∧ (pairsBy eval pos2 env ks vs).length = ks.length
  | [], [], _, _ => ⟨rfl, fun _ m => (nomatch m), rfl⟩
  | [], _ :: _, _, h => by cases h
  | k :: ks, [], _, h => by cases h
  | none :: ks, v :: vs, h, _ => by simp at h
  | some k :: ks, v :: vs, h, hl => by
    simp only [List.all_cons, Bool.and_eq_true] at h
    obtain ⟨h1, h2⟩ := h
    obtain ⟨i1, i2, i3⟩ := pairs_shape (env := env) (pos2 := pos2) h2 (by simpa using hl)
    refine ⟨?_, fun x m => ?_, ?_⟩
    · rw [show evalEachOpt (some k :: ks) env = some (eval k env) :: evalEachOpt ks env from rfl, show evalEach (v :: vs) env = eval v env :: evalEach vs env from rfl, List.map_cons, List.zip_cons_cons, i1, pairs_cons, List.map_cons]
      rfl
    · rw [pairs_cons] at m
      rcases List.mem_cons.mp m with e | m
      · subst e
        cases k with
        | Tuple es c q => exact ⟨q, _, rfl⟩
        | _ => cases h1
      · exact i2 x m
    · rw [pairs_cons, List.length_cons, List.length_cons, i3]
/-- the pieces of a program, by any reading -/
structure Rd1 where
  mc : Module → Sem Value
  nb : Value → Addr → Addr → Sem Addr
  bs : List Stmt → Env → Sem Unit
  ex : List Stmt → Env → Sem Flow
  ev : PySem.Expr → Env → Sem Value
  sw : List PySem.Expr → PySem.Expr → Env → Sem (Option (List Str))
  as : Env → Value → Option (List Str) → List (Value → Sem Unit) → Sem Flow
  ae : List PySem.Expr → Env → List (Bool × (Value → Sem Unit))
def partsBy (r : Rd1) (p : Program) (l1 l2 : List Stmt) (tg : PySem.Expr) (keys : List (Option PySem.Expr)) (values : List PySem.Expr) (pos2 : Pos) : Parts where
  code := r.mc p.main
  frame := fun cv => (r.nb cv mainNs mainNs).bind fun a => .pure (.ref a)
  start := fun env => (r.bs (behindTheImports p) env).bind fun _ => .pure .next
  ahead := fun env => r.ex l1 env
  pairs := fun env => pairsBy r.ev pos2 env keys values
  behind := fun env d => ((r.sw [tg] (.Dict keys values pos2) env).bind fun sw => r.as env (.ref d) sw ((r.ae [tg] env).map (·.2))).bind fun f => match f with
    | .next => r.ex l2 env
    | f => .pure f
/-- the model's own readings; the library's twins of them -/
def rd0 : Rd1 := ⟨fun m => moduleCode m, fun c a b => newBodyFrame c a b, blockStart, execs, eval, swappedStores, assignStores, assignEach⟩
def rdQ : Rd1 := ⟨fun m => PySem.W.Fast.tw17154629097778926822 m m.file none, fun c a b => PySem.W.Fast.tw12822647523644345616 c a b builtinsNs, PySem.W.Fast.tw1066825118222455980, PySem.W.Fast.tw12563942051412417395, PySem.W.Fast.tw14044960220447912780, PySem.W.Fast.tw4016559146275205325,
  PySem.W.Fast.tw2470068587113613483, PySem.W.Fast.tw15628205474173192105⟩
theorem rd_eq : rd0 = rdQ := by
  unfold rd0 rdQ
  rw [← PySem.W.Fast.te17154629097778926822, ← PySem.W.Fast.te12822647523644345616, ← PySem.W.Fast.te1066825118222455980, ← PySem.W.Fast.te12563942051412417395, ← PySem.W.Fast.te14044960220447912780, ← PySem.W.Fast.te4016559146275205325, ← PySem.W.Fast.te2470068587113613483,
    ← PySem.W.Fast.te15628205474173192105]
theorem parts_ok {p : Program} {l1 l2 : List Stmt} {tg : PySem.Expr} {keys : List (Option PySem.Expr)} {values : List PySem.Expr} {pos pos2 : Pos} (body : behindTheImports p = l1 ++ .Assign [tg] (.Dict keys values pos2) pos :: l2)
    (hk : keys.all (fun k => match k with
      | some k => isTup k
      | none => false) = true) (hl : keys.length = 17) (hv : keys.length = values.length) (sole : ∀ env, swapsWithSole [tg] (.Dict keys values pos2) pos.line env = pure false) : PartsOk p (partsBy rd0 p l1 l2 tg keys values pos2) l1 l2 tg keys values pos pos2 where
  body := body
  code := rfl
  frame := fun _ => rfl
  start := fun _ => rfl
  ahead := fun _ => rfl
  shape := fun env => (pairs_shape hk hv).1
  stands := fun env => (pairs_shape hk hv).2.1
  len := fun env => (pairs_shape hk hv).2.2.trans hl
  behind := fun _ _ => rfl
  sole := sole
theorem full_eq {p : Program} {w : World} {hh : List L2.Key → Int} {l1 l2 : List Stmt} {tg : PySem.Expr} {keys : List (Option PySem.Expr)} {values : List PySem.Expr} {pos2 : Pos} {N : Nat} {s0 : SharedT} {pX : Pos} :
    full (denote table) p w hh (partsBy rd0 p l1 l2 tg keys values pos2) N s0 pX = full (denQ tabQ) p w hh (partsBy rdQ p l1 l2 tg keys values pos2) N s0 pX := by
  rw [rd_eq, table_eq_tree, denQ_eq, tabQ_eq]
/-- from the boot -/
def fromBoot {α : Type} (w : World) (os : OsState) (k : SharedT → Option α) : Option α := match putAll (boot_heap w.params).objs.toList .nil 0 with
  | some (t, n) => frNat n fun n0 => k (bootT w os (t, n0))
  | none => none
theorem fromBoot_ok {α : Type} {w : World} {os : OsState} {k : SharedT → Option α} {x : α} (h : fromBoot w os k = some x) : ∃ s0 : SharedT, s0.abs = bootS w os ∧ k s0 = some x ∧ (∀ k2 : SharedT → Option α, fromBoot w os k2 = k2 s0) ∧ ∀ {β : Type} (k2 : SharedT → Option β), fromBoot w os k2 = k2 s0 := by
  unfold fromBoot at h ⊢
  cases e : putAll (boot_heap w.params).objs.toList .nil 0 with
  | none =>
    rw [e] at h
    cases h
  | some r =>
    obtain ⟨t, n⟩ := r
    rw [e] at h
    have h1 : (frNat n fun n0 => k (bootT w os (t, n0))) = some x := h
    rw [frNat_eq] at h1
    refine ⟨bootT w os (t, n), ?_, h1, fun k2 => ?_, fun k2 => ?_⟩
    · have eh := putAll_heap e
      show (⟨absHeap t n (boot_heap w.params).life, #[], boot_drawn, boot_toks, os⟩ : Shared) = _
      rw [eh]
    · show (frNat n fun n0 => k2 (bootT w os (t, n0))) = _
      rw [frNat_eq]
    · show (frNat n fun n0 => k2 (bootT w os (t, n0))) = _
      rw [frNat_eq]
end HM
noncomputable section
namespace HM
open PySem PySem.W PySem.Calls PyProof.Rows HandSHeadRun DL
inductive Fc where
  | no (x : Str)
  | ex (x : Str)
  | con (x : Str) (d : D)
  | fn (x : Str)
  | tz (x : Str)
def all2 {α β : Type} (f : α → β → Bool) : List α → List β → Bool
  | [], [] => true
  | a :: r, b :: t => f a b && all2 f r t
  | _, _ => false
def kdaB (K : PySem.W.Frag) : Nat → Value → D → Bool
  | 0, _, _ => false
  | n + 1, u, d => match u, d with
    | .none, .none => true
    | .bool b, .bool c => decide (b = c)
    | .int i _, .int j => decide (i = j)
    | .str x _, .str y => decide (x = y)
    | .ref a, .tuple ds => (match K.lookup a with
      | some ⟨.type T, _, .seq its _, _⟩ => decide (T = "tuple") && (Nat.ble its.size 1000 && all2 (kdaB K n) its.toList ds)
      | _ => false)
    | _, _ => false
theorem kda_ok {K : PySem.W.Frag} : ∀ {n : Nat} {u : Value} {d : D}, kdaB K n u d = true → KDa K u d
  | 0, _, _, h => by cases h
  | n + 1, u, d, h => by
    have all : ∀ {us : List Value} {ds : List D}, all2 (kdaB K n) us ds = true → KDaL K us ds := by
      intro us
      induction us with
      | nil =>
        intro ds q
        cases ds with
        | nil => exact .nil
        | cons _ _ => cases q
      | cons u us ih =>
        intro ds q
        cases ds with
        | nil => cases q
        | cons d ds =>
          obtain ⟨q1, q2⟩ := Bool.and_eq_true_iff.mp (show (kdaB K n u d && all2 (kdaB K n) us ds) = true from q)
          exact .cons (kda_ok q1) (ih q2)
    unfold kdaB at h
    split at h
    · exact .non
    · have e := of_decide_eq_true h
      subst e
      exact .bl _
    · have e := of_decide_eq_true h
      subst e
      exact .int _ _
    · have e := of_decide_eq_true h
      subst e
      exact .str _ _
    · split at h
      · rename_i T dd its m sl e
        obtain ⟨h1, h2⟩ := Bool.and_eq_true_iff.mp h
        obtain ⟨h2, h3⟩ := Bool.and_eq_true_iff.mp h2
        have eT : T = "tuple" := of_decide_eq_true h1
        subst eT
        have hz : its.size ≤ sizeLine := by
          have := Nat.le_of_ble_eq_true h2
          rw [sizeLine_eq]
          omega
        exact .tup e hz (all h3)
      · cases h
    · cases h
def Fc.ok (K : PySem.W.Frag) : Fc → Bool
  | .no x => He.eqO (PySem.W.nsIn K mainGlobals x) (some none)
  | .ex x => (He.Fa.glo x).ok K && (He.Fa.exc x).ok K
  | .con x d => (match PySem.W.nsIn K mainGlobals x with
    | some (some u) => kdaB K 9 u d
    | _ => false)
  | .fn x => (He.Fa.glo x).ok K && ((He.Fa.keep x).ok K && (He.Fa.code (x, none) x).ok K)
  | .tz x => (match PySem.W.nsIn K mainGlobals x with
    | some (some (.ref a)) => (match K.lookup a with
      | some ⟨.type T, none, _, _⟩ => decide (T = "tuple")
      | _ => false)
    | _ => false)
/-- a dict whose keys are tuples of texts, as it was written -/
def KTab2 : Type := List (List Str × D)
def ketB (K : PySem.W.Frag) : List DictEntry → KTab2 → Bool := all2 fun e q => (match e.key with
  | .ref a => (match K.lookup a with
    | some ⟨.type T, _, .seq its _, _⟩ => decide (T = "tuple") && (Nat.ble its.size 1000 && (strsB q.1 its.toList && kdaB K 9 e.val q.2))
    | _ => false)
  | _ => false)
def kesB (K : PySem.W.Frag) : List DictEntry → KTab → Bool := all2 fun e q => (match e.key with
  | .str x _ => decide (x = q.1) && kdaB K 9 e.val q.2
  | _ => false)
theorem kes_ok {K : PySem.W.Frag} : ∀ {es : List DictEntry} {tb : KTab}, kesB K es tb = true → KEs K es tb
  | [], [], _ => .nil
  | [], _ :: _, h => by cases h
  | _ :: _, [], h => by cases h
  | ⟨hh, key, v⟩ :: es, (y, d) :: tb, h => by
    obtain ⟨h1, h2⟩ := Bool.and_eq_true_iff.mp h
    cases key with
    | str x t =>
      obtain ⟨h3, h4⟩ := Bool.and_eq_true_iff.mp h1
      have e : x = y := of_decide_eq_true h3
      subst e
      exact .cons (kda_ok h4) (kes_ok h2)
    | _ => cases h1
def dicAt (K : PySem.W.Frag) (x : Str) : Option (Array DictEntry) := match K.lookup (He.ga K x) with
  | some ⟨.type T, none, .dict es _, sl⟩ => (match decide (T = "dict") && (sl.isEmpty && !((He.ga K x) == sysModules)) with
    | true => some es
    | false => none)
  | _ => none
/-- a dict of the module whose values are its functions -/
def kefB (K : PySem.W.Frag) : List DictEntry → List (Str × Str) → Bool := all2 fun e q => (match e.key with
  | .str x _ => decide (x = q.1) && ((He.Fa.glo q.2).ok K && (match e.val with
    | .ref a => a == He.ga K q.2
    | _ => false))
  | _ => false)
/-- what is looked at -/
structure Spec1 where
  facts : List Fc
  fns : List He.FnD
  tds : List (Str × KTab)
  tts : List (Str × KTab2)
  tfs : List (Str × List (Str × Str))
abbrev Al1 : Type := Bool × List He.FnV × List (Option (List (Option (Str × Int)))) × List (Option (List Int))
def obsK (F : Spec1) (K : PySem.W.Frag) : Al1 :=
  (F.facts.all (Fc.ok K) && (F.tds.all (fun q => (He.Fa.glo q.1).ok K && (match dicAt K q.1 with
    | some es => kesB K es.toList q.2
    | none => false)) && F.tts.all (fun q => (He.Fa.glo q.1).ok K && (match dicAt K q.1 with
    | some es => ketB K es.toList q.2
    | none => false)) && F.tfs.all (fun q => (He.Fa.glo q.1).ok K && (match dicAt K q.1 with
    | some es => kefB K es.toList q.2
    | none => false))),
   F.fns.map (fun d => He.fnObs K d.at_), F.tds.map (fun q => (dicAt K q.1).map fun es => es.toList.map He.keyOf) ++ F.tfs.map (fun q => (dicAt K q.1).map fun es => es.toList.map He.keyOf), F.tts.map fun q => (dicAt K q.1).map fun es => es.toList.map (·.hash))
def valK (F : Spec1) (p : Program) (w : World) : Al1 :=
  (true, F.fns.map He.FnD.val, F.tds.map (fun q => some (He.keysIn w.params (q.2.map (·.1)))) ++ F.tfs.map (fun q => some (He.keysIn w.params (q.2.map (·.1)))), F.tts.map fun q => some (q.2.map fun z => (tk p w).hash (sks z.1)))
def addrs (n0 n : Nat) : List Addr := mainGlobals :: List.range' n0 (n - n0)
/-- the boot's objects that must stay -/
def keptL (n0 : Nat) (g : Addr → Option Obj) : List (Option Obj) := (List.range n0).map fun b => match b == mainNs || b == cStatics with
  | true => none
  | false => g b
theorem kept_ok {n0 : Nat} {g g' : Addr → Option Obj} (e : keptL n0 g = keptL n0 g') {b : Addr} (hb : b < n0) (h1 : b ≠ mainNs) (h2 : b ≠ cStatics) : g b = g' b := by
  have q := congrArg (fun l => l[b]?) e
  simp only [keptL, List.getElem?_map, List.getElem?_range hb, Option.map_some, Option.some.injEq] at q
  have z : (b == mainNs || b == cStatics) = false := by simp [h1, h2]
  rw [z] at q
  exact q
end HM
noncomputable section
namespace DL
open PySem PySem.Spec PyProof.Rows L2
abbrev KTab3 : Type := List (List Str × D)
structure KE2 (G : Gm) (e : DictEntry) (q : List Str × D) : Prop where
  ex : ∃ (a : Addr) (dd : Option Addr) (its : Array Value) (n : Nat) (sl : Array (Option Value)), e.key = .ref a ∧ G.K.lookup a = some ⟨.type "tuple", dd, .seq its n, sl⟩ ∧ HM.strsB q.1 its.toList = true
  val : KDa G.K e.val q.2
  hash : e.hash = (HM.tk G.P G.w).hash (HM.sks q.1)
inductive KEs2 (G : Gm) : List DictEntry → KTab3 → Prop
  | nil : KEs2 G [] []
  | cons {e : DictEntry} {q : List Str × D} {es : List DictEntry} {t : KTab3} (h : KE2 G e q) (r : KEs2 G es t) : KEs2 G (e :: es) (q :: t)
structure GlT (G : Gm) (x : Str) (t : KTab3) : Prop where
  ex : ∃ (d : Addr) (es : Array DictEntry) (n : Nat), G.mg x = some (.ref d) ∧ G.K.lookup d = some ⟨.type "dict", none, .dict es n, #[]⟩ ∧ (d == sysModules) = false ∧ KEs2 G es.toList t
  nd : (t.map (·.1)).Nodup
def strsOf : List D → Option (List Str)
  | [] => some []
  | .str x :: r => (strsOf r).map (x :: ·)
  | _ => none
def tgetD (t : KTab3) : D → Option D
  | .tuple ds => (strsOf ds).bind fun ks => t.lookup ks
  | _ => none
def tninD (t : KTab3) : D → Option Bool
  | .tuple ds => (strsOf ds).map fun ks => !(t.lookup ks).isSome
  | _ => none
def dTget (t : KTab3) (fb : Ev → Mn D) (ev : Ev) : Mn D := bnd (fb ev) fun y => lft (tgetD t y)
def dTnin (t : KTab3) (fb : Ev → Mn D) (ev : Ev) : Mn Bool := bnd (fb ev) fun y => lft (tninD t y)
/-- the entries as the dict's rule wants them -/
theorem KEs2.rows {G : Gm} {h : Heap} (kin : G.K.In h) : ∀ {es : List DictEntry} {t : KTab3}, KEs2 G es t → ∃ xs : List (List Key × Addr × Value), es = xs.map (entryOfKey (HM.tk G.P G.w)) ∧ (∀ x ∈ xs, (HM.tk G.P G.w).is h x.1 x.2.1) ∧ xs.map (·.1) = t.map (fun q => HM.sks q.1) ∧
      ∀ ks : List Str, (match List.lookup ks t with
        | some dd => ∃ p : Addr × Value, atKey xs (HM.sks ks) = some p ∧ KDa G.K p.2 dd
        | none => atKey xs (HM.sks ks) = none)
  | _, _, .nil => ⟨[], rfl, (fun _ m => by cases m), rfl, fun ks => rfl⟩
  | _, _, .cons (e := e) (q := q) (t := t) he r => by
    obtain ⟨xs, h1, h2, h3, h4⟩ := r.rows kin
    obtain ⟨⟨a, dd, its, n, sl, k1, k2, k3⟩, kv, kh⟩ := he
    refine ⟨(HM.sks q.1, a, e.val) :: xs, ?_, ?_, ?_, ?_⟩
    · rw [List.map_cons, h1]
      congr 1
      obtain ⟨eh, ek, ev⟩ := e
      cases k1
      cases kh
      rfl
    · intro x hx
      rcases List.mem_cons.mp hx with rfl | hx
      · exact ⟨_, its, n, kin _ _ k2, rfl, rfl, HM.strsB_ok k3⟩
      · exact h2 x hx
    · rw [List.map_cons, List.map_cons, h3]
    · intro ks
      by_cases hk : ks = q.1
      · subst hk
        have e1 : List.lookup q.1 (q :: t) = some q.2 := by
          obtain ⟨q1, q2⟩ := q
          simp [List.lookup]
        rw [e1]
        exact ⟨(a, e.val), by simp [atKey], kv⟩
      · have e1 : List.lookup ks (q :: t) = List.lookup ks t := by
          obtain ⟨q1, q2⟩ := q
          have b1 : (ks == q1) = false := by simpa using hk
          simp [List.lookup, b1]
        have e2 : atKey ((HM.sks q.1, a, e.val) :: xs) (HM.sks ks) = atKey xs (HM.sks ks) := by
          have ne : ¬ HM.sks q.1 = HM.sks ks := fun z => hk (HM.inj_sks z).symm
          simp [atKey, List.find?_cons, ne]
        rw [e1]
        have q' := h4 ks
        cases hl : List.lookup ks t with
        | some dd => rw [hl] at q'; rw [e2]; exact q'
        | none => rw [hl] at q'; rw [e2]; exact q'
theorem nodup_sks : ∀ {l : List (List Str)}, l.Nodup → (l.map HM.sks).Nodup := fun h => List.Pairwise.map _ (fun a b hab e => hab (HM.inj_sks e)) h
variable {G : Gm} {k : Nat} {sc : Sx} {N : List Str}
/-- the key that stands in the heap -/
theorem strs_items {P : Program} {w : World} {K : PySem.W.Frag} {M : Addr → Prop} {H : Hp} : ∀ {xs : List V} {ds : List D} {its : List Value} {ks : List Str}, DaL K M H xs ds → Vals xs its → strsOf ds = some ks → ItemsAre (mixKind P w) (HM.sks ks) its
  | _, _, _, ks, .nil, .nil, e => by cases e; exact .nil
  | _, _, _, ks, .cons h t, .cons r rs, e => by
    cases h with
    | str x =>
      replace e : (strsOf _).map (x :: ·) = some ks := e
      obtain ⟨ks', e1, rfl⟩ := Option.map_eq_some_iff.mp e
      exact .cons (kV_is (k := Sum.inr x) r) (strs_items t rs e1)
    | _ => cases e
theorem key_at {X : Cx} {pins : List (Addr × Obj)} {σ : L2.St} {H : Hp} {s : Shared} {M : Addr → Prop} {b : Addr} {xs : List V} {ds : List D} {ks : List Str} (I : Inv X pins σ H s) (h : SqT X.K H b xs) (t : DaL X.K M H xs ds) (e : strsOf ds = some ks) : (HM.tk X.prog X.w).is s.heap (HM.sks ks) b := by
  obtain ⟨its, rv, ⟨o, h1, h2, n, h3⟩, hz⟩ := I.tuple h
  refine ⟨o, its.toArray, n, h1, h2, h3, ?_⟩
  simpa using strs_items (P := X.prog) (w := X.w) t rv e
theorem dict_at {X : Cx} {pins : List (Addr × Obj)} {σ : L2.St} {H : Hp} {s : Shared} {x : Str} {t : KTab3} (g : Gd G k sc N X) (h : GlT G x t) (I : Inv X pins σ H s) : ∃ (d : Addr) (xs : List (List Key × Addr × Value)), G.mg x = some (.ref d) ∧ (d == sysModules) = false ∧ s.heap.DictOfH (HM.tk X.prog X.w) d xs ∧ ∀ ks : List Str, (match List.lookup ks t with
        | some dd => ∃ p : Addr × Value, atKey xs (HM.sks ks) = some p ∧ KDa G.K p.2 dd
        | none => atKey xs (HM.sks ks) = none) := by
  obtain ⟨d, es, n, h1, h2, h3, h4⟩ := h.ex
  have kin : G.K.In s.heap := by rw [← g.hK]; exact I.kIn
  obtain ⟨xs, a1, a2, a3, a4⟩ := h4.rows kin
  refine ⟨d, xs, h1, h3, ?_, a4⟩
  rw [g.hP, g.hw]
  refine ⟨_, es, n, kin _ _ h2, ⟨rfl, rfl, rfl⟩, rfl, a1, a2, ?_⟩
  rw [a3]
  have := nodup_sks h.nd
  rwa [List.map_map] at this
def rTget (G : Gm) (d : Addr) (t : KTab3) (M : Addr → Prop) : R2 := fun x y H Q => x = .ref d ∧ ∃ b xs ds ks dd, y = .ref b ∧ SqT G.K H b xs ∧ DaL G.K M H xs ds ∧ strsOf ds = some ks ∧ List.lookup ks t = some dd ∧ ∀ v, (∀ M H, Da G.K M H v dd) → Q v H
theorem E_tget {x : Str} {t : KTab3} {b : Expr} {fb : Ev → Mn D} {p p2 : Pos} (h : GlT G x t) (hb : SE G k sc N b fb) (hg : glB sc x = true := by rfl) (hdb : (x == ("__debug__" : Str)) = false := by decide) (hs : ∀ o i, subscripted b false o i = operate [o, i] (getItem o i) := by intro _ _; rfl) :
    SE G k sc N (.Subscript (.Name x p) b p2) (dTget t fb) := by
  obtain ⟨d, _, _, hd, _⟩ := h.ex
  refine e_one (rl := fun X y H Q => ∃ M, rTget G d t M (.ref d) y H Q) hb (fun X ta g hta => pe_imp (pe_ix (r := fun x y H Q => ∃ M, rTget G d t M x y H Q) ?_ (pe_glob (v := .ref d) (gl_of g hg) (by rw [g.hmg]; exact hd) rfl hdb) hta hs) fun σ H Q q => q) fun X M H y dy dd Q g ml hy e hq => ?_
  · intro value slice pins s σ H x y v u Q I rx ry ⟨M, e1, b, xs, ds, ks, dd, e2, q1, q2, q3, q4, q5⟩ hs'
    subst e1
    subst e2
    cases (show v = Value.ref d from rx)
    cases (show u = Value.ref b from ry)
    obtain ⟨d', zs, h1, h2, h3, h4⟩ := dict_at g h I
    rw [hd] at h1
    cases h1
    have z := h4 ks
    rw [q4] at z
    obtain ⟨p, z1, z2⟩ := z
    obtain ⟨v, r, a⟩ := z2.all
    refine tail_any h3.typeIs slot_dict_getitem.lookup (wpAny_getItem_heap (tupleKind_room_in1 (by have := g.room.un; omega)) (key_at I (by rw [g.hK]; exact q1) (by rw [g.hK]; exact q2) q3) h3 z1 ?_) hs'
    exact ⟨v, H, I.tok _, r, q5 v a⟩
  · cases hy with
    | tup h1 h2 =>
      obtain ⟨ks, e1, e2⟩ := Option.bind_eq_some_iff.mp (show (strsOf _).bind (fun ks => List.lookup ks t) = some dd from e)
      exact ⟨M, rfl, _, _, _, ks, dd, rfl, h1, h2, e1, e2, fun v a => hq v H (.refl _) (a M H)⟩
    | _ => cases e
def rTnin (G : Gm) (d : Addr) (t : KTab3) (M : Addr → Prop) : R2 := fun x y H Q => y = .ref d ∧ ∃ b xs ds ks, x = .ref b ∧ SqT G.K H b xs ∧ DaL G.K M H xs ds ∧ strsOf ds = some ks ∧ Q (.bl (!(List.lookup ks t).isSome)) H
theorem T_tnin {x : Str} {t : KTab3} {b : Expr} {fb : Ev → Mn D} {p p2 : Pos} (h : GlT G x t) (hb : SE G k sc N b fb) (hg : glB sc x = true := by rfl) (hdb : (x == ("__debug__" : Str)) = false := by decide) (hm : behindInMarks .NotIn (.Name x p) = false := by rfl) :
    ST G k sc N (.Compare b [.NotIn] [.Name x p] p2) (dTnin t fb) := fun X W g tk => by
  obtain ⟨d, _, _, hd, _⟩ := h.ex
  have op : OpR X (compareOp .NotIn) (fun x y H Q => ∃ M, rTnin G d t M x y H Q) := by
    intro pins s σ H x y v u Q I rx ry ⟨M, e1, b, xs, ds, ks, e2, q1, q2, q3, q5⟩
    subst e1
    subst e2
    cases (show u = Value.ref d from ry)
    cases (show v = Value.ref b from rx)
    obtain ⟨d', zs, h1, h2, h3, h4⟩ := dict_at g h I
    rw [hd] at h1
    cases h1
    have z := h4 ks
    refine wpAny_notIn_heap (tupleKind_room_in1 (by have := g.room.un; omega)) (key_at I (by rw [g.hK]; exact q1) (by rw [g.hK]; exact q2) q3) h2 h3 ?_
    have e : (atKey zs (HM.sks ks)).isSome = (List.lookup ks t).isSome := by
      cases hl : List.lookup ks t with
      | some dd => rw [hl] at z; obtain ⟨p, z1, z2⟩ := z; rw [z1]; rfl
      | none => rw [hl] at z; rw [z]; rfl
    rw [e]
    exact ⟨.bl (!(List.lookup ks t).isSome), H, I.tok _, rfl, q5⟩
  refine pt_imp (pt_cmpR op (hb X W g tk) (pe_glob (v := .ref d) (gl_of g hg) (by rw [g.hmg]; exact hd) rfl hdb) hm) fun σ H Q h => ?_
  obtain ⟨M, r, ev, rs, R, o, rs', e, w⟩ := h
  refine tE_bnd R e w fun y rs1 H1 v R1 s1 d1 e1 w1 => ?_
  obtain ⟨c, e3, rfl, rfl⟩ := lft_some e1
  cases d1 with
  | tup h1 h2 =>
    obtain ⟨ks, e1, e2⟩ := Option.map_eq_some_iff.mp (show (strsOf _).map (fun ks => !(List.lookup ks t).isSome) = some c from e3)
    exact ⟨M, rfl, _, _, _, ks, rfl, h1, h2, e1, _, rfl, by rw [e2]; exact w1 H1 (.refl _) R1.row⟩
  | _ => cases e3
end DL
noncomputable section
namespace DL
open PySem PySem.Spec PyProof.Rows L2
variable {G : Gm} {k : Nat} {sc : Sx} {N : List Str}
/-- a, b = x.pop(): the last item, a tuple, in two names -/
def popT (t : Tgt) (i : Nat) (ev : Ev) : Option (List D × List D) := (getO ev i).bind fun ds => (ds[ds.length - 1]?).bind fun d => (t.of d).map fun es => (ds.dropLast, es)
def sPopT (t : Tgt) (i : Nat) (ev : Ev) : Ms := bnS (lft (popT t i ev)) fun q rs => some (.nx (setE (ev.set i (.own q.1)) t.ix q.2), rs)
theorem s_popT (t : Tgt) (i : Nat) {x : Str} {tg : Expr} {p1 p2 p3 p4 : Pos} (ht : PGt G k sc N tg t) (hi : N[i]? = some x := by rfl) (hv : visB sc x = true := by rfl) (hd : (x == ("__debug__" : Str)) = false := by decide) (hcd : (x == ("__classdict__" : Str)) = false := by decide)
    (hs : ∀ env, swapsWithSole [tg] (.Call (.Attribute (.Name x p1) "pop" p2) [] [] p3) p4.line env = pure false := by intro _; rfl) (hw : ∀ env, env.scope = sc.sc → swappedStores [tg] (.Call (.Attribute (.Name x p1) "pop" p2) [] [] p3) env = pure none := by intro env h; first | rfl | (cases env; cases h; rfl))
    (h1 : ∀ env, (assignEach [tg] env).map (·.2) = [assign tg env] := by intro _; rfl) (hl : (p2.endLine == p3.line) = true := by rfl) :
    SS G k sc N (.Assign [tg] (.Call (.Attribute (.Name x p1) "pop" p2) [] [] p3) p4) (sPopT t i) := fun X W g tk po => by
  obtain ⟨u, hu1, hu2⟩ := ht
  refine ps_imp (ps_asg (pe_bm0 PySem.F.plainAttrs_list PySem.F.slot_list_pop PySem.F.type_list_pop mt_pop (pe_at g hi hv hd hcd) (by rfl) hl) (hu1 X g) (hs _) (hw _ g.hsc) (h1 _)) fun D σ H h => ?_
  obtain ⟨M, r, Pr, ev, rs, oa, R, o, rs', e, w⟩ := h
  rcases bnS_some e with ⟨q, rs1, e1, e2⟩ | ⟨_, _, e1, rfl⟩
  · cases e2
    obtain ⟨q', e3, e4, rfl⟩ := lft_some e1
    cases e4
    obtain ⟨ds, hg, e5⟩ := Option.bind_eq_some_iff.mp e3
    obtain ⟨d, hz, e6⟩ := Option.bind_eq_some_iff.mp e5
    obtain ⟨es, he, e7⟩ := Option.map_eq_some_iff.mp e6
    cases e7
    obtain ⟨xs, a1, a2, a3, a5⟩ := R.at1 hg
    obtain ⟨v, hv, dv⟩ := a3.get_last hz
    refine ⟨_, a1, .inl ⟨rfl, _, .of a2⟩, _, xs, v, rfl, rfl, a2, hv, ?_⟩
    have R' := R.mutL (getO_some hg) a3.dropLast
    have io : isOwn ev i := ⟨ds, getO_some hg⟩
    have kp : Kp (Av M ev oa) H (upd H (oa i) (.lst xs.dropLast)) := fun b o n e => by rw [upd_ne fun z => n (.inr ⟨i, io, z⟩)]; exact e
    have sub : ∀ b, Av M (ev.set i (.own ds.dropLast)) oa b → Av M ev oa b := fun b m => m.elim .inl fun ⟨j', ⟨fs, o⟩, e⟩ => by
      by_cases hj : i = j'
      · subst hj; exact .inr ⟨i, io, e⟩
      · rw [List.getElem?_set_ne hj] at o; exact .inr ⟨j', ⟨fs, o⟩, e⟩
    exact hu2 _ _ _ _ _ _ _ ((dv.kp R.e.ml kp).sub sub) he fun vs hvs => w _ _ oa (R'.setL hvs)
  · obtain ⟨_, _, e4, _⟩ := lft_some e1
    cases e4
end DL
namespace DL
open PySem PySem.Spec PyProof.Rows L2
theorem meets_enumT {v : Value} {o : Obj} {Hh : Heap → Prop} (B : Begins v o Hh) :
    Meets (Builtin.«enumerate.__new__» ⟨[.type "enumerate", v], []⟩) (fun _ Rr s => Hh s.heap ∧ Rr (.ok (.ret (.ref (s.heap.push o).objs.size))) { s with heap := (s.heap.push o).push { cls := .type "enumerate", data := .fields #[.none, .bool false, .ref s.heap.objs.size, rawInt 0, .none, .none] } }) :=
  .of_wp fun prog w A Rr s h => by
    obtain ⟨hp, g0, d0, tk0, os0⟩ := s
    obtain ⟨b1, h⟩ := h
    have hsub0 := sub_enumerate
    have itr : ∀ {A' : Around} {E' : Value → Shared → Prop} {Q' : Value → Shared → Prop}, Q' (.ref hp.objs.size) ⟨hp.push o, g0, d0, tk0, os0⟩ → wpAny (model prog w) A' (pyIter v) Q' E' ⟨hp, g0, d0, tk0, os0⟩ := fun q => B.iter prog w _ _ ⟨hp, g0, d0, tk0, os0⟩ _ b1 q
    wp_walk using itr
    refine wpAny_stack_any fun st0 => wpAny_pure ?_
    split
    · rename_i c0 _ _ _ _ _
      cases (c0 == Value.type "enumerate")
      · wp_walk using itr
        exact ⟨_, rfl, h⟩
      · wp_walk using itr
        exact ⟨_, rfl, h⟩
    · wp_walk using itr
      exact ⟨_, rfl, h⟩
theorem call_enumT {prog : Program} {w : World} {A : Around} {E : Value → Shared → Prop} {s : Shared} {v : Value} {o : Obj} {Hh : Heap → Prop} {Q : Value → Shared → Prop} (B : Begins v o Hh) (b1 : Hh s.heap)
    (h : ∀ h', IsEnum h' (s.heap.objs.size + 1) s.heap.objs.size 0 .none → h'.get? s.heap.objs.size = some o → (∀ b ob, s.heap.get? b = some ob → h'.get? b = some ob) → Q (.ref (s.heap.objs.size + 1)) { s with heap := h' }) :
    wpAny (model prog w) A (call (.type "enumerate") [v]) Q E s := by
  refine callType_new F.called_enumerate (by decide) (F.typeCall_enumerate_1 _) (F.newCall_enumerate_1 _) (fun ob => F.args_object_init_2 ob _) F.entry_enumerate_new (meets_enumT B) ⟨b1, ?_⟩
  have sz1 : (s.heap.push o).objs.size = s.heap.objs.size + 1 := Heap.size_push ..
  show _ ∧ _
  rw [sz1]
  generalize hE : ({ cls := .type "enumerate", data := .fields #[.none, .bool false, .ref s.heap.objs.size, rawInt 0, .none, .none] } : Obj) = oE
  have fE : oE.isFreed = false := by rw [← hE]; rfl
  have he0 := Heap.get?_push_size (s.heap.push o) (o := oE) fE
  rw [sz1] at he0
  have he : IsEnum ((s.heap.push o).push oE) (s.heap.objs.size + 1) s.heap.objs.size 0 .none := by rw [IsEnum, he0, ← hE]
  exact ⟨⟨_, he, rfl⟩, h _ he (Heap.get?_push_of_some _ (Heap.get?_push_size _ B.free)) fun b ob x => Heap.get?_push_of_some _ (Heap.get?_push_of_some _ x)⟩
/-- the tuple at a, each item in a new pair with its number -/
def IteT (K : PySem.W.Frag) (a : Addr) : It :=
  ⟨fun i H => ∃ (ys : List V) (y : V), SqT K H a ys ∧ ys[i]? = some y,
   fun i H v H' => ∃ T y, v = .ref T ∧ H T = none ∧ H' = upd H T (.tup [.int (i : Nat), y]) ∧ ∀ ys, SqT K H a ys → ys[i]? = some y,
   fun i H => ∃ ys : List V, SqT K H a ys ∧ ys.length = i⟩
theorem turn_enumT {P : Program} {w : World} {K : PySem.W.Frag} {elts : List Expr} {kk : Nat} {tpos : Pos} (a e it : Addr) :
    Turn P w K (.Tuple elts kk tpos) (IteT K a) [e, it] e (fun i h => (∃ old, IsEnum h e it ((i : Nat) : Int) old) ∧ h.IsTupleIter it a i ∧ e ≠ it ∧ e ≠ a ∧ a ≠ it) where
  mem := by simp
  obj := fun i h st b hb => by
    obtain ⟨⟨old, en⟩, ⟨o, ho, hc, hd⟩, _⟩ := st
    rcases (show b = e ∨ b = it by simpa using hb) with z | z
    · rw [z]; exact ⟨_, en, fun v q => nomatch q⟩
    · rw [z]; exact ⟨o, ho, fun v q => by rw [hd] at q; cases q⟩
  keep := fun i h h' st kp => let ⟨⟨old, en⟩, ti, ne⟩ := st; ⟨⟨old, kp e (by simp) _ en⟩, ti.at fun o q => kp it (by simp) o q, ne⟩
  item := by
    intro X hP hw hK hc i pins s σ H E I hf st hg
    subst hP hw hK
    obtain ⟨⟨old, en⟩, ti, n1, n2, n3⟩ := st
    obtain ⟨ys, y, hq, hy⟩ := hg
    obtain ⟨its, rv, p, hz⟩ := I.tuple hq
    obtain ⟨u, hu, ru⟩ := rv.get hy
    have el : e < s.heap.objs.size := Heap.lt_size en
    have il : it < s.heap.objs.size := by obtain ⟨_, q, _⟩ := ti; exact Heap.lt_size q
    have lt : i < its.toArray.size := by
      have := (List.getElem?_eq_some_iff.mp hu).1
      simpa using this
    have pt : s.heap.IsTuple a its.toArray := p
    have DD : Draws X.prog X.w X.A.in1 it [it, a] its.toArray.size (fun i v => its.toArray[i]? = some v) (fun i h => h.IsTupleIter it a i ∧ h.IsTuple a its.toArray) := Draws.tuple (show X.A.in1.handled = none from I.ok.hd hc) it a n3 its.toArray
    refine wpAny_pyNext_enum_itemD DD en ⟨ti, pt⟩ lt n1 (by simp [n1, n2]) fun x h' tk hx ho st' hT hsz hk => ?_
    have ex : x = u := by
      have hx' : its.toArray[i]? = some x := hx
      have hu' : its.toArray[i]? = some u := by simpa using hu
      rw [hx'] at hu'; cases hu'; rfl
    subst ex
    refine ⟨_, rfl, wpAny_letOwnedTupleGo_enum (s := { s with heap := h', toks := tk + 1 }) ho fun h'' en' sb => ?_⟩
    have hT2 : h''.get? s.heap.objs.size = some { cls := .type "tuple", data := .seq #[.int i tk, x] } := (sb.2 _ (Nat.ne_of_gt el)).trans hT
    have new : ObjOk X.prog X.w (upd H s.heap.objs.size (.tup [.int (i : Nat), y])) h'' s.heap.objs.size (.tup [.int (i : Nat), y]) := ⟨by show 2 ≤ sizeLine; decide, [.int i tk, x], .cons ⟨_, rfl⟩ (.cons ru .nil), ⟨_, hT2, rfl, _, rfl⟩⟩
    have I1 : Inv X pins σ (upd H s.heap.objs.size (.tup [.int (i : Nat), y])) { s with heap := h'', toks := tk + 1 } :=
      I.turnedNew (ch := [e, it]) (fun b ob hb q => (sb.2 b (fun z => hb (by simp [z]))).trans (hk b ob (fun z => hb (by simp [z])) (fun z => hb (by simp [z])) q)) hf (Nat.le_refl _) new
    refine ⟨.ref s.heap.objs.size, _, I1, rfl, ⟨_, y, rfl, I.hok.fresh (Nat.le_refl _), rfl, fun zs hzs => by rw [I.tuple_inj hzs hq]; exact hy⟩, ⟨⟨x, ?_⟩, st'.1.at fun o q => (sb.2 it (Ne.symm n1)).trans q, n1, n2, n3⟩, fun b hb => ?_⟩
    · rw [show ((i + 1 : Nat) : Int) = (i : Int) + 1 by omega]; exact en'
    · have lb : b < s.heap.objs.size := by
        rcases (show b = e ∨ b = it by simpa using hb) with z | z
        · rw [z]; exact el
        · rw [z]; exact il
      rw [upd_ne (Nat.ne_of_lt lb)]
      exact (hf b hb).1
  done := by
    intro X hP hw hK hc i pins s σ H E I hf st hg
    subst hP hw hK
    obtain ⟨⟨old, en⟩, ti, n1, n2, n3⟩ := st
    obtain ⟨ys, hq, hy⟩ := hg
    obtain ⟨its, rv, p, hz⟩ := I.tuple hq
    obtain ⟨f0, f1, f2, f3, f4, f5⟩ := hf it (by simp)
    have pt : s.heap.IsTuple a its.toArray := p
    have ln : i = its.toArray.size := by
      have := rv.length
      simp; omega
    subst ln
    have DD : Draws X.prog X.w X.A.in1 it [it, a] its.toArray.size (fun i v => its.toArray[i]? = some v) (fun i h => h.IsTupleIter it a i ∧ h.IsTuple a its.toArray) := Draws.tuple (show X.A.in1.handled = none from I.ok.hd hc) it a n3 its.toArray
    exact wpAny_pyNext_enum_endD DD en ⟨ti, pt⟩ fun h' eb => ⟨rfl, I.turned (t' := s.toks) (fun b o hb q => eb b o hb q) f0 f1 f3 f4 f5⟩
  self := fun A i s Q E st h => let ⟨⟨_, en⟩, _⟩ := st; wpAny_pyIter_enum en h
def iEnumT (K : PySem.W.Frag) (ta : TA) : TI := fun σ H R => ta σ H fun vs H1 => ∃ a ys, vs = [.ref a] ∧ SqT K H1 a ys ∧ R (IteT K a) H1
theorem pi_enumT {X : Cx} {e : Expr} {ta : TA} {p pos tpos : Pos} {elts : List Expr} {kk : Nat} (hg : Gl X "enumerate") (hm : X.mg "enumerate" = none) (ha : PA X [e] ta) (hs : starEach [e] X.env = [(false, eval e X.env)] := by rfl) :
    PI X (.Tuple elts kk tpos) (.Call (.Name "enumerate" p) [e] [] pos) (iEnumT X.K ta) := by
  refine ⟨fun pins s σ H R I h => ?_⟩
  refine Call_ (ld_blt I hg hm boot_enumerate (PyProof.Rows.callWith_type1 (thn (ha.run pos pins s σ H _ I h) fun us s1 ⟨vs, H1, I1, r1, q1⟩ => ?_) hs rfl))
  obtain ⟨a, ys, ex, hq, q⟩ := q1
  subst ex
  cases r1 with
  | cons r rr =>
    cases rr
    cases r
    obtain ⟨its, rv, pp, hz⟩ := I1.tuple hq
    have pt : s1.heap.IsTuple a its.toArray := pp
    have la : a < s1.heap.objs.size := by obtain ⟨_, z, _⟩ := pt; exact Heap.lt_size z
    refine call_enumT (begins_tuple a its.toArray) pt fun h' en ti hk => wpAny_pyIter_enum en ?_
    have I2 : Inv X pins σ H1 { s1 with heap := h' } := I1.kept (t' := s1.toks) hk
    refine ⟨s1.heap.objs.size + 1, [s1.heap.objs.size + 1, s1.heap.objs.size], _, _, H1, rfl, I2, turn_enumT a (s1.heap.objs.size + 1) s1.heap.objs.size, ⟨⟨.none, en⟩, ⟨_, ti, rfl, rfl⟩, Nat.succ_ne_self _, Nat.ne_of_gt (Nat.lt_succ_of_lt la), Nat.ne_of_lt la⟩, fun b hb => ?_, q⟩
    have lb : s1.heap.objs.size ≤ b := by
      rcases (show b = s1.heap.objs.size + 1 ∨ b = s1.heap.objs.size by simpa using hb) with z | z
      · rw [z]; exact Nat.le_add_right _ _
      · rw [z]; exact Nat.le_refl _
    exact I1.fpOk lb (I1.hok.fresh lb)
section
variable {K : PySem.W.Frag} {M M' : Addr → Prop} {H H1 H' : Hp} {G : Gm} {k : Nat} {sc : Sx} {N : List Str}
def enumTD : List D → Option (List D)
  | [.tuple xs] => some (((List.range xs.length).zip xs).map fun p => .tuple [.int (p.1 : Nat), p.2])
  | _ => none
theorem jok_enumT {a : Addr} {vs : List V} {xs : List D} (ml : Ml M H1) (h : SqT K H1 a vs) (t : DaL K M H1 vs xs) :
    JOk K M (IteT K a) H1 (((List.range xs.length).zip xs).map fun p => .tuple [.int (p.1 : Nat), p.2]) where
  go := fun H' kp i d e => by
    obtain ⟨x, e1, rfl⟩ := enum_get e
    obtain ⟨v, h1, _⟩ := t.get e1
    exact ⟨vs, v, sqt_kp h ml kp, h1⟩
  yld := fun M' H' kp m i d x H'' e y => by
    obtain ⟨dx, e1, rfl⟩ := enum_get e
    obtain ⟨T, v, rfl, nn, e3, q1⟩ := y
    exact new_pair nn e3 (.int _) ((t.get' (q1 _ (sqt_kp h ml kp)) e1).on ml m kp)
  stop := fun H' kp => ⟨vs, sqt_kp h ml kp, by rw [t.length, List.length_map, List.length_zip, List.length_range]; omega⟩
theorem i_enumT {a : Expr} {f : Ev → Mn (List Slot)} {es : List Expr} {j : Nat} {tp p pos : Pos} (h : SA G k sc N [a] f) (hm : Mg0 G "enumerate") (hg : glB sc "enumerate" = true := by rfl) (hs : ∀ env, starEach [a] env = [(false, eval a env)] := by intro _; rfl) :
    SI G k sc N (.Tuple es j tp) (.Call (.Name "enumerate" p) [a] [] pos) (dRng enumTD f) := fun X W g tk => by
  refine pi_imp (pi_enumT (gl_of g hg) (by rw [g.hmg]; exact hm) (h X W g tk) (hs _)) fun σ H Q h => ?_
  obtain ⟨M, r, ev, rs, R, o, rs', e, w⟩ := h
  refine tAr_bnd R e w fun ss rs1 H1 vs R1 s1 d1 e1 w1 => ?_
  obtain ⟨ds, e3, rfl, rfl⟩ := lft_some e1
  obtain ⟨as, q, e4⟩ := Option.bind_eq_some_iff.mp e3
  rw [g.hK]
  unfold enumTD at e4
  split at e4
  · cases e4
    obtain ⟨v, rfl, h1⟩ := one_da (d1.dats q)
    cases h1 with
    | tup q1 t1 => exact ⟨_, _, rfl, q1, w1 H1 (.refl _) R1.row R1.ml _ (jok_enumT R1.ml q1 t1)⟩
  · cases e4
end
end DL
namespace DL
open PySem PySem.Spec PyProof.Rows L2
end DL
namespace DL
open PySem PySem.Spec PyProof.Rows L2
section
variable {ev : Ev}
@[simp] theorem dTget_eq (t : KTab3) (f : Ev → Mn D) : dTget t f ev = bnd (f ev) fun y => lft (tgetD t y) := rfl
@[simp] theorem dTnin_eq (t : KTab3) (f : Ev → Mn D) : dTnin t f ev = bnd (f ev) fun y => lft (tninD t y) := rfl
@[simp] theorem sPopT_eq (t : Tgt) (i : Nat) : sPopT t i ev = bnS (lft (popT t i ev)) fun q => nxM (setE (ev.set i (.own q.1)) t.ix q.2) := rfl
@[simp] theorem dLast_eq (e : Ev → Mn D) : dLast e ev = bnd (nox (e ev)) fun x => pur [x] := rfl
@[simp] theorem dMid_eq (src : Ev → Mn (List D)) (vs : List Nat) (rest : Ev → Mn (List D)) (t : Tgt) (c : Ev → Mn Bool) : dMid src vs rest t c ev = bnd (nox (src ev)) fun ds => gnGo rest t c (wipeE ev vs) ds := rfl
@[simp] theorem dCompN_eq (own : List Nat) (src rest : Ev → Mn (List D)) (t : Tgt) (c : Ev → Mn Bool) : dCompN own src rest t c ev = bnd (src ev) fun ds => bnd (gnGo rest t c (wipeE ev own) ds) fun out => lft (if out.length ≤ sizeLine then some (.list out) else none) := rfl
@[simp] theorem gnGo_nil (rest : Ev → Mn (List D)) (t : Tgt) (c : Ev → Mn Bool) : gnGo rest t c ev [] = pur [] := rfl
end
end DL
namespace DL
open PySem PySem.Spec PyProof.Rows L2
section
variable {G : Gm} {k : Nat} {sc : Sx} {N : List Str}
/-- x = [.. for ..] on one line, x a plain local -/
theorem P_setLc (i : Nat) {x : Str} {elt tg iter : Expr} {ifs : List Expr} {scope : Scope} {pos p p' : Pos} {fi : Ev → Mn (List D)} {t : Tgt} {fc : Ev → Mn Bool} {fe : Ev → Mn D} (own : List (Str × Nat)) (hi0 : SI G k sc N tg iter fi) (ht : PGt G k (sc.blk scope) N tg t) (hc : SP1 G k (sc.blk scope) N ifs fc) (he : SE G k (sc.blk scope) N elt fe)
    (hb : blkC N sc.sc scope own = true := by decide +kernel) (hix : ∀ i ∈ t.ix, i ∈ own.map (·.2) := by decide) (hi : N[i]? = some x := by rfl) (hl : plocB sc x = true := by rfl) (hkind : sc.sc.kind = .function := by rfl) (hline : (p'.line == pos.line) = true := by rfl) (hno : (scope.names.any fun (n, k) => n == x && (k == .local || k == .cell)) = false := by decide +kernel)
    (hs : ∀ env x, foldedSetIterable iter env x = pure x := by intro _ _; rfl) :
    SS G k sc N (.Assign [.Name x p'] (.ListComp elt [⟨tg, iter, ifs, 0⟩] scope pos) p) (pSet i (dComp (own.map (·.2)) fi t fc fe)) := fun X W g tk po => by
  have ok : BlkOk X.N X.env.scope scope own := by
    rw [g.hN, g.hsc]
    exact blkOk_by hb
  have nd : X.N.Nodup := by rw [g.hN]; exact g.nd
  obtain ⟨u, hu1, hu2⟩ := ht
  have pl : X.env.scope.names.lookup x = some .local := ploc_of g hl
  refine ps_imp (ps_setLc (i := i) (own := own) g.calm nd (by rw [g.hN]; exact hi) pl (sw_true (by rw [g.hsc]; exact hkind) pl hline hno) (hi0 X W g tk) ok (fun s H C cl fp => hu1 _ (g.blk s H scope cl C fp)) (fun s H C cl fp => hc _ W0 (g.blk s H scope cl C fp) L2.takes0) (fun s H C cl fp => he _ W0 (g.blk s H scope cl C fp) L2.takes0) (hs _)) fun D σ H h => ?_
  refine lc_imp (W := W) g hu2 hix _ _ _ ?_
  obtain ⟨M, r, Pr, ev, rs, oa, R, o, rs', e, w⟩ := h
  rcases bnS_some e with ⟨d, rs1, e1, e2⟩ | ⟨x, j, e1, rfl⟩
  · cases e2
    exact R.evE R.e (fun b m => .inl m) e1 (fun d' ed v H' R' s dv => by cases ed; exact w _ _ oa (R'.set1 dv)) fun _ _ ed => by cases ed
  · exact R.evE R.e (fun b m => .inl m) e1 (fun _ ed => by cases ed) fun y j ed => by cases ed; exact w
end
end DL
namespace DL
open PySem PySem.Spec PyProof.Rows L2
section
end
section
end
end DL
namespace DL
open PySem PySem.Spec PyProof.Rows L2
section
end
end DL
namespace DL
open PySem PySem.Spec PyProof.Rows L2
section
end
section
end
end DL
namespace DL
open PySem PySem.Spec PyProof.Rows L2
section
end
/-- what the data say of a dict -/
def IsDc (K : PySem.W.Frag) (H : Hp) (a : Addr) (ps : List Rk) : Prop := H a = some (dctO a ps) ∧ (∀ p ∈ ps, SqT K H p.2.1 (p.1.map lfV) ∧ p.1.all lfN = true) ∧ (ps.map (·.1)).Nodup
section
end
section
end
/-- the leaves of a flat tuple without texts -/
def lvs : List D → Option (List Leaf)
  | [] => some []
  | .none :: ds => (lvs ds).map (.none :: ·)
  | .int i :: ds => (lvs ds).map (.num i :: ·)
  | _ :: _ => none
/-- the keys of a dict, its values -/
def kvP : List (D × D) → Option (List (List Leaf × Int))
  | [] => some []
  | (.tuple ds, .int i) :: r => (lvs ds).bind fun ks => (kvP r).map ((ks, i) :: ·)
  | _ :: _ => none
def getKv (kv : List (List Leaf × Int)) (ks : List Leaf) : Option Int := (kv.find? fun p => decide (p.1 = ks)).map (·.2)
def getKD (x y z : D) : Option D := match x, y with
  | .dict kvs, .tuple ds => (kvP kvs).bind fun kv => (lvs ds).map fun ks => ((getKv kv ks).map PyData.int).getD z
  | _, _ => none
def isDct : D → Bool
  | .dict ((.str _, _) :: _) => false
  | .dict ((_, .none) :: _) => false
  | .dict _ => true
  | _ => false
def dGetK (fo fe ff : Ev → Mn D) (ev : Ev) : Mn D := bnd (fo ev) fun x => if isDct x = true then bnd (fe ev) fun y => bnd (ff ev) fun z => lft (getKD x y z) else fun _ => none
section
end
end DL
namespace DL
open PySem PySem.Spec PyProof.Rows L2
section
end
section
end
end DL
namespace DL
open PySem PySem.Spec PyProof.Rows L2
abbrev Kc := List Leaf × Int
def stK (kv : List Kc) (k : List Leaf) (i : Int) : List Kc := if (getKv kv k).isSome then kv.map (fun p => if p.1 = k then (p.1, i) else p) else kv ++ [(k, i)]
def addK (kv : List Kc) (k : List Leaf) : List Kc := stK kv k ((getKv kv k).getD 0 + 1)
def cntK (rows : List (List Leaf)) : List Kc := rows.foldl addK []
def strip (p : Rk) : Kc := (p.1, p.2.2)
def kcD (p : Kc) : D × D := (.tuple (p.1.map lfD), .int p.2)
end DL
namespace DL
open PySem PySem.Spec PyProof.Rows L2
section
variable {G : Gm} {k : Nat} {sc : Sx}
/-- the loop's state: i rows are counted -/
structure CntAt (K : PySem.W.Frag) (H0 : Hp) (a : Addr) (rows : List (List Leaf)) (i : Nat) (σ : L2.St) (H : Hp) (ps : List Rk) : Prop where
  same : Same H0 H
  at_ : H a = some (dctO a ps)
  keys : ∀ p ∈ ps, SqT K H0 p.2.1 (p.1.map lfV) ∧ p.1.all lfN = true
  nd : (ps.map (·.1)).Nodup
  is : ps.map strip = cntK (rows.take i)
  len : ps.length ≤ i
  var : σ[1]? = some (some (.ref a))
  sz : 2 < σ.length
theorem CntAt.dc {K : PySem.W.Frag} {H0 : Hp} {a : Addr} {rows : List (List Leaf)} {i : Nat} {σ : L2.St} {H : Hp} {ps : List Rk} (c : CntAt K H0 a rows i σ H ps) : IsDc K H a ps :=
  ⟨c.at_, fun p hp => ⟨sqt_same c.same (c.keys p hp).1, (c.keys p hp).2⟩, c.nd⟩
theorem CntAt.da {K : PySem.W.Frag} {M : Addr → Prop} {H0 : Hp} {a : Addr} {rows : List (List Leaf)} {σ : L2.St} {H : Hp} {ps : List Rk} (c : CntAt K H0 a rows rows.length σ H ps) : Da K M H (.ref a) (.dict ((cntK rows).map kcD)) := by
  have e : (cntK rows).map kcD = ps.map rkD := by
    rw [← List.take_length (l := rows), ← c.is, List.map_map]
    rfl
  rw [e]
  exact .dct c.at_ c.dc.2.1 c.nd
end
end DL
namespace DL
open PySem PySem.Spec PyProof.Rows L2
section
end
end DL
namespace DL
open PySem PySem.Spec PyProof.Rows L2
section
variable {G : Gm} {k : Nat} {sc : Sx} {N : List Str}
def dStar (f : Ev → Mn D) (g : Ev → Mn (List Slot)) (ev : Ev) : Mn (List Slot) := bnd (f ev) fun x => bnd (lft (itmD x)) fun ds => bnd (g ev) fun ss => pur (ds.map .dat ++ ss)
theorem argl_app {K : PySem.W.Frag} {M : Addr → Prop} {r : Rw} {H : Hp} : ∀ {xs vs : List V} {ds : List D} {ss : List Slot}, DaL K M H xs ds → ArgL K M r H vs ss → ArgL K M r H (xs ++ vs) (ds.map .dat ++ ss)
  | _, _, _, _, .nil, q => q
  | _, _, _, _, .cons h t, q => .dat h (argl_app t q)
theorem a_star {e : Expr} {es : List Expr} {p : Pos} {f : Ev → Mn D} {g : Ev → Mn (List Slot)} (h : SE G k sc N e f) (ht : SA G k sc N es g) (hs : ∀ env, starEach (.Starred e p :: es) env = (true, eval e env) :: starEach es env := by intro _; rfl) : SA G k sc N (.Starred e p :: es) (dStar f g) := fun X W gd tk => by
  refine pa_imp (StX.pa_star (h X W gd tk) (ht X W gd tk) (hs _)) fun σ H Q h => ?_
  obtain ⟨M, r, ev, rs, R, o, rs', e, w⟩ := h
  refine tE_bnd R e w fun x rs1 H1 v R1 s1 d1 e1 w1 => ?_
  rcases bnd_some e1 with ⟨ds, rs2, e2, e3⟩ | ⟨y, j, e2, rfl⟩
  · obtain ⟨ds', e4, e5, rfl⟩ := lft_some e2
    cases e5
    have go : ∀ {xs : List V}, DaL G.K M H1 xs ds → tAr G.K G.mg W g σ H1 fun ys H2 => Q (xs ++ ys) H2 := fun {xs} t => by
      refine tAr_bnd R1 e3 w1 fun ss rs3 H3 vs R3 s3 d3 e6 w3 => ?_
      cases e6
      exact w3 H3 (.refl _) R3.row _ (argl_app (t.kp R1.ml (s3.kp R.mr)) d3)
    cases d1 with
    | lst h n t => cases e4; exact ⟨_, _, rfl, .inr (by rw [gd.hK]; exact .of h), go t⟩
    | tup h t => cases e4; exact ⟨_, _, rfl, .inl (by rw [gd.hK]; exact h), go t⟩
    | _ => cases e4
  · obtain ⟨_, _, e5, _⟩ := lft_some e2
    cases e5
end
end DL
namespace DL
open PySem PySem.Spec PyProof.Rows L2
section
end
end DL
namespace DL
open PySem PySem.Spec PyProof.Rows L2
section
end
end DL
namespace DL
open PySem PySem.Spec PyProof.Rows L2
section
end
end DL
namespace DL
open PySem PySem.Spec PyProof.Rows L2
section
variable {G : Gm} {k : Nat} {sc : Sx} {N : List Str}
/-- the targets x[..], x[..] -/
inductive PTs (G : Gm) (k : Nat) (sc : Sx) (N : List Str) (x : Str) : List Expr → List (Ev → Mn D) → Prop
  | nil : PTs G k sc N x [] []
  | cons {ke : Expr} {p1 p2 : Pos} {fk : Ev → Mn D} {es : List Expr} {fks : List (Ev → Mn D)} (h : SE G k sc N ke fk) (t : PTs G k sc N x es fks)
    (ha : ∀ env v, assign (.Subscript (.Name x p1) ke p2) env v = (do
      let ov ← holding [v] (eval (.Name x p1) env); let iv ← holding [v, ov] (eval ke env); standAt p2; holding [v, ov, iv] (setItem ov iv v); release [v, ov, iv] []) := by intro _ _; rfl)
    (hs : ∀ env, (assignEach (.Subscript (.Name x p1) ke p2 :: es) env).map (·.2) = assign (.Subscript (.Name x p1) ke p2) env :: (assignEach es env).map (·.2) := by intro _; rfl) : PTs G k sc N x (.Subscript (.Name x p1) ke p2 :: es) (fk :: fks)
end
section
end
end DL
namespace DL
open PySem PySem.Spec PyProof.Rows L2
inductive KEf (mg : Str → Option Value) : List DictEntry → List (Str × Str) → Prop
  | nil : KEf mg [] []
  | cons {h : Int} {x f : Str} {t : Tok} {a : Addr} {es : List DictEntry} {tb : List (Str × Str)} (hv : mg f = some (.ref a)) (r : KEf mg es tb) : KEf mg (⟨h, .str x t, .ref a⟩ :: es) ((x, f) :: tb)
theorem KEf.look {mg : Str → Option Value} : ∀ {es : List DictEntry} {tb : List (Str × Str)}, KEf mg es tb → ∀ z f, tb.lookup z = some f → ∃ e a, es.find? (·.key.isStr z) = some e ∧ e.val = .ref a ∧ mg f = some (.ref a)
  | _, _, .nil, z, f, e => by cases e
  | _, _, .cons (h := h) (x := x) (f := f') (t := t) (a := a) (es := es) (tb := tb) hv r, z, f, e => by
    have k1 : (⟨h, Value.str x t, .ref a⟩ : DictEntry).key.isStr z = (x == z) := rfl
    by_cases hz : z = x
    · subst hz
      have e1 : List.lookup z ((z, f') :: tb) = some f' := by simp [List.lookup]
      rw [e1] at e
      cases e
      exact ⟨(⟨h, .str z t, .ref a⟩ : DictEntry), a, by rw [List.find?_cons, k1]; simp, rfl, hv⟩
    · have b1 : (z == x) = false := by simpa using hz
      have b2 : (x == z) = false := by simpa using Ne.symm hz
      have e1 : List.lookup z ((x, f') :: tb) = List.lookup z tb := by simp [List.lookup, b1]
      rw [e1] at e
      obtain ⟨q, a', h1, h2, h3⟩ := r.look z f e
      exact ⟨q, a', by rw [List.find?_cons, k1, b2]; exact h1, h2, h3⟩
section
end
section
end
end DL
namespace PW
open PySem PySem.Spec PyProof.Rows L2 DL
def c_WORDS : D := (.tuple [(.tuple [(.str "bag"), (.str "set")]), (.tuple [(.str "maximum"), (.str "sum")]), (.tuple [(.str "count"), (.str "kind")]), (.tuple [(.str "none"), (.str "unknown"), (.str "value")]), (.tuple [(.str "null"), (.str "zero")])])
def c_DUPLICATES : D := (.int 0)
def c_NULLS : D := (.int 3)
def c_GREATEST_VALUE : D := (.int 9)
def c_ROW_LENGTH : D := (.int 2)
def c_MOST_ROWS : D := (.int 12)
def c_MOST_TUPLES : D := (.int 20)
def k_GREATEST : KTab := [("column", (.int 1)), ("number", (.int 9)), ("place", (.int 1))]
def t_FORMS : KTab3 := [(["filter", "less"], (.tuple [(.str "column"), (.str "number")])), (["filter", "equal"], (.tuple [(.str "column"), (.str "number")])), (["filter", "same"], (.tuple [])), (["filter", "null"], (.tuple [(.str "column")])), (["filter", "not"], (.tuple [(.str "filter")])), (["filter", "and"], (.tuple [(.str "filter"), (.str "filter")])), (["filter", "or"], (.tuple [(.str "filter"), (.str "filter")])), (["condition", "p"], (.tuple [])), (["condition", "q"], (.tuple [])), (["condition", "not"], (.tuple [(.str "condition")])), (["condition", "and"], (.tuple [(.str "condition"), (.str "condition")])), (["condition", "or"], (.tuple [(.str "condition"), (.str "condition")])), (["expression", "table"], (.tuple [(.str "place")])), (["expression", "union"], (.tuple [(.str "expression"), (.str "expression")])), (["expression", "intersection"], (.tuple [(.str "expression"), (.str "expression")])), (["expression", "difference"], (.tuple [(.str "expression"), (.str "expression")])), (["expression", "filter"], (.tuple [(.str "condition"), (.str "expression")]))]
def d_is_semantics  : Ev → Ms :=
    seqM (pIf (dOr (dNot (dTru (dIsi [.tuple] (dVar 0)))) (dCmp neD (dFn lenD (dCons (dVar 0) (dNil))) (dFn lenD (dCons (dLit c_WORDS) (dNil))))) (pRet (dLit (.bool false))) (sNil))
    (pRet (dFn allD (dCons (dComp [1, 2] (dRng zipD (dCons (dVar 0) (dCons (dLit c_WORDS) (dNil)))) (.tup [1, 2]) (dYes) (dCmpE inD (dVar 1) (dVar 2))) (dNil))))
def d_check_semantics (f_is_semantics : List Slot → Mn D) : Ev → Ms :=
    pIf (dNot (dTru (dCl 1 f_is_semantics (dCons (dVar 0) (dNil))))) (sRaise "BadSemantics") (sNil)
def d_is_integer_to  : Ev → Ms :=
    seqM (pIf (dOr (dNot (dTru (dIsi [.int] (dVar 0)))) (dTru (dIsi [.bool] (dVar 0)))) (pRet (dLit (.bool false))) (sNil))
    (pRet (dChain leD leD (dLit (.int 0)) (dVar 0) (dVar 1)))
def d_is_row (f__is_value_under : List Slot → Mn D) : Ev → Ms :=
    seqM (pIf (dOr (dNot (dTru (dIsi [.tuple] (dVar 1)))) (dCmp neD (dFn lenD (dCons (dVar 1) (dNil))) (dLit c_ROW_LENGTH))) (pRet (dLit (.bool false))) (sNil))
    (pRet (dFn allD (dCons (dComp [2] (dItm (dVar 1)) (.name 2) (dYes) (dCl 2 f__is_value_under (dCons (dVar 0) (dCons (dVar 2) (dNil))))) (dNil))))
def d__is_value_under (f_is_integer_to : List Slot → Mn D) : Ev → Ms :=
    seqM (pIf (dCmp isD (dVar 1) (dLit .none)) (pRet (dCmpE neD (dBin ixD (dVar 0) (dLit c_NULLS)) (dLit (.str "none")))) (sNil))
    (pRet (dCl 2 f_is_integer_to (dCons (dVar 1) (dCons (dLit c_GREATEST_VALUE) (dNil)))))
def d_value_order  : Ev → Ms :=
    pRet (dIf (dCmp isD (dVar 0) (dLit .none)) (dUn negD (dLit (.int 1))) (dVar 0))
def d_row_order (f_value_order : List Slot → Mn D) : Ev → Ms :=
    pRet (dFn tupleD (dCons (dComp [1] (dItm (dVar 0)) (.name 1) (dYes) (dCl 1 f_value_order (dCons (dVar 1) (dNil)))) (dNil)))
def d_is_table (f_check_semantics : List Slot → Mn D) (f_is_row : List Slot → Mn D) (f__is_ascending : List Slot → Mn D) : Ev → Ms :=
    seqM (pDrop (dCl 1 f_check_semantics (dCons (dVar 0) (dNil))))
    (seqM (pIf (dOr (dNot (dTru (dIsi [.tuple] (dVar 1)))) (dCmp gtD (dFn lenD (dCons (dVar 1) (dNil))) (dLit c_MOST_ROWS))) (pRet (dLit (.bool false))) (sNil))
    (seqM (pIf (dNot (dTru (dFn allD (dCons (dComp [2] (dItm (dVar 1)) (.name 2) (dYes) (dCl 2 f_is_row (dCons (dVar 0) (dCons (dVar 2) (dNil))))) (dNil))))) (pRet (dLit (.bool false))) (sNil))
    (pRet (dCl 2 f__is_ascending (dCons (dVar 1) (dCons (dCmpE eqD (dBin ixD (dVar 0) (dLit c_DUPLICATES)) (dLit (.str "bag"))) (dNil)))))))
def d__is_ascending (f_row_order : List Slot → Mn D) : Ev → Ms :=
    seqM (pSet 2 (dComp [5] (dItm (dVar 0)) (.name 5) (dYes) (dCl 1 f_row_order (dCons (dVar 5) (dNil)))))
    (seqM (sFor false (dRng zipD (dCons (dVar 2) (dCons (dBin slLo (dVar 2) (dLit (.int 1))) (dNil)))) (.tup [3, 4]) (pIf (dOr (dCmp gtxD (dVar 3) (dVar 4)) (dAnd (dCmp eqD (dVar 3) (dVar 4)) (dNot (dTru (dVar 1))))) (pRet (dLit (.bool false))) (sNil)))
    (pRet (dLit (.bool true))))
def d_tuples_of (f__has_form : List Slot → Mn D) (f__inner_tuples : List Slot → Mn D) : Ev → Ms :=
    seqM (sOwn 3 (dCons (dTup (dCons (dVar 0) (dCons (dVar 1) (dNil)))) (dNil)))
    (seqM (sOwn 4 (dNil))
    (seqM (whileN (dTru (dVar 3)) (seqM (sPopT (.tup [5, 6]) 3)
    (seqM (sIf (dOr (dCmp eqD (dFn lenD (dCons (dVar 4) (dNil))) (dVar 2)) (dNot (dTru (dCl 2 f__has_form (dCons (dVar 5) (dCons (dVar 6) (dNil))))))) (sRet (dLit .none)) (sNil))
    (seqM (sApp 4 (dVar 5))
    (sExt 3 (dCl 2 f__inner_tuples (dCons (dVar 5) (dCons (dVar 6) (dNil)))))))) 64)
    (sRet (dVar 4))))
def d__has_form (f__fits : List Slot → Mn D) : Ev → Ms :=
    seqM (pIf (dOr (dNot (dTru (dIsi [.tuple] (dVar 0)))) (dCmp eqD (dFn lenD (dCons (dVar 0) (dNil))) (dLit (.int 0)))) (pRet (dLit (.bool false))) (sNil))
    (seqM (pIf (dOr (dNot (dTru (dIsi [.str] (dBin ixD (dVar 0) (dLit (.int 0)))))) (dTnin t_FORMS (dTup (dCons (dVar 1) (dCons (dBin ixD (dVar 0) (dLit (.int 0))) (dNil)))))) (pRet (dLit (.bool false))) (sNil))
    (seqM (pSet 2 (dTget t_FORMS (dTup (dCons (dVar 1) (dCons (dBin ixD (dVar 0) (dLit (.int 0))) (dNil))))))
    (seqM (pIf (dCmp neD (dFn lenD (dCons (dVar 0) (dNil))) (dBin addD (dLit (.int 1)) (dFn lenD (dCons (dVar 2) (dNil))))) (pRet (dLit (.bool false))) (sNil))
    (pRet (dFn allD (dCons (dComp [3, 4] (dRng zipD (dCons (dBin slLo (dVar 0) (dLit (.int 1))) (dCons (dVar 2) (dNil)))) (.tup [3, 4]) (dYes) (dCl 2 f__fits (dCons (dVar 3) (dCons (dVar 4) (dNil))))) (dNil)))))))
def d__fits (f_is_integer_to : List Slot → Mn D) : Ev → Ms :=
    seqM (pIf (dKin k_GREATEST (dVar 1)) (pRet (dCl 2 f_is_integer_to (dCons (dVar 0) (dCons (dKget k_GREATEST (dVar 1)) (dNil))))) (sNil))
    (pRet (dLit (.bool true)))
def d__inner_tuples  : Ev → Ms :=
    seqM (pSet 2 (dTget t_FORMS (dTup (dCons (dVar 1) (dCons (dBin ixD (dVar 0) (dLit (.int 0))) (dNil))))))
    (pRet (dComp [3, 4] (dRng zipD (dCons (dBin slLo (dVar 0) (dLit (.int 1))) (dCons (dVar 2) (dNil)))) (.tup [3, 4]) (dKnin k_GREATEST (dVar 4)) (dTup (dCons (dVar 3) (dCons (dVar 4) (dNil))))))
def d_is_filter (f_tuples_of : List Slot → Mn D) : Ev → Ms :=
    pRet (dCmpE isnD (dCl 3 f_tuples_of (dCons (dVar 0) (dCons (dLit (.str "filter")) (dCons (dLit c_MOST_TUPLES) (dNil))))) (dLit .none))
def d_check_tables (f_is_table : List Slot → Mn D) : Ev → Ms :=
    sFor false (dRng enumTD (dCons (dVar 1) (dNil))) (.tup [2, 3]) (pIf (dNot (dTru (dCl 2 f_is_table (dCons (dVar 0) (dCons (dVar 3) (dNil)))))) (sStuck) (sNil))
def d_check_filter (f_is_filter : List Slot → Mn D) : Ev → Ms :=
    pIf (dNot (dTru (dCl 1 f_is_filter (dCons (dVar 0) (dNil))))) (sRaise "BadFilter") (sNil)
end PW
namespace DL
open PySem PySem.Spec PyProof.Rows L2
section
end
section
end
end DL
namespace DL
open PySem PySem.Spec PyProof.Rows L2
section
end
end DL
namespace DL
open PySem PySem.Spec PyProof.Rows L2
section
end
end DL
namespace DL
open PySem PySem.Spec PyProof.Rows L2
section
variable {G : Gm} {k : Nat} {sc : Sx} {N : List Str}
def isTx : D → Bool
  | .str _ => true
  | _ => false
def strsT : List D → Option (List Str)
  | [] => some []
  | .str x :: ds => (strsT ds).map (x :: ·)
  | _ :: _ => none
theorem strsT_map : ∀ ws : List Str, strsT (ws.map PyData.str) = some ws
  | [] => rfl
  | x :: ws => by
    show (strsT (ws.map PyData.str)).map (x :: ·) = _
    rw [strsT_map ws]
    rfl
theorem strsT_of : ∀ {ds : List D} {ws : List Str}, strsT ds = some ws → ds = ws.map PyData.str
  | [], _, h => by cases h; rfl
  | .str x :: ds, ws, h => by
    obtain ⟨us, e1, e2⟩ := Option.map_eq_some_iff.mp (show (strsT ds).map (x :: ·) = some ws from h)
    subst e2
    rw [strsT_of e1]
    rfl
  | .none :: _, _, h => by cases h
  | .bool _ :: _, _, h => by cases h
  | .int _ :: _, _, h => by cases h
  | .list _ :: _, _, h => by cases h
  | .tuple _ :: _, _, h => by cases h
  | .dict _ :: _, _, h => by cases h
theorem dal_words {K : PySem.W.Frag} {M : Addr → Prop} {H : Hp} : ∀ {ws : List Str} {xs : List V}, DaL K M H xs (ws.map PyData.str) → xs = ws.map V.str
  | [], _, .nil => rfl
  | x :: ws, _, .cons h t => by
    cases h
    rw [dal_words t]
    rfl
theorem words_dal {K : PySem.W.Frag} {M : Addr → Prop} {H : Hp} : ∀ ws : List Str, DaL K M H (ws.map V.str) (ws.map PyData.str)
  | [] => .nil
  | x :: ws => .cons (.str x) (words_dal ws)
def dMtS (op : D → D → Option D) (fo fe : Ev → Mn D) (ev : Ev) : Mn D := bnd (fo ev) fun x => if isTx x = true then bnd (fe ev) fun y => lft (op x y) else fun _ => none
@[simp] theorem dMtS_eq (op : D → D → Option D) (fo fe : Ev → Mn D) (ev : Ev) : dMtS op fo fe ev = bnd (fo ev) fun x => if isTx x = true then bnd (fe ev) fun y => lft (op x y) else stk := rfl
@[simp] theorem isTx_str (x : Str) : isTx (.str x) = true := rfl
def splD : D → D → Option D
  | .str a, .str b => if (b.length == 0) = false ∧ a.length + 2 ≤ sizeLine then some (.list ((PySem.Txt.split a b).map PyData.str)) else none
  | _, _ => none
theorem e_split {o e : Expr} {fo fe : Ev → Mn D} {ap cp : Pos} (ho : SE G k sc N o fo) (he : SE G k sc N e fe) (hbase : ∀ env, attributeBase o "split" env (eval o env) = eval o env := by intro _; rfl)
    (hfew : ∀ env, ((backTo cp (starEach [e] env)).all (fun x => !x.1) && (backToKw cp (keywordEach [] env)).all (fun x => x.1.isSome) && decide ([e].length + ([] : List Keyword).length + (if ([] : List Keyword).isEmpty then 0 else 1) < 30)) = true := by intro _; rfl)
    (hline : (ap.endLine == cp.line) = true := by rfl) (hs : ∀ env, starEach [e] env = (false, eval e env) :: starEach [] env := by intro _; rfl) (hpl : ∀ env, (backTo cp (starEach [] env)).any (·.1) = false := by intro _; rfl) :
    SE G k sc N (.Call (.Attribute o "split" ap) [e] [] cp) (dMtS splD fo fe) := fun X W g tk => by
  refine pe_imp (pe_bm PySem.F.plainAttrs_str PySem.F.slot_str_split PySem.F.type_str_split L2.mt_split (ho X W g tk) (pa_cons (he X W g tk) pa_nil (hs _)) (hbase _) (hfew _) hline (hs _) (hpl _)) fun σ H Q h => ?_
  obtain ⟨M, r, ev, rs, R, o, rs', e, w⟩ := h
  refine tE_bnd R e w fun x rs1 H1 v R1 s1 d1 e1 w1 => ?_
  cases d1 with
  | str a =>
    have e1 : bnd (fe ev) (fun y => lft (splD (.str a) y)) rs1 = some (o, rs') := e1
    refine ⟨rfl, tE_bnd R1 e1 w1 fun y rs2 H2 u R2 s2 d2 e2 w2 => ?_⟩
    obtain ⟨d, e3, rfl, rfl⟩ := lft_some e2
    cases d2 with
    | str b =>
      have e3 : (if (b.length == 0) = false ∧ a.length + 2 ≤ sizeLine then some (PyData.list ((PySem.Txt.split a b).map PyData.str)) else none) = some d := e3
      split at e3
      · rename_i ok
        cases e3
        exact ⟨a, b, rfl, rfl, ok.1, ok.2, fun p hp => w2 _ (.of_same (same_upd hp)) (row_same R2.row (same_upd hp)) _ (Da.newL R2.ml hp (words_dal _))⟩
      · cases e3
    | _ => cases e3
  | _ => cases e1
end
end DL
namespace DL
open PySem PySem.Spec PyProof.Rows L2
section
variable {G : Gm} {k : Nat} {sc : Sx} {N : List Str}
def joinD : D → D → Option D
  | .str a, .list ds => match strsT ds with
    | some ws => if (ws.map (·.length)).sum + ws.length * a.length ≤ 16777216 then some (.str (PySem.Txt.join a ws)) else none
    | none => none
  | _, _ => none
theorem joinD_ws (a : Str) (ws : List Str) : joinD (.str a) (.list (ws.map PyData.str)) = if (ws.map (·.length)).sum + ws.length * a.length ≤ 16777216 then some (.str (PySem.Txt.join a ws)) else none := by
  simp only [joinD, strsT_map]
theorem e_join {o e : Expr} {fo fe : Ev → Mn D} {ap cp : Pos} (ho : SE G k sc N o fo) (he : SE G k sc N e fe) (hbase : ∀ env, attributeBase o "join" env (eval o env) = eval o env := by intro _; rfl)
    (hfew : ∀ env, ((backTo cp (starEach [e] env)).all (fun x => !x.1) && (backToKw cp (keywordEach [] env)).all (fun x => x.1.isSome) && decide ([e].length + ([] : List Keyword).length + (if ([] : List Keyword).isEmpty then 0 else 1) < 30)) = true := by intro _; rfl)
    (hline : (ap.endLine == cp.line) = true := by rfl) (hs : ∀ env, starEach [e] env = (false, eval e env) :: starEach [] env := by intro _; rfl) (hpl : ∀ env, (backTo cp (starEach [] env)).any (·.1) = false := by intro _; rfl) :
    SE G k sc N (.Call (.Attribute o "join" ap) [e] [] cp) (dMtS joinD fo fe) := fun X W g tk => by
  refine pe_imp (pe_bm PySem.F.plainAttrs_str PySem.F.slot_str_join PySem.F.type_str_join L2.mt_join (ho X W g tk) (pa_cons (he X W g tk) pa_nil (hs _)) (hbase _) (hfew _) hline (hs _) (hpl _)) fun σ H Q h => ?_
  obtain ⟨M, r, ev, rs, R, o, rs', e, w⟩ := h
  refine tE_bnd R e w fun x rs1 H1 v R1 s1 d1 e1 w1 => ?_
  cases d1 with
  | str a =>
    have e1 : bnd (fe ev) (fun y => lft (joinD (.str a) y)) rs1 = some (o, rs') := e1
    refine ⟨rfl, tE_bnd R1 e1 w1 fun y rs2 H2 u R2 s2 d2 e2 w2 => ?_⟩
    obtain ⟨d, e3, rfl, rfl⟩ := lft_some e2
    cases d2 with
    | lst h n t =>
      rename_i p xs ds
      have e3 : (match strsT ds with
        | some ws => if (ws.map (·.length)).sum + ws.length * a.length ≤ 16777216 then some (PyData.str (PySem.Txt.join a ws)) else none
        | none => none) = some d := e3
      cases hw : strsT ds with
      | none => rw [hw] at e3; cases e3
      | some ws =>
        rw [hw] at e3
        have ed := strsT_of hw
        subst ed
        have e4 := e3
        rw [joinD_ws] at e4
        split at e4
        · rename_i ok
          cases e4
          have ex := dal_words t
          subst ex
          exact ⟨a, _, ws, rfl, rfl, .inl (.of h), ok, w2 H2 (.refl _) R2.row _ (.str _)⟩
        · cases e4
    | _ => cases e3
  | _ => cases e1
def strX : List D → Option D
  | [.int i] => if i.natAbs.log2 < 1920 then some (.str (toString i)) else none
  | [.str x] => some (.str x)
  | _ => none
theorem e_strX {e : Expr} {f : Ev → Mn (List Slot)} {p pos : Pos} (ha : SA G k sc N [e] f) (hm : Mg0 G "str") (hg : glB sc "str" = true := by rfl) (he : ∀ env, starEach [e] env = (false, eval e env) :: starEach [] env := by intro _; rfl) :
    SE G k sc N (.Call (.Name "str" p) [e] [] pos) (dFn strX f) :=
  e_bty ha (fun X g => call_str_int.or SkE.call_str_str) (fun X M H vs ds d Q g ml h e hq => by
    unfold strX at e
    split at e
    · rename_i i
      obtain ⟨v, rfl, h1⟩ := one_da h
      split at e
      · rename_i lt
        cases e
        cases h1 with
        | int _ => exact .inl ⟨i, rfl, lt, hq _ _ (.refl _) (.str _)⟩
      · cases e
    · rename_i x
      obtain ⟨v, rfl, h1⟩ := one_da h
      cases e
      cases h1 with
      | str _ => exact .inr ⟨x, rfl, hq _ _ (.refl _) (.str _)⟩
    · cases e) PyProof.Rows.boot_str hm hg (by decide) (by decide) he (fun _ => rfl)
theorem jok_rev {K : PySem.W.Frag} {M : Addr → Prop} {H1 : Hp} {a : Addr} {xs : List V} {ds : List D} (ml : Ml M H1) (h : H1 a = some (.lst xs)) (n : ¬ M a) (t : DaL K M H1 xs ds) : JOk K M (Itv K a xs.length) H1 ds.reverse where
  go := fun H' kp i d e => by
    have li : i < ds.length := by
      have := (List.getElem?_eq_some_iff.mp e).1
      rwa [List.length_reverse] at this
    rw [List.getElem?_reverse li] at e
    obtain ⟨v, h1, h2⟩ := t.get e
    exact ⟨by rw [t.length]; exact li, xs, v, .of (kp _ _ n h), by rw [t.length]; exact h1⟩
  yld := fun M' H' kp m i d x H'' e y => by
    obtain ⟨rfl, y⟩ := y
    have li : i < ds.length := by
      have := (List.getElem?_eq_some_iff.mp e).1
      rwa [List.length_reverse] at this
    rw [List.getElem?_reverse li] at e
    obtain ⟨v, h1, h2⟩ := t.get e
    have q := y xs (.of (kp _ _ n h))
    rw [t.length, h1] at q
    cases q
    exact ⟨.refl _, h2.on ml m kp⟩
  stop := fun H' kp => by
    show xs.length ≤ ds.reverse.length
    rw [List.length_reverse, t.length]
    exact Nat.le_refl _
def revL : D → Option (List D)
  | .list ds => some ds.reverse
  | _ => none
def dRvI (f : Ev → Mn D) (ev : Ev) : Mn (List D) := bnd (f ev) fun x => lft (revL x)
@[simp] theorem dRvI_eq (f : Ev → Mn D) (ev : Ev) : dRvI f ev = bnd (f ev) fun x => lft (revL x) := rfl
theorem i_rev {tg e : Expr} {f : Ev → Mn D} {p pos : Pos} (h : SE G k sc N e f) (hm : Mg0 G "reversed") (hg : glB sc "reversed" = true := by rfl) (hs : ∀ env, starEach [e] env = (false, eval e env) :: starEach [] env := by intro _; rfl) :
    SI G k sc N tg (.Call (.Name "reversed" p) [e] [] pos) (dRvI f) := fun X W g tk => by
  refine pi_imp (RT.pi_revA (gl_of g hg) (by rw [g.hmg]; exact hm) (h X W g tk) (hs _)) fun σ H Q h => ?_
  obtain ⟨M, r, ev, rs, R, o, rs', e, w⟩ := h
  refine tE_bnd R e w fun x rs1 H1 v R1 s1 d1 e1 w1 => ?_
  obtain ⟨ds, e3, rfl, rfl⟩ := lft_some e1
  rw [g.hK]
  cases d1 with
  | lst h n t => cases e3; exact ⟨_, _, rfl, .inl ⟨.of h, w1 H1 (.refl _) R1.row R1.ml _ (jok_rev R1.ml h n t)⟩⟩
  | _ => cases e3
end
end DL
namespace DL
open PySem PySem.Spec PyProof.Rows L2
section
variable {G : Gm} {k : Nat} {sc : Sx} {N : List Str}
def tinD (t : KTab3) : D → Option Bool
  | .tuple ds => (strsOf ds).map fun ks => (t.lookup ks).isSome
  | _ => none
def dTin (t : KTab3) (fb : Ev → Mn D) (ev : Ev) : Mn Bool := bnd (fb ev) fun y => lft (tinD t y)
@[simp] theorem dTin_eq (t : KTab3) (fb : Ev → Mn D) (ev : Ev) : dTin t fb ev = bnd (fb ev) fun y => lft (tinD t y) := rfl
def rTin (G : Gm) (d : Addr) (t : KTab3) (M : Addr → Prop) : R2 := fun x y H Q => y = .ref d ∧ ∃ b xs ds ks, x = .ref b ∧ SqT G.K H b xs ∧ DaL G.K M H xs ds ∧ strsOf ds = some ks ∧ Q (.bl (List.lookup ks t).isSome) H
theorem T_tin {x : Str} {t : KTab3} {b : Expr} {fb : Ev → Mn D} {p p2 : Pos} (h : GlT G x t) (hb : SE G k sc N b fb) (hg : glB sc x = true := by rfl) (hdb : (x == ("__debug__" : Str)) = false := by decide) (hm : behindInMarks .In (.Name x p) = false := by rfl) :
    ST G k sc N (.Compare b [.In] [.Name x p] p2) (dTin t fb) := fun X W g tk => by
  obtain ⟨d, _, _, hd, _⟩ := h.ex
  have op : OpR X (compareOp .In) (fun x y H Q => ∃ M, rTin G d t M x y H Q) := by
    intro pins s σ H x y v u Q I rx ry ⟨M, e1, b, xs, ds, ks, e2, q1, q2, q3, q5⟩
    subst e1
    subst e2
    cases (show u = Value.ref d from ry)
    cases (show v = Value.ref b from rx)
    obtain ⟨d', zs, h1, h2, h3, h4⟩ := dict_at g h I
    rw [hd] at h1
    cases h1
    have z := h4 ks
    refine wpAny_in_heap (tupleKind_room_in1 (by have := g.room.un; omega)) (key_at I (by rw [g.hK]; exact q1) (by rw [g.hK]; exact q2) q3) h2 h3 ?_
    have e : (atKey zs (HM.sks ks)).isSome = (List.lookup ks t).isSome := by
      cases hl : List.lookup ks t with
      | some dd => rw [hl] at z; obtain ⟨p, z1, z2⟩ := z; rw [z1]; rfl
      | none => rw [hl] at z; rw [z]; rfl
    rw [e]
    exact ⟨.bl (List.lookup ks t).isSome, H, I.tok _, rfl, q5⟩
  refine pt_imp (pt_cmpR op (hb X W g tk) (pe_glob (v := .ref d) (gl_of g hg) (by rw [g.hmg]; exact hd) rfl hdb) hm) fun σ H Q h => ?_
  obtain ⟨M, r, ev, rs, R, o, rs', e, w⟩ := h
  refine tE_bnd R e w fun y rs1 H1 v R1 s1 d1 e1 w1 => ?_
  obtain ⟨c, e3, rfl, rfl⟩ := lft_some e1
  cases d1 with
  | tup h1 h2 =>
    obtain ⟨ks, e1, e2⟩ := Option.map_eq_some_iff.mp (show (strsOf _).map (fun ks => (List.lookup ks t).isSome) = some c from e3)
    exact ⟨M, rfl, _, _, _, ks, rfl, h1, h2, e1, _, rfl, by rw [e2]; exact w1 H1 (.refl _) R1.row⟩
  | _ => cases e3
/-- the module's tuple x has no dict of its own -/
def GlTz (G : Gm) (x : Str) : Prop := ∃ a o, G.mg x = some (.ref a) ∧ G.K.lookup a = some o ∧ o.cls = .type "tuple" ∧ o.dict = none
def tixD (ds : List D) : D → Option D
  | .str z => (strsT ds).bind fun ys => (ys.findIdx? (· == z)).map fun j => .int (j : Nat)
  | _ => none
def dTix (ds : List D) (fe : Ev → Mn D) (ev : Ev) : Mn D := bnd (fe ev) fun y => lft (tixD ds y)
@[simp] theorem dTix_eq (ds : List D) (fe : Ev → Mn D) (ev : Ev) : dTix ds fe ev = bnd (fe ev) fun y => lft (tixD ds y) := rfl
theorem e_tidx {x : Str} {ds : List D} {e : Expr} {fe : Ev → Mn D} {p ap cp : Pos} (h : GlD G x (.tuple ds)) (hz : GlTz G x) (he : SE G k sc N e fe) (hg : glB sc x = true := by rfl) (hdb : (x == ("__debug__" : Str)) = false := by decide)
    (hbase : ∀ env, attributeBase (.Name x p) "index" env (eval (.Name x p) env) = eval (.Name x p) env := by intro _; rfl)
    (hfew : ∀ env, ((backTo cp (starEach [e] env)).all (fun x => !x.1) && (backToKw cp (keywordEach [] env)).all (fun x => x.1.isSome) && decide ([e].length + ([] : List Keyword).length + (if ([] : List Keyword).isEmpty then 0 else 1) < 30)) = true := by intro _; rfl)
    (hline : (ap.endLine == cp.line) = true := by rfl) (hs : ∀ env, starEach [e] env = (false, eval e env) :: starEach [] env := by intro _; rfl) (hpl : ∀ env, (backTo cp (starEach [] env)).any (·.1) = false := by intro _; rfl) :
    SE G k sc N (.Call (.Attribute (.Name x p) "index" ap) [e] [] cp) (dTix ds fe) := fun X W g tk => by
  obtain ⟨u, v, hu, rv, hv⟩ := h
  obtain ⟨a, o, ha, hk, hc, hn⟩ := hz
  rw [ha] at hu
  cases hu
  have ev : v = .ref a := by
    have := hv (fun _ => False) (fun _ => none)
    cases this with
    | tup _ _ => cases rv; rfl
  subst ev
  refine pe_imp (pe_bm PySem.F.plainAttrs_tuple PySem.F.slot_tuple_index PySem.F.type_tuple_index L2.mt_tup_index (pe_glob (v := .ref a) (gl_of g hg) (by rw [g.hmg]; exact ha) rfl hdb) (pa_cons (he X W g tk) pa_nil (hs _)) (hbase _) (hfew _) hline (hs _) (hpl _)) fun σ H Q h => ?_
  obtain ⟨M, r, ev, rs, R, o', rs', e, w⟩ := h
  refine ⟨.inr (.inl ⟨rfl, o, by rw [g.hK]; exact hk, hc, hn⟩), tE_bnd R e w fun y rs2 H2 u R2 s2 d2 e2 w2 => ?_⟩
  obtain ⟨d, e3, rfl, rfl⟩ := lft_some e2
  cases d2 with
  | str z =>
    obtain ⟨ys, e4, e5⟩ := Option.bind_eq_some_iff.mp (show (strsT ds).bind (fun ys => (ys.findIdx? (· == z)).map fun j => PyData.int (j : Nat)) = some d from e3)
    obtain ⟨j, e6, e7⟩ := Option.map_eq_some_iff.mp e5
    subst e7
    have ed := strsT_of e4
    subst ed
    have q := hv M H2
    cases q with
    | tup h1 h2 =>
      have ex := dal_words h2
      subst ex
      obtain ⟨hj, q1, q2⟩ := List.findIdx?_eq_some_iff_getElem.mp e6
      refine ⟨a, ys, z, j, rfl, rfl, by rw [g.hK]; exact h1, ?_, fun m hm hz => ?_, w2 H2 (.refl _) R2.row _ (.int _)⟩
      · rw [List.getElem?_eq_getElem hj]
        exact congrArg some (eq_of_beq q1)
      · obtain ⟨hl, hy⟩ := List.getElem?_eq_some_iff.mp hz
        have := q2 m hm
        rw [hy] at this
        simp at this
  | _ => cases e3
end
end DL
namespace CX
open PySem PySem.Spec PyProof.Rows
section
variable {M : Model} {A : Around} {E : Value → Shared → Prop} {s : Shared} {env cenv : Env} {outer l : List Env} {base h h' : Heap} {e L C : Addr} {Z : Obj → Prop} {m : Str → Option Value} {fl : Value}
theorem fields_ne {a : Addr} {o : Obj} {vs : Array Value} (hn : h.Ns C m) (ho : h.get? a = some o) (hd : o.data = .fields vs) : a ≠ C := fun q => by
  obtain ⟨oL, es, ep, hoL, hdL, _⟩ := hn
  rw [q, hoL] at ho
  cases ho
  rw [hd] at hdL
  cases hdL
theorem traced_same (t : HandSPX.TracedZ h base e Z fl) (hn : h.Ns C m) (hs : Heap.SameBut C h h') : HandSPX.TracedZ h' base e Z fl := by
  obtain ⟨oe, vs, T, oT, ts, he, hz, hd, h1, hnT, hTe, hT, hdT, h3⟩ := t
  exact ⟨oe, vs, T, oT, ts, (hs.2 e (fields_ne hn he hd)).trans he, hz, hd, h1, hnT, hTe, (hs.2 T (fields_ne hn hT hdT)).trans hT, hdT, h3⟩
theorem here {Q : Unit → Shared → Prop} (t : HandSPX.TracedZ s.heap base e Z fl)
    (k : ∀ h1, HandSPX.TracedZ h1 base e Z (rawInt L) → (∀ b o, base.get? b = some o → s.heap.get? b = some o → h1.get? b = some o) → (∀ b o, s.heap.get? b = some o → (∀ vs, o.data ≠ .fields vs) → h1.get? b = some o) → Q () { s with heap := h1 }) :
    wpAny M A (setFlight (.ref e) (some L)) Q E s := by
  obtain ⟨oe, vs, T, oT, ts, he, hz, hd, h1, hnT, hTe, hT, hdT, h3⟩ := t
  have hsz3 : 3 < ts.size := (Array.getElem?_eq_some_iff.mp h3).1
  unfold setFlight
  refine wpAny_bind (wpAny_field he hd h1 ?_)
  rw [if_pos (show (Value.ref T != Value.none) = true from by simp)]
  refine wpAny_setField hT hdT hsz3 (k _ ?_ (fun b o hb e2 => ?_) fun b o e2 hnf => ?_)
  · exact ⟨oe, vs, T, _, _, (Heap.get?_update_other _ _ hTe).trans he, hz, hd, h1, hnT, hTe, Heap.get?_update_self _ hT (Obj.isFreed_of_fields (Obj.data_mapFields hdT _)), Obj.data_mapFields hdT _, by simp [hsz3]⟩
  · refine (Heap.get?_update_other _ _ fun q => ?_).trans e2
    rw [← q, hnT] at hb
    cases hb
  · refine (Heap.get?_update_other _ _ fun q => ?_).trans e2
    rw [← q, hT] at e2
    cases e2
    exact hnf ts hdT
/-- the exception is held at the def's frame: the block goes, the exception goes on -/
theorem held_out (hf : cenv.frame = some L) (hbC : base.get? cenv.locals = none) (hn : s.heap.Ns cenv.locals m) (hh : HandSPX.HeldZ base l e Z L s.heap)
    (hQ : ∀ h1, HandSPX.HeldZ base l e Z L h1 → (∀ b o, s.heap.get? b = some o → b ≠ cenv.locals → (∀ vs, o.data ≠ .fields vs) → h1.get? b = some o) → E (.ref e) { s with heap := h1 }) :
    CompFails M A E cenv (.ref e) s := by
  refine ⟨m, hn, fun h2 m2 hn2 hs2 => ?_⟩
  obtain ⟨b1, b0, f1, t1⟩ := hh
  have b2 : base.StaysIn h2 := fun b o hb => (hs2.2 b fun q => by rw [q, hbC] at hb; cases hb).trans (b1 b o hb)
  have f2 : h2.FunFrames base l := Heap.FunFrames.sameBut hs2 hn2 f1
  have t2 := traced_same t1 hn hs2
  have t2' := t2
  obtain ⟨oe, vs, T, oT, ts, he, hz, hd, h1, _⟩ := t2'
  unfold PySem.passOn
  refine wpAny_bind (wpAny_field he hd h1 ?_)
  rw [if_neg (show ¬ ((Value.ref T == Value.none) = true) from by simp), hf]
  refine wpAny_bind (here (s := { s with heap := h2 }) (L := L) t2 fun h3 t3 k1 k2 => wpAny_throw (hQ h3 ⟨fun b o hb => k1 b o hb (b2 b o hb), b0, ?_, t3⟩ fun b o hb hbL hnf => k2 b o ((hs2.2 b hbL).trans hb) hnf))
  exact f2.of_keeps fun b o hb hnf => ⟨o, k2 b o hb hnf, rfl⟩
/-- noted at a frame, wherever it was held before -/
theorem looks_any {Q : Unit → Shared → Prop} (hZ : HandSPX.Steady Z) (hfr : A.frames = some (env :: outer)) (hf : env.frame = some L) (hB : base.StaysIn s.heap) (hen : base.get? e = none) (hl : s.heap.FunFrames base (env :: outer)) (t : HandSPX.TracedZ s.heap base e Z fl)
    (hQ : ∀ h1, HandSPX.HeldZ base (env :: outer) e Z L h1 → s.heap.UpToSlots h1 → Q () { s with heap := h1 }) : wpAny M A (noteFrame (.ref e) env) Q E s := by
  by_cases q : (fl == rawInt L) = true
  · have q' : fl = rawInt L := eq_of_beq q
    subst q'
    exact HandSPX.againZ hf t (hQ s.heap ⟨hB, hen, hl, t⟩ (Heap.UpToSlots.refl _))
  · obtain ⟨oe, vs, T, oT, ts, he, hz, hd, h1, hnT, hTe, hT, hdT, h3⟩ := t
    have oth : ∀ b, b ≠ T → (s.heap.update T (Obj.mapFields (·.setIfInBounds 3 Value.none))).get? b = s.heap.get? b := fun b hb => Heap.get?_update_other _ _ (Ne.symm hb)
    have nrec : ∀ b o, s.heap.get? b = some o → (∀ vs, o.data ≠ .fields vs) → b ≠ T := fun b o hb hnf z => by
      rw [z, hT] at hb
      cases hb
      exact hnf ts hdT
    unfold noteFrame
    simp only [hf]
    refine wpAny_bind (wpAny_field he hd h1 ?_)
    rw [if_pos (show (Value.ref T != Value.none) = true from by simp)]
    refine wpAny_bind (wpAny_field hT hdT h3 ?_)
    rw [if_neg q]
    refine wpAny_bind (wpAny_setField hT hdT (Array.getElem?_eq_some_iff.mp h3).1 ?_)
    refine HandSPX.wpAny_entryZ hZ hfr (hl.of_keeps fun b o hb hnf => ⟨o, (oth b (nrec b o hb hnf)).trans hb, rfl⟩) hf ((oth e (Ne.symm hTe)).trans he)
      (fun b o hbo => (oth b fun z => by rw [z, hnT] at hbo; cases hbo).trans (hB b o hbo)) hen hd (Array.getElem?_eq_some_iff.mp h1).1 hz fun h' hN => ?_
    obtain ⟨x1, x2, x3, x4⟩ := hN
    exact hQ h' ⟨x1, hen, x2, x3⟩ fun b o hb hnf => x4 b o ((oth b (nrec b o hb hnf)).trans hb) hnf
/-- noted at the def's frame, from anywhere in the sky -/
theorem sky_out (hZ : HandSPX.Steady Z) (hfr : A.frames = some (env :: outer)) (hcf : cenv.frame = env.frame) (hf : env.frame = some L) (hbC : base.get? cenv.locals = none) (hn : s.heap.Ns cenv.locals m)
    {L' : Addr} (sk : L2.Sky base (env :: outer) e Z L' s.heap)
    (hQ : ∀ h1, HandSPX.HeldZ base (env :: outer) e Z L h1 → (∀ b o, s.heap.get? b = some o → b ≠ cenv.locals → (∀ vs, o.data ≠ .fields vs) → ∃ sl, h1.get? b = some { o with slots := sl }) → E (.ref e) { s with heap := h1 }) :
    notedBy M A cenv (CompFails M A E cenv) (.ref e) s := by
  show wpAny M A (noteFrame (.ref e) cenv) _ _ s
  rw [noteFrame_env _ hcf]
  have fin : ∀ h1, HandSPX.HeldZ base (env :: outer) e Z L h1 → s.heap.UpToSlots h1 → CompFails M A E cenv (.ref e) { s with heap := h1 } := fun h1 hh up => by
    refine held_out (s := { s with heap := h1 }) (l := env :: outer) (L := L) (hcf.trans hf) hbC (hn.upToSlots fun b o hb hnf => up b o hb hnf) hh fun h2 hh2 k => hQ h2 hh2 fun b o hb hbC' hnf => ?_
    obtain ⟨sl, e1⟩ := up b o hb hnf
    exact ⟨sl, k b _ e1 hbC' hnf⟩
  rcases sk with ⟨hB, hn', hl, oe, vs, he, hz, hd, h1⟩ | fl | hh
  · exact HandSPX.look_newZ hZ hfr hl hf he hB hn' hd h1 hz fin
  · exact HandSPX.looks_onZ hZ hfr hf fl fin
  · exact looks_any hZ hfr hf hh.1 hh.2.1 hh.2.2.1 hh.2.2.2 fin
/-- the ground may be taken smaller -/
theorem frames_less {base' : Heap} (hb : ∀ b, base.get? b = none → base'.get? b = none) : ∀ {l : List Env}, h.FunFrames base l → h.FunFrames base' l
  | [], _ => trivial
  | _ :: _, ⟨k, ⟨L, o, e1, e2, e3, e4⟩, r⟩ => ⟨k, ⟨L, o, e1, hb L e2, e3, e4⟩, frames_less hb r⟩
theorem traced_less {base' : Heap} (hb : ∀ b, base.get? b = none → base'.get? b = none) (t : HandSPX.TracedZ h base e Z fl) : HandSPX.TracedZ h base' e Z fl := by
  obtain ⟨oe, vs, T, oT, ts, he, hz, hd, h1, hnT, r⟩ := t
  exact ⟨oe, vs, T, oT, ts, he, hz, hd, h1, hb T hnT, r⟩
theorem sky_less {base' : Heap} {L' : Addr} (hb : ∀ b, base.get? b = none → base'.get? b = none) (hs : ∀ b o, base'.get? b = some o → base.get? b = some o) (sk : L2.Sky base l e Z L' h) : L2.Sky base' l e Z L' h := by
  rcases sk with ⟨x1, x2, x3, x4⟩ | ⟨x1, x2, x3, x4⟩ | ⟨x1, x2, x3, x4⟩
  · exact .inl ⟨fun b o q => x1 b o (hs b o q), hb _ x2, frames_less hb x3, x4⟩
  · exact .inr (.inl ⟨fun b o q => x1 b o (hs b o q), hb _ x2, frames_less hb x3, traced_less hb x4⟩)
  · exact .inr (.inr ⟨fun b o q => x1 b o (hs b o q), hb _ x2, frames_less hb x3, traced_less hb x4⟩)
end
end CX
namespace CX
open PySem PySem.Spec PyProof.Rows L2
/-- the block's context, its exceptions owed to xe -/
abbrev blkX (X : Cx) (s : Shared) (H : Hp) (scope : Scope) (cenv : Env) (fp : List Addr) (xe : Value → Shared → Prop) : Cx := { X.blk s H scope cenv fp with xe := xe }
theorem blk_xe {X : Cx} {W W' : WX} {pins : List (Addr × Obj)} {σ : L2.St} {H3 : Hp} {s3 s' : Shared} {scope : Scope} {ce : Env} {fp : List Addr} {xe : Value → Shared → Prop} {u : Value}
    (top : X.stack = X.env :: X.outer) (hf : X.env.frame = some X.env.locals) (tk : Takes X W) (I3 : Inv X pins σ H3 s3) (cL : ce.locals = s3.heap.objs.size) (cF : ce.frame = X.env.frame)
    (f3 : ∀ b ∈ fp, (b ∈ X.ex ∨ X.s_0.heap.objs.size ≤ b) ∧ b ≠ X.env.locals ∧ (∀ x c, X.env.cells.lookup x = some c → c ≠ b) ∧ ∀ p ∈ X.pn ++ pins, p.1 ≠ b) (f4 : ∀ b ∈ fp, b < s3.heap.objs.size)
    (hW : ∀ cls d σ' H', W' cls d σ' H' → W cls d σ H') (x : XE (blkX X s3 H3 scope ce fp xe) W' u s') :
    notedBy (model X.prog X.w) X.A ce (CompFails (model X.prog X.w) X.A X.xe ce) u s' := by
  obtain ⟨a, B, sI, pins', σ', H', cls, d, rfl, I', nb, up, sky, na, os, ag, w⟩ := x
  have nb : ∀ b o, sI.heap.get? b = some o → b ∉ frs X.stack → B.get? b = some o := nb
  have hC : H' ce.locals = none := I'.free
  obtain ⟨m, hn, _⟩ := I'.loc
  have hn : sI.heap.Ns ce.locals m := hn
  have hn' : s'.heap.Ns ce.locals m := hn.upToSlots fun b o hb hnf => up b o hb hnf
  have hfr : X.A.frames = some (X.env :: X.outer) := by rw [I3.ok.frames, top]
  have lt3 : ∀ b o, s3.heap.get? b = some o → b ≠ ce.locals := fun b o e q => by
    have := Heap.lt_size e
    rw [q, cL] at this
    exact Nat.lt_irrefl _ this
  have sky2 : Sky (PySem.W.hideAll B [ce.locals]) (X.env :: X.outer) a (Zc cls d) ce.locals s'.heap := by
    rw [← top]
    refine sky_less (fun b q => ?_) (fun b o q => PySem.W.of_hideAll _ q) sky
    cases e : (PySem.W.hideAll B [ce.locals]).get? b with
    | none => rfl
    | some o => rw [PySem.W.of_hideAll _ e] at q; cases q
  refine sky_out (L := X.env.locals) (m := m) Zc.steady hfr cF hf (PySem.W.hideAll_none _ (List.mem_singleton_self _)) hn' sky2 fun h1 hh k => ?_
  refine tk _ _ ⟨a, PySem.W.hideAll B [ce.locals], { sI with heap := PySem.W.hideAll sI.heap [ce.locals] }, pins, σ, H', cls, d, rfl, ?_, ?_, ?_, .inr (.inr (by rw [top]; exact hh)), na, os, ag, hW _ _ _ _ w⟩
  · have U := I'.base
    refine I3.call' (ch := fp) I'.os ⟨fun b o e n h1 h2 => ?_, fun b o e n h1 h2 => ?_, U.free, fun b o e h2 => ?_, U.tups, U.frzs, U.tbls⟩ (fun b o q => ?_) I'.bare f3
    · exact PySem.W.hideAll_get _ (U.keep b o e n h1 h2) (by simpa using lt3 b o e)
    · obtain ⟨sl, q⟩ := U.slot b o e n h1 h2
      exact ⟨sl, PySem.W.hideAll_get _ q (by simpa using lt3 b o e)⟩
    · obtain ⟨o', q⟩ := U.there b o e h2
      exact ⟨o', PySem.W.hideAll_get _ q (by simpa using lt3 b o e)⟩
    · refine (I'.hok b o q).stay (fun c u hc r => PySem.W.hideAll_get _ r ?_) (fun _ r => r) fun _ _ r => r
      intro hm
      have e : c = ce.locals := by simpa using hm
      subst e
      rcases hc with hc | hc
      · rw [hc, q] at hC; cases hC
      · rw [hc] at hC; cases hC
  · intro b o e hb
    have e1 := PySem.W.of_hideAll _ e
    refine PySem.W.hideAll_get _ (nb b o e1 hb) fun hm => ?_
    rw [PySem.W.hideAll_none _ hm] at e
    cases e
  · intro b o e hnf
    have e1 := PySem.W.of_hideAll _ e
    obtain ⟨sl, e2⟩ := up b o e1 hnf
    have ne : b ≠ ce.locals := fun q => by
      rw [q, PySem.W.hideAll_none _ (List.mem_singleton_self _)] at e
      cases e
    obtain ⟨sl2, e3⟩ := k b _ e2 ne hnf
    exact ⟨sl2, e3⟩
end CX
namespace CX
open PySem PySem.Spec PyProof.Rows L2
theorem ok_xe {X : Cx} {e : Value → Shared → Prop} (I : X.Ok) : ({ X with xe := e } : Cx).Ok := by
  obtain ⟨h1, h2, h3, h4, h5, h6, h7, h8, h9, h10, h11, h12, h13, h14, h15, h16, h17, h18⟩ := I
  exact ⟨h1, h2, h3, h4, h5, h6, h7, h8, h9, h10, h11, h12, h13, h14, h15, h16, h17, h18⟩
theorem inv_xe {X : Cx} {e : Value → Shared → Prop} {pins : List (Addr × Obj)} {σ : L2.St} {H : Hp} {s : Shared} (I : Inv X pins σ H s) : Inv { X with xe := e } pins σ H s :=
  ⟨ok_xe I.ok, I.os, I.bare, I.base, I.loc, I.cell, I.free, I.freeC, I.pin, I.hok, I.len⟩
/-- the exceptions that a block owes -/
abbrev blkE (X : Cx) (ce : Env) : Value → Shared → Prop := notedBy (model X.prog X.w) X.A ce (CompFails (model X.prog X.w) X.A X.xe ce)
/-- what is known where the block begins -/
structure Beg (X : Cx) (pins : List (Addr × Obj)) (σ : L2.St) (H : Hp) (s : Shared) (ce : Env) (fp : List Addr) : Prop where
  inv : Inv X pins σ H s
  loc : ce.locals = s.heap.objs.size
  frm : ce.frame = X.env.frame
  fps : ∀ b ∈ fp, FpOk X pins H b ∧ b < s.heap.objs.size
theorem beg_takes {X : Cx} {W : WX} {pins : List (Addr × Obj)} {σ : L2.St} {H : Hp} {s : Shared} {scope : Scope} {ce : Env} {fp : List Addr} (top : X.stack = X.env :: X.outer) (hf : X.env.frame = some X.env.locals) (tk : Takes X W)
    (b : Beg X pins σ H s ce fp) : Takes (blkX X s H scope ce fp (blkE X ce)) (fun cls d _ H' => W cls d σ H') := fun u s' x =>
  blk_xe top hf tk b.inv b.loc b.frm (fun c hc => ⟨(b.fps c hc).1.2.2.2.1, (b.fps c hc).1.2.1, (b.fps c hc).1.2.2.2.2.1, (b.fps c hc).1.2.2.2.2.2⟩) (fun c hc => (b.fps c hc).2) (fun _ _ _ _ w => w) x
theorem lcx {X : Cx} {pins : List (Addr × Obj)} {s : Shared} {σ : L2.St} {H : Hp} {Q : VK} {elt tg iter : Expr} {scope : Scope} {own : List (Str × Nat)} {pos : Pos} {wi : TI} {g : TG} {te : TE}
    (hc : X.calm = true) (hN : X.N.Nodup) (I : Inv X pins σ H s) (hi : PI X tg iter wi) (ok : BlkOk X.N X.env.scope scope own)
    (hg : ∀ (s : Shared) (H : Hp) (C : Addr) (cl : List (Str × Addr)) (fp : List Addr), Beg X pins σ H s (compEnvC scope cl C X.env) fp → PG (blkX X s H scope (compEnvC scope cl C X.env) fp (blkE X (compEnvC scope cl C X.env))) tg g)
    (he : ∀ (s : Shared) (H : Hp) (C : Addr) (cl : List (Str × Addr)) (fp : List Addr), Beg X pins σ H s (compEnvC scope cl C X.env) fp → PE (blkX X s H scope (compEnvC scope cl C X.env) fp (blkE X (compEnvC scope cl C X.env))) elt te)
    (hs : ∀ x, foldedSetIterable iter X.env x = pure x) (h : tLc wi g (fun σ H Q => Q true H) te (own.map (·.2)) σ H Q) :
    wpAny (model X.prog X.w) X.A (eval (.ListComp elt [⟨tg, iter, [], 0⟩] scope pos) X.env) (fun v s' => ∃ y H', Inv X pins σ H' s' ∧ RelV y v ∧ Q y H') X.xe s := by
  rw [eval_ListComp]
  have hfree : ∀ y ∈ scope.names, y.2 = .free → ∃ c, X.env.cells.lookup y.1 = some c := fun y hy e => I.ok.has _ (ok.free y hy e)
  refine comprehension_at (use := none) rfl hs (closure_ok hfree) ok.kind (fun y hy e => by rw [ok.uniq y hy, e])
    (thn (hi.run pins s σ H _ I h) fun xv s1 hx => thn hx fun itv s2 h2 => ?_)
  obtain ⟨it, fp, tn, J, H2, e, I2, T, st2, f2, q⟩ := h2
  subst e
  refine wpAny_newObj_type (newEnv_comp ?_) (by show 0 ≤ sizeLine; decide)
  generalize hD : s2.heap.objs.size = D
  have hDn : H2 D = none := I2.hok.fresh (Nat.le_of_eq hD)
  obtain ⟨W, ⟨m0, w0⟩, turn⟩ := q D hDn
  generalize hs3 : ({ s2 with heap := s2.heap.push { cls := .type "list", data := .seq ([] : List Value).toArray } } : Shared) = s3
  have h3 : s3.heap = s2.heap.push { cls := .type "list", data := .seq ([] : List Value).toArray } := by rw [← hs3]
  have I3 : Inv X pins σ (upd H2 D (.lst [])) s3 := by
    rw [← hs3]
    refine I2.laid (t' := s2.toks) (fun b o e => Heap.get?_push_of_some _ e) (Nat.le_of_eq hD) ⟨Nat.zero_le _, [], 0, .nil, ?_⟩
    rw [← hD]
    exact Heap.get?_push_size _ rfl
  have f3 : ∀ b ∈ fp, FpOk X pins (upd H2 D (.lst [])) b ∧ b < s3.heap.objs.size := fun b hb => by
    obtain ⟨o, e, _⟩ := T.obj _ _ st2 b hb
    have hlt := Heap.lt_size e
    refine ⟨⟨?_, (f2 b hb).2⟩, by rw [h3, Heap.size_push]; exact Nat.lt_succ_of_lt hlt⟩
    rw [upd_ne (by rw [← hD]; exact Nat.ne_of_lt hlt)]
    exact (f2 b hb).1
  have st3 : tn 0 s3.heap := T.keep _ _ _ st2 fun b _ o e => by rw [h3]; exact Heap.get?_push_of_some _ e
  have I4 := block_start I3 ok hN f3
  generalize hcl : cellsFrom (s3.heap.objs.size + 1) scope.names (cloFrom X.env.cells scope.names []) = cl at I4
  have bg : Beg X pins σ (upd H2 D (.lst [])) s3 (compEnvC scope cl s3.heap.objs.size X.env) fp := ⟨I3, rfl, rfl, f3⟩
  have pg := hg _ _ _ _ _ bg
  have pe := he _ _ _ _ _ bg
  generalize hce : compEnvC scope cl s3.heap.objs.size X.env = ce at I4 pg pe bg
  have goal : codeAny (model X.prog X.w) X.A (.compStart (.ListComp elt [⟨tg, iter, [], 0⟩] scope pos) 0 (.ref it) (.ref D) ce) (compEnds (model X.prog X.w) X.A X.xe none (fun v s' => ∃ y H', Inv X pins σ H' s' ∧ RelV y v ∧ Q y H') (.ref D) ce) { s3 with heap := pushCells (s3.heap.push { cls := .type "dict", data := .dict #[] }) scope.names } := by
    have cL : ce.locals = s3.heap.objs.size := bg.loc
    generalize hH3 : upd H2 D (.lst []) = H3 at I3 I4 pg pe w0 f3 bg
    have nfp : ∀ b ∈ fp, H3 b = none := fun b hb => (f3 b hb).1.1
    generalize hs4 : ({ s3 with heap := pushCells (s3.heap.push { cls := .type "dict", data := .dict #[] }) scope.names } : Shared) = s4 at I4 ⊢
    have I4 : Inv (blkX X s3 H3 scope ce fp (blkE X ce)) [] (wipe σ (own.map (·.2))) H3 s4 := inv_xe I4
    have st4 : tn 0 s4.heap := T.keep _ _ _ st3 fun b _ o e => by rw [← hs4]; exact pushCells_keeps _ _ _ _ (Heap.get?_push_of_some _ e)
    have stat : ∀ {σ' : L2.St} {H' : Hp} {s' : Shared}, Inv (blkX X s3 H3 scope ce fp (blkE X ce)) [] σ' H' s' → (∀ b ∈ fp, H' b = none) → ∀ b ∈ fp, FpOk (blkX X s3 H3 scope ce fp (blkE X ce)) [] H' b := fun {σ' H' s'} I' hn b hb =>
      ⟨hn b hb, (I'.ok.exf b hb).1, I'.ok.exfs b hb, .inl hb, fun x c e => (I'.ok.exf b hb).2 x c e, fun p hp => absurd (show p ∈ ([] : List (Addr × Obj)) ++ [] from hp) (by simp)⟩
    have loop : codeAny (model X.prog X.w) X.A (.compLoop (.ListComp elt [⟨tg, iter, [], 0⟩] scope pos) 0 (.ref it) (.ref D) ce) (compEnds (model X.prog X.w) X.A X.xe none (fun v s' => ∃ y H', Inv X pins σ H' s' ∧ RelV y v ∧ Q y H') (.ref D) ce) s4 := by
      refine compLoop_any (fun n s' => ∃ i H', Inv (blkX X s3 H3 scope ce fp (blkE X ce)) [] (wipe σ (own.map (·.2))) H' s' ∧ tn i s'.heap ∧ (∀ b ∈ fp, H' b = none) ∧ W i n H') ?_ m0 ⟨0, H3, I4, st4, nfp, w0⟩
      rintro n s5 ⟨i, H5, I5, st5, n5, w5⟩
      rcases turn i n H5 w5 with ⟨stop, qq⟩ | ⟨go, Nx, hNx, step⟩
      · have td := T.done (blkX X s3 H3 scope ce fp (blkE X ce)) rfl rfl rfl hc i [] s5 _ H5 (fun _ _ => False) I5 (stat I5 n5) st5 stop
        refine thnF td fun r s6 ⟨hr, I6⟩ => ?_
        subst hr
        have I7 : Inv X pins σ H5 s6 := I3.call' (ch := fp) I6.os I6.base I6.hok I6.bare fun b hb => ⟨(f3 b hb).1.2.2.2.1, (f3 b hb).1.2.1, (f3 b hb).1.2.2.2.2.1, (f3 b hb).1.2.2.2.2.2⟩
        have nC : H5 s3.heap.objs.size = none := by
          have z : H5 ce.locals = none := I6.free
          rw [cL] at z
          exact z
        obtain ⟨m, hn, _⟩ := I6.loc
        have hn : s6.heap.Ns ce.locals m := hn
        have f := I3.fpOk (Nat.le_refl _) nC
        refine ⟨m, hn, fun h'' sb => ?_⟩
        rw [cL] at sb
        obtain ⟨f0, f1, f2, f3', f4, f5⟩ := f
        exact ⟨.ref D, H5, I7.turned (t' := s6.toks) (fun b o hb e => (sb.2 b hb).trans e) f0 f1 f3' f4 f5, rfl, qq⟩
      · have ti := T.item (blkX X s3 H3 scope ce fp (blkE X ce)) rfl rfl rfl hc i [] s5 _ H5 (fun _ _ => False) I5 (stat I5 n5) st5 go
        refine thnF ti fun r s6 ⟨u, hr, h6⟩ => ?_
        subst hr
        refine thnF h6 fun _ s7 ⟨x, H7, I7, r7, y7, st7, n7⟩ => ?_
        have I7' := I7.pinned (stat I7 n7) (T.obj _ _ st7)
        refine thn (pg.run _ s7 _ H7 x u _ I7' r7 (step x H7 y7)) fun _ s8 ⟨σ8, H8, I8, hw8, q8⟩ => ?_
        have fin : ∀ {s' : Shared} {H' : Hp}, Inv (blkX X s3 H3 scope ce fp (blkE X ce)) ([] ++ pinsAt fp s7.heap) σ8 H' s' → Nx H' → ∃ m, m < n ∧ ∃ i H', Inv (blkX X s3 H3 scope ce fp (blkE X ce)) [] (wipe σ (own.map (·.2))) H' s' ∧ tn i s'.heap ∧ (∀ b ∈ fp, H' b = none) ∧ W i m H' := fun {s' H'} I' nx => by
          obtain ⟨m', hm, w'⟩ := hNx H' nx
          have pin' : ∀ b ∈ fp, ∀ o, s7.heap.get? b = some o → s'.heap.get? b = some o ∧ H' b = none := fun b hb o e =>
            let z := I'.pin (b, o) (List.mem_append_right _ (List.mem_append_right _ (mem_pinsAt hb e)))
            ⟨z.1, z.2.1⟩
          have hl : (wipe σ (own.map (·.2))).length = σ8.length := by rw [← hw8, wipe_length]
          refine ⟨m', hm, i + 1, H', (I'.unpinned (pins := [])).weak hl (fun j v e => ?_), T.keep _ _ _ st7 fun b hb o e => (pin' b hb o e).1, fun b hb => ?_, w'⟩
          · rw [← hw8] at e
            exact (wipe_some e).1
          · obtain ⟨o, e, _⟩ := T.obj _ _ st7 b hb
            exact (pin' b hb o e).2
        refine wpAny_pure ?_
        rw [if_pos rfl]
        refine thn (pe.run _ s8 σ8 H8 _ I8 q8) fun z s10 ⟨yv, H10, I10, r10, acc, hD10, hz10, nx⟩ => ?_
        exact app_ok (X := blkX X s3 H3 scope ce fp (blkE X ce)) I10 hD10 hz10 r10 fun s11 I11 => fin I11 nx
    exact codeAny_compStart_list loop (T.self X.A 0 _ _ _ st4 loop)
  rw [← hce] at goal
  exact goal
end CX
namespace DL
open PySem PySem.Spec PyProof.Rows L2
section
variable {G : Gm} {k : Nat} {sc : Sx} {N : List Str}
def compGoX (t : Tgt) (elt : Ev → Mn D) (ev : Ev) : List D → Mn (List D)
  | [] => pur []
  | d :: ds => bnd (lft (t.of d)) fun es => bnd (elt (setE ev t.ix es)) fun x => bnd (compGoX t elt ev ds) fun xs => pur (x :: xs)
def lstL (acc : List D) (rest : List D) : Option D := if (acc ++ rest).length ≤ sizeLine then some (.list (acc ++ rest)) else none
def dCompX (own : List Nat) (src : Ev → Mn (List D)) (t : Tgt) (elt : Ev → Mn D) (ev : Ev) : Mn D :=
  bnd (src ev) fun ds => if ds.length ≤ sizeLine then bnd (compGoX t elt (wipeE ev own) ds) fun out => lft (lstL [] out) else fun _ => none
/-- one step: the element, then the rest -/
theorem goX_cons {t : Tgt} {elt : Ev → Mn D} {ev : Ev} {d : D} {ds acc : List D} {rs rs' : RS} {o : Out D} (h : bnd (compGoX t elt ev (d :: ds)) (fun rest => lft (lstL acc rest)) rs = some (o, rs')) :
    ∃ es, t.of d = some es ∧ bnd (elt (setE ev t.ix es)) (fun x => bnd (compGoX t elt ev ds) fun rest => lft (lstL (acc ++ [x]) rest)) rs = some (o, rs') := by
  rcases bnd_some h with ⟨out, rs1, e1, e2⟩ | ⟨x, i, e1, rfl⟩
  · obtain ⟨es, ht, e1⟩ := bnd_lft e1
    refine ⟨es, ht, ?_⟩
    rcases bnd_some e1 with ⟨y, rs2, q1, q2⟩ | ⟨x, i, q1, q2⟩
    · rcases bnd_some q2 with ⟨xs, rs3, q3, q4⟩ | ⟨x, i, q3, q4⟩
      · cases q4
        have e : lstL (acc ++ [y]) xs = lstL acc (y :: xs) := by unfold lstL; rw [List.append_assoc]; rfl
        unfold bnd
        rw [q1]
        show bnd (compGoX t elt ev ds) (fun rest => lft (lstL (acc ++ [y]) rest)) rs2 = _
        unfold bnd
        rw [q3]
        show lft (lstL (acc ++ [y]) xs) rs1 = _
        rw [e]
        exact e2
      · cases q4
    · cases q2
  · rcases bnd_some e1 with ⟨es, rs2, q1, q2⟩ | ⟨_, _, q1, _⟩
    · obtain ⟨es', ht, z1, rfl⟩ := lft_some q1
      cases z1
      refine ⟨es, ht, ?_⟩
      rcases bnd_some q2 with ⟨y, rs3, q3, q4⟩ | ⟨x', i', q3, q4⟩
      · rcases bnd_some q4 with ⟨xs, rs4, q5, q6⟩ | ⟨x', i', q5, q6⟩
        · cases q6
        · cases q6
          unfold bnd
          rw [q3]
          show bnd (compGoX t elt ev ds) (fun rest => lft (lstL (acc ++ [y]) rest)) rs3 = _
          unfold bnd
          rw [q5]
      · cases q4
        unfold bnd
        rw [q3]
    · obtain ⟨_, _, z, _⟩ := lft_some q1
      cases z
theorem lcx_imp {X : Cx} {W : WX} {fi : Ev → Mn (List D)} {t : Tgt} {fe : Ev → Mn D} {own : List (Str × Nat)} {u : TG} (hu2 : ∀ M (σ : L2.St) H v d ds Q, Da G.K M H v d → t.of d = some ds → (∀ vs, DaL G.K M H vs ds → Q (setV σ t.ix vs) H) → u v σ H Q) (hix : ∀ i ∈ t.ix, i ∈ own.map (·.2)) :
    ∀ σ H Q, tE G.K G.mg W (dCompX (own.map (·.2)) fi t fe) σ H Q → tLc (tI G.K G.mg W fi) u (fun σ H Q => Q true H) (tE G.K G.mg (fun cls d _ H' => W cls d σ H') fe) (own.map (·.2)) σ H Q := fun σ H Q h => by
  obtain ⟨M, r, ev, rs, R, o, rs', e, w⟩ := h
  refine tI_bnd R e w fun ds rs1 H1 J R1 s1 jok e1 w1 => ?_
  intro P hP
  by_cases hz : ds.length ≤ sizeLine
  rotate_left
  · have e1 : (if ds.length ≤ sizeLine then bnd (compGoX t fe (wipeE ev (own.map (·.2))) ds) fun out => lft (lstL [] out) else fun _ => none) rs1 = some (o, rs') := e1
    rw [if_neg hz] at e1
    cases e1
  have e1 : (if ds.length ≤ sizeLine then bnd (compGoX t fe (wipeE ev (own.map (·.2))) ds) fun out => lft (lstL [] out) else fun _ => none) rs1 = some (o, rs') := e1
  rw [if_pos hz] at e1
  have M1r : And1 M P r.a := .inl R.mr
  have rP : P ≠ r.a := fun z => by
    obtain ⟨⟨e1, _⟩, _⟩ := R1.row
    rw [z, e1] at hP; cases hP
  refine ⟨fun i m H' => m = ds.length - i ∧ i ≤ ds.length ∧ ∃ acc accD rsi, accD.length = i ∧ H' P = some (.lst acc) ∧ DaL G.K (And1 M P) H' acc accD ∧ Same' r P H1 H' ∧ RelE G.K (And1 M P) r (wipe σ (own.map (·.2))) H' (wipeE ev (own.map (·.2))) rsi ∧ bnd (compGoX t fe (wipeE ev (own.map (·.2))) (ds.drop i)) (fun rest => lft (lstL accD rest)) rsi = some (o, rs'),
    ⟨_, rfl, Nat.zero_le _, [], [], rs1, rfl, upd_same, .nil, fun b o hb hr e => by rw [upd_ne hb]; exact e, (R1.and1 hP).wiped _, e1⟩, ?_⟩
  rintro i m H2 ⟨rfl, hil, acc, accD, rsi, hla, hD, hacc, hsm, R2, hgo⟩
  have kp : Kp M H1 H2 := fun b o n e => hsm b o (ne_of_none e hP) (fun z => n (z ▸ R.mr)) e
  by_cases hlt : i < ds.length
  · have hd := List.getElem?_eq_getElem hlt
    refine .inr ⟨jok.go H2 kp i _ hd, fun H' => ∃ acc accD rsi, accD.length = i + 1 ∧ H' P = some (.lst acc) ∧ DaL G.K (And1 M P) H' acc accD ∧ Same' r P H1 H' ∧ RelE G.K (And1 M P) r (wipe σ (own.map (·.2))) H' (wipeE ev (own.map (·.2))) rsi ∧ bnd (compGoX t fe (wipeE ev (own.map (·.2))) (ds.drop (i + 1))) (fun rest => lft (lstL accD rest)) rsi = some (o, rs'),
      fun H' h => ⟨ds.length - (i + 1), by omega, rfl, hlt, h⟩, fun x H3 hy => ?_⟩
    obtain ⟨sm3, dx⟩ := jok.yld (And1 M P) H2 kp (fun b z => z.elim .inl fun e => .inr (by rw [e]; exact hP)) i _ x H3 hd hy
    rw [List.drop_eq_getElem_cons hlt] at hgo
    obtain ⟨es, ht1, hgo⟩ := goX_cons hgo
    have R3 : RelE G.K (And1 M P) r (wipe σ (own.map (·.2))) H3 (wipeE ev (own.map (·.2))) rsi := R2.stp (.of_same sm3) (row_same R2.row sm3)
    refine hu2 _ _ _ _ _ _ _ dx ht1 fun vs hvs => ?_
    refine ⟨wipe_turn hix, ?_⟩
    show if true = true then _ else _
    rw [if_pos rfl]
    have R4 := R3.setL (is := t.ix) hvs
    have back : ∀ {H' : Hp} {rsx : RS}, Stp r H3 H' → RowAt G.K (And1 M P) H' r rsx → RelE G.K (And1 M P) r (wipe σ (own.map (·.2))) H' (wipeE ev (own.map (·.2))) rsx := fun s w => R3.stp s w
    have same3 : Same' r P H1 H3 := fun b o hb hr e => sm3 b o (hsm b o hb hr e)
    have st13 : Stp r H1 H3 := fun b o n e => same3 b o (ne_of_none e hP) n e
    rcases bnd_some hgo with ⟨y, rs3, hy1, hgo⟩ | ⟨x', j, hy1, rfl⟩
    · refine ⟨_, _, _, rsi, R4, .val y, rs3, hy1, fun H6 s36 w6 v dv => ?_⟩
      have hD6 : H6 P = some (.lst acc) := s36 _ _ rP (sm3 _ _ hD)
      have kp6 : Kp (And1 M P) H2 H6 := ((Kp.of_same sm3).trans (s36.kp M1r))
      have ml6 : Ml (And1 M P) H6 := R4.ml.stp M1r s36 w6
      have acc6 : DaL G.K (And1 M P) H6 acc accD := hacc.kp R2.ml kp6
      have k7 : Kp (And1 M P) H6 (upd H6 P (.lst (acc ++ [v]))) := fun b o n e => by rw [upd_ne fun z => n (.inr z)]; exact e
      have s7 : ∀ b o, b ≠ P → H6 b = some o → (upd H6 P (.lst (acc ++ [v]))) b = some o := fun b o n e => by rw [upd_ne n]; exact e
      have row7 : RowAt G.K (And1 M P) (upd H6 P (.lst (acc ++ [v]))) r rs3 := by
        obtain ⟨⟨e1, e1'⟩, e2⟩ := w6
        exact ⟨⟨s7 _ _ rP.symm e1, e1'⟩, sqlm_kp e2 k7⟩
      have R7 : RelE G.K (And1 M P) r (wipe σ (own.map (·.2))) (upd H6 P (.lst (acc ++ [v]))) (wipeE ev (own.map (·.2))) rs3 := by
        have R6 := back s36 w6
        refine ⟨R6.mr, fun b m => ?_, row7, fun j s e => (R6.slots j s e).kp R6.ml k7, R6.len⟩
        by_cases hb : b = P
        · exact ⟨.lst _, by rw [hb]; exact upd_same, trivial⟩
        · obtain ⟨xs, e, mu⟩ := R6.ml b m
          exact ⟨xs, s7 _ _ hb e, mu⟩
      refine ⟨acc, hD6, ?_, acc ++ [v], accD ++ [y], rs3, by rw [List.length_append, hla]; rfl, upd_same, DaL.kp ml6 k7 (acc6.append (.cons dv .nil)), fun b o hb hr e => s7 _ _ hb (s36 b o hr (same3 b o hb hr e)), R7, hgo⟩
      rw [acc6.length, hla]
      omega
    · refine ⟨_, _, _, rsi, R4, .exc x' j, rs', hy1, fun cls dd H6 s36 w6 ex => ?_⟩
      exact w1 cls dd H6 (st13.trans s36) (row_sub w6 fun b m => .inl m) ex
  · have ei : i = ds.length := by omega
    subst ei
    rw [List.drop_length] at hgo
    have s12 : Stp r H1 H2 := fun b o n e => hsm b o (ne_of_none e hP) n e
    have hgo : lft (lstL accD []) rsi = some (o, rs') := hgo
    obtain ⟨d, q3, rfl, rfl⟩ := lft_some hgo
    unfold lstL at q3
    rw [List.append_nil] at q3
    split at q3
    · cases q3
      refine .inl ⟨jok.stop H2 kp, ?_⟩
      exact w1 H2 s12 (row_sub R2.row fun b m => .inl m) _ (.lst hD (R1.ml.fresh hP) (hacc.sub fun b m => .inl m))
    · cases q3
end
end DL
namespace DL
open PySem PySem.Spec PyProof.Rows L2
section
variable {G : Gm} {k : Nat} {sc : Sx} {N : List Str}
theorem gd_xe {X : Cx} {sx : Sx} {xe : Value → Shared → Prop} (g : Gd G k sx N X) : Gd G k sx N { X with xe := xe } := ⟨g.hN, g.nd, g.hsc, g.hfc, g.calm, g.room, g.hP, g.hw, g.hK, g.hmg, g.hb, g.top⟩
/-- [elt for target in iter], at the def's own level: the element may raise -/
theorem e_lcX {elt tg iter : Expr} {scope : Scope} {pos : Pos} {fi : Ev → Mn (List D)} {t : Tgt} {fe : Ev → Mn D} (own : List (Str × Nat)) (hi : SI G k sc N tg iter fi) (ht : PGt G k (sc.blk scope) N tg t) (he : SE G k (sc.blk scope) N elt fe) (htop : sc.fc ("" : Str) = true := by rfl)
    (hb : blkC N sc.sc scope own = true := by decide +kernel) (hix : ∀ i ∈ t.ix, i ∈ own.map (·.2) := by decide) (hs : ∀ env x, foldedSetIterable iter env x = pure x := by intro _ _; rfl) :
    SE G k sc N (.ListComp elt [⟨tg, iter, [], 0⟩] scope pos) (dCompX (own.map (·.2)) fi t fe) := fun X W g tk => by
  have ok : BlkOk X.N X.env.scope scope own := by
    rw [g.hN, g.hsc]
    exact blkOk_by hb
  have nd : X.N.Nodup := by rw [g.hN]; exact g.nd
  have top := g.top htop
  obtain ⟨u, hu1, hu2⟩ := ht
  refine ⟨fun pins s σ H Q I h => ?_⟩
  have hf : X.env.frame = some X.env.locals := by
    rcases I.ok.stk with z | z
    · rw [top] at z
      exact absurd (congrArg List.length z) (by simp)
    · exact z.2
  exact CX.lcx (own := own) (wi := tI G.K G.mg W fi) (g := u) (te := tE G.K G.mg (fun cls d _ H' => W cls d σ H') fe) g.calm nd I (hi X W g tk) ok
    (fun s H C cl fp _ => hu1 _ (gd_xe (g.blk s H scope cl C fp)))
    (fun s H C cl fp b => he _ _ (gd_xe (g.blk s H scope cl C fp)) ((CX.beg_takes top hf tk b).imp fun c d σ' H' w => w)) (hs _) (lcx_imp (X := X) hu2 hix σ H Q h)
@[simp] theorem dCompX_eq (own : List Nat) (src : Ev → Mn (List D)) (t : Tgt) (e : Ev → Mn D) (ev : Ev) : dCompX own src t e ev = bnd (src ev) fun ds => if ds.length ≤ sizeLine then bnd (compGoX t e (wipeE ev own) ds) fun out => lft (lstL [] out) else fun _ => none := rfl
theorem compGoX_all {α : Type} {t : Tgt} {e : Ev → Mn D} {ev : Ev} (dd gg : α → D) : ∀ L : List α, (∀ a ∈ L, ∃ es, t.of (dd a) = some es ∧ e (setE ev t.ix es) = pur (gg a)) → compGoX t e ev (L.map dd) = pur (L.map gg)
  | [], _ => rfl
  | a :: L, h => by
    obtain ⟨es, h1, h2⟩ := h a List.mem_cons_self
    have ih := compGoX_all dd gg L fun b hb => h b (List.mem_cons_of_mem _ hb)
    show bnd (lft (t.of (dd a))) (fun es => bnd (e (setE ev t.ix es)) fun x => bnd (compGoX t e ev (L.map dd)) fun xs => pur (x :: xs)) = _
    rw [h1, ih]
    show bnd (e (setE ev t.ix es)) (fun x => bnd (pur (L.map gg)) fun xs => pur (x :: xs)) = _
    rw [h2]
    rfl
theorem lstL_nil {out : List D} (h : out.length ≤ sizeLine) : lstL [] out = some (.list out) := by
  unfold lstL
  rw [List.nil_append, if_pos h]
end
end DL
namespace PT
open PySem PySem.Spec PyProof.Rows L2 DL
def c_NULL : D := (.str "null")
def c_NO_ROW : D := (.str "-")
def c_DIGITS : D := (.tuple [(.str "0"), (.str "1"), (.str "2"), (.str "3"), (.str "4"), (.str "5"), (.str "6"), (.str "7"), (.str "8"), (.str "9")])
def l_DIGITS : List D := [(.str "0"), (.str "1"), (.str "2"), (.str "3"), (.str "4"), (.str "5"), (.str "6"), (.str "7"), (.str "8"), (.str "9")]
def c_MOST_WORDS_OF_TUPLE : D := (.int 3)
def d_check_text  : Ev → Ms :=
    pIf (dNot (dTru (dIsi [.str] (dVar 0)))) (sRaise "NotText") (sNil)
def d_value_text  : Ev → Ms :=
    pRet (dIf (dCmp isD (dVar 0) (dLit .none)) (dLit c_NULL) (dFn strX (dCons (dVar 0) (dNil))))
def d_write_table (f_check_tables : List Slot → Mn D) (f_value_text : List Slot → Mn D) : Ev → Ms :=
    seqM (pDrop (dCl 2 f_check_tables (dCons (dVar 0) (dCons (dTup (dCons (dVar 1) (dNil))) (dNil)))))
    (seqM (pIf (dCmp eqD (dFn lenD (dCons (dVar 1) (dNil))) (dLit (.int 0))) (pRet (dLit c_NO_ROW)) (sNil))
    (pRet (dMtS joinD (dLit (.str "; ")) (dComp [2] (dItm (dVar 1)) (.name 2) (dYes) (dMtS joinD (dLit (.str ",")) (dComp [3] (dItm (dVar 2)) (.name 3) (dYes) (dCl 1 f_value_text (dCons (dVar 3) (dNil)))))))))
def d_read_table (f_check_semantics : List Slot → Mn D) (f_check_text : List Slot → Mn D) (f__row_in : List Slot → Mn D) (f_is_table : List Slot → Mn D) : Ev → Ms :=
    seqM (pDrop (dCl 1 f_check_semantics (dCons (dVar 0) (dNil))))
    (seqM (pDrop (dCl 1 f_check_text (dCons (dVar 1) (dNil))))
    (seqM (pSet 2 (dIf (dCmp eqD (dVar 1) (dLit c_NO_ROW)) (dTup (dNil)) (dFn tupleD (dCons (dCompX [3] (dItm (dMtS splD (dVar 1) (dLit (.str "; ")))) (.name 3) (dCl 1 f__row_in (dCons (dVar 3) (dNil)))) (dNil)))))
    (seqM (pIf (dNot (dTru (dCl 2 f_is_table (dCons (dVar 0) (dCons (dVar 2) (dNil)))))) (sRaise "InvalidText") (sNil))
    (pRet (dVar 2)))))
def d__row_in (f__number_in : List Slot → Mn D) : Ev → Ms :=
    pRet (dFn tupleD (dCons (dCompX [1] (dItm (dMtS splD (dVar 0) (dLit (.str ",")))) (.name 1) (dIf (dCmp eqD (dVar 1) (dLit c_NULL)) (dLit .none) (dCl 1 f__number_in (dCons (dVar 1) (dNil))))) (dNil)))
def d__number_in  : Ev → Ms :=
    seqM (pIf (dCmp ninD (dVar 0) (dLit c_DIGITS)) (sRaise "InvalidText") (sNil))
    (pRet (dTix l_DIGITS (dVar 0)))
def d_write_filter (f_check_filter : List Slot → Mn D) (f__text_of : List Slot → Mn D) : Ev → Ms :=
    seqM (pDrop (dCl 1 f_check_filter (dCons (dVar 0) (dNil))))
    (pRet (dCl 1 f__text_of (dCons (dVar 0) (dNil))))
def d__text_of (f__text_of : List Slot → Mn D) : Ev → Ms :=
    seqM (pIf (dTru (dIsi [.tuple] (dVar 0))) (pRet (dMtS joinD (dLit (.str " ")) (dComp [1] (dItm (dVar 0)) (.name 1) (dYes) (dCl 1 f__text_of (dCons (dVar 1) (dNil)))))) (sNil))
    (pRet (dFn strX (dCons (dVar 0) (dNil))))
def d_read_filter (f_check_text : List Slot → Mn D) (f__parts_in : List Slot → Mn D) (f_is_filter : List Slot → Mn D) : Ev → Ms :=
    seqM (pDrop (dCl 1 f_check_text (dCons (dVar 0) (dNil))))
    (seqM (pSet 1 (dMtS splD (dVar 0) (dLit (.str " "))))
    (seqM (pIf (dCmp gtD (dFn lenD (dCons (dVar 1) (dNil))) (dBin mulxD (dLit c_MOST_WORDS_OF_TUPLE) (dLit PW.c_MOST_TUPLES))) (sRaise "InvalidText") (sNil))
    (seqM (pSet 2 (dCl 1 f__parts_in (dCons (dVar 1) (dNil))))
    (seqM (pIf (dOr (dCmp neD (dFn lenD (dCons (dVar 2) (dNil))) (dLit (.int 1))) (dNot (dTru (dCl 1 f_is_filter (dCons (dBin ixD (dVar 2) (dLit (.int 0))) (dNil)))))) (sRaise "InvalidText") (sNil))
    (pRet (dBin ixD (dVar 2) (dLit (.int 0))))))))
def d__parts_in (f__number_in : List Slot → Mn D) : Ev → Ms :=
    seqM (pSet 1 (dLst (dNil)))
    (seqM (sFor false (dRvI (dVar 0)) (.name 2) (pIf (dTin PW.t_FORMS (dTup (dCons (dLit (.str "filter")) (dCons (dVar 2) (dNil))))) (seqM (pSet 3 (dFn lenD (dCons (dTget PW.t_FORMS (dTup (dCons (dLit (.str "filter")) (dCons (dVar 2) (dNil))))) (dNil))))
    (pSet 1 (dLst (dCons (dTup (dCons (dVar 2) (dStar (dBin slHi (dVar 1) (dVar 3)) (dNil)))) (dStar (dBin slLo (dVar 1) (dVar 3)) (dNil)))))) (pSet 1 (dLst (dCons (dCl 1 f__number_in (dCons (dVar 2) (dNil))) (dStar (dVar 1) (dNil)))))))
    (pRet (dVar 1)))
end PT
namespace K10
open PySem PySem.Spec PyProof.Rows L2 DL
abbrev topS (j : Nat) : Stmt := PySem.Challenge.pw_queryheld_k10_whole_texts.main.body.getD j (.Pass ⟨0, 0, 0, 0⟩)
def l_DIGITS : List D := [(.str "0"), (.str "1"), (.str "2"), (.str "3"), (.str "4"), (.str "5"), (.str "6"), (.str "7"), (.str "8"), (.str "9")]
abbrev st_is_semantics : Stmt := topS 14
abbrev N_is_semantics : List Str := ["value", "part", "words"]
abbrev P_is_semantics : List Str := ["value"]
abbrev st_check_semantics : Stmt := topS 15
abbrev N_check_semantics : List Str := ["value"]
abbrev P_check_semantics : List Str := ["value"]
abbrev st_is_integer_to : Stmt := topS 16
abbrev N_is_integer_to : List Str := ["value", "greatest"]
abbrev P_is_integer_to : List Str := ["value", "greatest"]
abbrev st_is_row : Stmt := topS 17
abbrev N_is_row : List Str := ["semantics", "value", "part"]
abbrev P_is_row : List Str := ["semantics", "value"]
abbrev st__is_value_under : Stmt := topS 18
abbrev N__is_value_under : List Str := ["semantics", "value"]
abbrev P__is_value_under : List Str := ["semantics", "value"]
abbrev st_value_order : Stmt := topS 19
abbrev N_value_order : List Str := ["value"]
abbrev P_value_order : List Str := ["value"]
abbrev st_row_order : Stmt := topS 20
abbrev N_row_order : List Str := ["row", "value"]
abbrev P_row_order : List Str := ["row"]
abbrev st_is_table : Stmt := topS 21
abbrev N_is_table : List Str := ["semantics", "value", "row"]
abbrev P_is_table : List Str := ["semantics", "value"]
abbrev st__is_ascending : Stmt := topS 22
abbrev N__is_ascending : List Str := ["rows", "equal_allowed", "places", "before", "after", "row"]
abbrev P__is_ascending : List Str := ["rows", "equal_allowed"]
abbrev st_check_tables : Stmt := topS 23
abbrev N_check_tables : List Str := ["semantics", "values", "index", "value"]
abbrev P_check_tables : List Str := ["semantics", "values"]
abbrev st_tuples_of : Stmt := topS 27
abbrev N_tuples_of : List Str := ["value", "kind", "most", "waiting", "found", "part", "part_kind"]
abbrev P_tuples_of : List Str := ["value", "kind", "most"]
abbrev st__has_form : Stmt := topS 28
abbrev N__has_form : List Str := ["value", "kind", "kinds", "part", "part_kind"]
abbrev P__has_form : List Str := ["value", "kind"]
abbrev st__fits : Stmt := topS 29
abbrev N__fits : List Str := ["part", "kind"]
abbrev P__fits : List Str := ["part", "kind"]
abbrev st__inner_tuples : Stmt := topS 30
abbrev N__inner_tuples : List Str := ["value", "kind", "kinds", "part", "part_kind"]
abbrev P__inner_tuples : List Str := ["value", "kind"]
abbrev st_is_filter : Stmt := topS 33
abbrev N_is_filter : List Str := ["value"]
abbrev P_is_filter : List Str := ["value"]
abbrev st_check_filter : Stmt := topS 34
abbrev N_check_filter : List Str := ["value"]
abbrev P_check_filter : List Str := ["value"]
abbrev st_check_text : Stmt := topS 40
abbrev N_check_text : List Str := ["value"]
abbrev P_check_text : List Str := ["value"]
abbrev st_value_text : Stmt := topS 41
abbrev N_value_text : List Str := ["value"]
abbrev P_value_text : List Str := ["value"]
abbrev st_write_table : Stmt := topS 42
abbrev N_write_table : List Str := ["semantics", "A", "row", "value"]
abbrev P_write_table : List Str := ["semantics", "A"]
abbrev st_read_table : Stmt := topS 43
abbrev N_read_table : List Str := ["semantics", "text", "rows", "part"]
abbrev P_read_table : List Str := ["semantics", "text"]
abbrev st__row_in : Stmt := topS 44
abbrev N__row_in : List Str := ["text", "word"]
abbrev P__row_in : List Str := ["text"]
abbrev st__number_in : Stmt := topS 45
abbrev N__number_in : List Str := ["word"]
abbrev P__number_in : List Str := ["word"]
abbrev st_write_filter : Stmt := topS 46
abbrev N_write_filter : List Str := ["filter_"]
abbrev P_write_filter : List Str := ["filter_"]
abbrev st__text_of : Stmt := topS 47
abbrev N__text_of : List Str := ["part", "inner"]
abbrev P__text_of : List Str := ["part"]
abbrev st_read_filter : Stmt := topS 48
abbrev N_read_filter : List Str := ["text", "words", "parts"]
abbrev P_read_filter : List Str := ["text"]
abbrev st__parts_in : Stmt := topS 49
abbrev N__parts_in : List Str := ["words", "parts", "word", "many"]
abbrev P__parts_in : List Str := ["words"]
abbrev st__law_taken : Stmt := topS 51
abbrev N__law_taken : List Str := ["row", "many", "cell", "found"]
abbrev P__law_taken : List Str := ["row", "many"]
abbrev st__law_pick : Stmt := topS 52
abbrev N__law_pick : List Str := ["row", "kinds"]
abbrev P__law_pick : List Str := ["row", "kinds"]
abbrev st__law_alike : Stmt := topS 53
abbrev N__law_alike : List Str := ["found", "due", "k"]
abbrev P__law_alike : List Str := ["found", "due"]
abbrev st__law_semantics : Stmt := topS 54
abbrev N__law_semantics : List Str := ["row", "first", "second", "third", "fourth"]
abbrev P__law_semantics : List Str := ["row"]
abbrev st__law_rank : Stmt := topS 55
abbrev N__law_rank : List Str := ["line", "value"]
abbrev P__law_rank : List Str := ["line"]
abbrev st__law_sorted : Stmt := topS 56
abbrev N__law_sorted : List Str := ["lines", "found", "mark", "line", "k"]
abbrev P__law_sorted : List Str := ["lines"]
abbrev st__law_value : Stmt := topS 57
abbrev N__law_value : List Str := ["row", "way"]
abbrev P__law_value : List Str := ["row", "way"]
abbrev st__law_table : Stmt := topS 58
abbrev N__law_table : List Str := ["row", "way", "most", "lines", "turn", "line"]
abbrev P__law_table : List Str := ["row", "way", "most"]
abbrev st__law_filter : Stmt := topS 59
abbrev N__law_filter : List Str := ["row", "deep", "kind", "word"]
abbrev P__law_filter : List Str := ["row", "deep"]
abbrev st__law_wrong : Stmt := topS 60
abbrev P__law_wrong : List Str := ["work"]
abbrev st__law_words : Stmt := topS 61
abbrev N__law_words : List Str := ["mark", "part"]
abbrev P__law_words : List Str := ["mark"]
abbrev st_law : Stmt := topS 62
abbrev N_law : List Str := ["script", "row", "turn", "odd", "bad", "way", "mark", "a", "text", "line"]
abbrev P_law : List Str := ["script"]
end K10
noncomputable section
namespace HM
open PySem PySem.W PySem.Calls PyProof.Rows HandSHeadRun DL
theorem body_in (b : List Stmt) (p : Program) (cv : Value) (fa : Addr) (p2 : Pos) : (Γ0.enter (.body b (envOf p cv fa)) none p2).In A1 := by
  refine ⟨rfl, ?_, (fun l h => nomatch h), (fun g h => nomatch h), ?_⟩
  · show frameCount [(Code.builtin "claim.caller" {}, p2)] + (Code.body b (envOf p cv fa)).weight ≤ 100000
    have e : frameCount [(Code.builtin "claim.caller" {}, p2)] = frameCount [(Code.builtin "claim.caller" {}, default)] := rfl
    have e3 : (Code.body b (envOf p cv fa)).weight ≤ 900 := by
      unfold Code.weight Code.frames Code.isFrame Code.isCreation Code.isCaller
      simp
      split <;> omega
    have e4 : frameCount [(Code.builtin "claim.caller" {}, default)] ≤ 99000 := by decide +kernel
    rw [e]
    omega
  · show (Code.body b (envOf p cv fa)).cUnits + unitsOf [(Code.builtin "claim.caller" {}, p2)] ≤ 1000
    have e : unitsOf [(Code.builtin "claim.caller" {}, p2)] = unitsOf [(Code.builtin "claim.caller" {}, default)] := rfl
    have e4 : unitsOf [(Code.builtin "claim.caller" {}, default)] ≤ 100 := by decide +kernel
    have e3 : (Code.body b (envOf p cv fa)).cUnits ≤ 100 := by
      unfold Code.cUnits Code.frames Code.isFrame
      simp
    rw [e]
    omega
theorem pairs_eq {α : Type} : ∀ {l : List (α × α)}, l.map (·.1) = l.map (·.2) → ∀ y ∈ l, y.1 = y.2
  | [], _, _, m => (nomatch m)
  | x :: l, h, y, m => by
    rw [List.map_cons, List.map_cons] at h
    injection h with h1 h2
    rcases List.mem_cons.mp m with e | m
    · rw [e]
      exact h1
    · exact pairs_eq h2 y m
end HM
noncomputable section
namespace HM
open PySem PySem.W PySem.Calls PyProof.Rows HandSHeadRun DL
open L2 (defArgs defBody defScope)
def DictP (r : OpenRow) (N : Nat) (l1 l2 : List Stmt) (tg : PySem.Expr) (keys : List (Option PySem.Expr)) (values : List PySem.Expr) (pos2 : Pos) (w : World) : Prop :=
  ∀ os pX, (fromBoot w os fun s0 => (full (denQ tabQ) r.prog w (tk r.prog w).hash (partsBy rdQ r.prog l1 l2 tg keys values pos2) N s0 pX).map fun x => x.2.1.map (·.1)) =
    (fromBoot w os fun s0 => (full (denQ tabQ) r.prog w (tk r.prog w).hash (partsBy rdQ r.prog l1 l2 tg keys values pos2) N s0 pX).map fun x => x.2.1.map (·.2))
section
variable {F : Spec1} {P : Program} {w : World} {K : PySem.W.Frag} {h base : Heap} {mg : Str → Option Value}
theorem says_all (c : obsK F K = valK F P w) : (F.facts.all (Fc.ok K) && (F.tds.all (fun q => (He.Fa.glo q.1).ok K && (match dicAt K q.1 with
    | some es => kesB K es.toList q.2
    | none => false)) && F.tts.all (fun q => (He.Fa.glo q.1).ok K && (match dicAt K q.1 with
    | some es => ketB K es.toList q.2
    | none => false)) && F.tfs.all (fun q => (He.Fa.glo q.1).ok K && (match dicAt K q.1 with
    | some es => kefB K es.toList q.2
    | none => false)))) = true := congrArg (fun z : Al1 => z.1) c
theorem fact (c : obsK F K = valK F P w) (i : Nat) {f : Fc} (hf : F.facts[i]? = some f := by rfl) : f.ok K = true :=
  List.all_eq_true.mp (Bool.and_eq_true_iff.mp (says_all c)).1 f (List.mem_of_getElem? hf)
theorem f_no (X : K.In h) (Gn : h.Ns mainGlobals mg) {x : Str} (c : (Fc.no x).ok K = true) : mg x = none := PySem.W.mg_none_of X Gn (He.eqO_ok c)
theorem f_con (X : K.In h) (Gn : h.Ns mainGlobals mg) {x : Str} {d : D} (c : (Fc.con x d).ok K = true) : GlD ⟨P, w, K, mg, base⟩ x d := by
  replace c : (match PySem.W.nsIn K mainGlobals x with
    | some (some u) => kdaB K 9 u d
    | _ => false) = true := c
  cases e : PySem.W.nsIn K mainGlobals x with
  | none => rw [e] at c; cases c
  | some o =>
    cases o with
    | none => rw [e] at c; cases c
    | some u =>
      rw [e] at c
      exact GlD.mk' (G := ⟨P, w, K, mg, base⟩) (PySem.W.mg_of X Gn e) (kda_ok c)
theorem f_ex (X : K.In h) (Gn : h.Ns mainGlobals mg) {x : Str} (c : (Fc.ex x).ok K = true) : ExcF ⟨P, w, K, mg, base⟩ x := by
  obtain ⟨c1, c2⟩ := Bool.and_eq_true_iff.mp (show ((He.Fa.glo x).ok K && (He.Fa.exc x).ok K) = true from c)
  obtain ⟨h1, h2, h3, h4⟩ := He.exc_ok c2
  exact ExcF.mk' (G := ⟨P, w, K, mg, base⟩) (He.glo_ok X Gn c1) h1 h2 h3 h4
theorem fn_at (c : obsK F K = valK F P w) (i : Nat) {d : He.FnD} (hd : F.fns[i]? = some d) : He.fnObs K d.at_ = d.val := by
  have e : F.fns.map (fun d => He.fnObs K d.at_) = F.fns.map He.FnD.val := congrArg (fun z : Al1 => z.2.1) c
  have e2 : (F.fns.map fun d => He.fnObs K d.at_)[i]? = (F.fns.map He.FnD.val)[i]? := by rw [e]
  rw [List.getElem?_map, List.getElem?_map, hd] at e2
  exact Option.some.inj e2
abbrev fnd (x : Str) (st : Stmt) : He.FnD := ⟨(x, none), x, x, defArgs st, defBody st, defScope st⟩
theorem f_fun (X : K.In h) (Gn : h.Ns mainGlobals mg) {x : Str} {st : Stmt} (c : obsK F K = valK F P w) (i j : Nat) (hi : F.fns[i]? = some (fnd x st)) (hj : F.facts[j]? = some (.fn x)) :
    ∃ oc od osl kV doc pm an cdv ct, mg x = some (.ref (He.ga K x)) ∧ K.lookup (He.ga K x) = some ⟨oc, od, .func (PySem.W.fnOf x x (defArgs st) (defBody st) (defScope st) .none kV doc pm an cdv ct), osl⟩ ∧ PySem.W.codeIn K cdv x = true ∧ PySem.W.keepIn K (.ref (He.ga K x)) = true := by
  have q := fact c j hj
  obtain ⟨c1, q⟩ := Bool.and_eq_true_iff.mp (show ((He.Fa.glo x).ok K && ((He.Fa.keep x).ok K && (He.Fa.code (x, none) x).ok K)) = true from q)
  obtain ⟨c2, c3⟩ := Bool.and_eq_true_iff.mp q
  obtain ⟨oc, od, osl, kV, doc, pm, an, cdv, ct, l, cd⟩ := He.fn_ok (d := fnd x st) (fn_at c i hi) c3
  exact ⟨oc, od, osl, kV, doc, pm, an, cdv, ct, He.glo_ok X Gn c1, l, cd, c2⟩
theorem f_has (X : K.In h) (Gn : h.Ns mainGlobals mg) {x : Str} {st : Stmt} {ps : List Str} (c : obsK F K = valK F P w) (i j : Nat) (hi : F.fns[i]? = some (fnd x st)) (hj : F.facts[j]? = some (.fn x))
    (b : ∀ (kV doc pm : Value) (an : Option Addr) (cdv ct : Value) (us : List Value), us.length = ps.length → bindArgs (PySem.W.fnOf x x (defArgs st) (defBody st) (defScope st) .none kV doc pm an cdv ct) ⟨us, []⟩ = pure (ps.zip us)) : HasF ⟨P, w, K, mg, base⟩ x st ps := by
  obtain ⟨oc, od, osl, kV, doc, pm, an, cdv, ct, h1, h2, h3, h4⟩ := f_fun X Gn c i j hi hj
  exact HasF.mk' (G := ⟨P, w, K, mg, base⟩) h1 h2 h3 h4 b
theorem dic_ok {x : Str} {es : Array DictEntry} (hd : dicAt K x = some es) : ∃ n, K.lookup (He.ga K x) = some ⟨.type "dict", none, .dict es n, #[]⟩ ∧ ((He.ga K x) == sysModules) = false := by
  unfold dicAt at hd
  split at hd
  · rename_i T es' n sl e
    split at hd
    · rename_i hb
      cases hd
      obtain ⟨b1, b2⟩ := Bool.and_eq_true_iff.mp hb
      obtain ⟨b2, b3⟩ := Bool.and_eq_true_iff.mp b2
      have eT : T = "dict" := of_decide_eq_true b1
      subst eT
      have es0 : sl = #[] := by simpa using b2
      subst es0
      refine ⟨n, e, ?_⟩
      cases z : ((He.ga K x) == sysModules) with
      | false => rfl
      | true => rw [z] at b3; cases b3
    · cases hd
  · cases hd
theorem td_at (c : obsK F K = valK F P w) (i : Nat) {x : Str} {tb : KTab} (hi : F.tds[i]? = some (x, tb)) (g1 : (He.Fa.glo x).ok K = true) {es : Array DictEntry} (hd : dicAt K x = some es) : PySem.W.KeysLit w.params es.toList := by
  have e : F.tds.map (fun q => (dicAt K q.1).map fun es => es.toList.map He.keyOf) ++ F.tfs.map (fun q => (dicAt K q.1).map fun es => es.toList.map He.keyOf) = F.tds.map (fun q => some (He.keysIn w.params (q.2.map (·.1)))) ++ F.tfs.map (fun q => some (He.keysIn w.params (q.2.map (·.1)))) := congrArg (fun z : Al1 => z.2.2.1) c
  have hlt : i < F.tds.length := (List.getElem?_eq_some_iff.mp hi).1
  have e2 := congrArg (fun l => l[i]?) e
  rw [List.getElem?_append_left (by rw [List.length_map]; exact hlt), List.getElem?_append_left (by rw [List.length_map]; exact hlt), List.getElem?_map, List.getElem?_map, hi] at e2
  have e4 : (dicAt K x).map (fun es => es.toList.map He.keyOf) = some (He.keysIn w.params (tb.map (·.1))) := Option.some.inj e2
  rw [hd] at e4
  exact He.keysLit_of (Option.some.inj e4)
theorem f_td (X : K.In h) (Gn : h.Ns mainGlobals mg) {x : Str} {tb : KTab} (c : obsK F K = valK F P w) (i : Nat) (hi : F.tds[i]? = some (x, tb)) : GlK ⟨P, w, K, mg, base⟩ x tb := by
  obtain ⟨a1, _⟩ := Bool.and_eq_true_iff.mp (Bool.and_eq_true_iff.mp (Bool.and_eq_true_iff.mp (says_all c)).2).1
  have a2 := List.all_eq_true.mp a1 _ (List.mem_of_getElem? hi)
  obtain ⟨g1, g2⟩ := Bool.and_eq_true_iff.mp a2
  cases hd : dicAt K x with
  | none => rw [hd] at g2; cases g2
  | some es =>
    rw [hd] at g2
    obtain ⟨n, l1, l2⟩ := dic_ok hd
    exact GlK.mk' (G := ⟨P, w, K, mg, base⟩) (He.glo_ok X Gn g1) l1 (td_at c i hi g1 hd) l2 (kes_ok g2)
theorem ket_ok : ∀ {es : List DictEntry} {t : KTab3}, ketB K es t = true → es.map (·.hash) = t.map (fun z => (tk P w).hash (sks z.1)) → KEs2 ⟨P, w, K, mg, base⟩ es t
  | [], [], _, _ => .nil
  | [], _ :: _, h, _ => by cases h
  | _ :: _, [], h, _ => by cases h
  | e :: es, q :: t, h, hh => by
    obtain ⟨h1, h2⟩ := Bool.and_eq_true_iff.mp h
    rw [List.map_cons, List.map_cons] at hh
    injection hh with hh1 hh2
    refine .cons ?_ (ket_ok h2 hh2)
    dsimp only at h1
    split at h1
    · rename_i a ek
      split at h1
      · rename_i T dd its m sl el
        obtain ⟨b1, h1⟩ := Bool.and_eq_true_iff.mp h1
        obtain ⟨b2, h1⟩ := Bool.and_eq_true_iff.mp h1
        obtain ⟨b3, b4⟩ := Bool.and_eq_true_iff.mp h1
        have eT : T = "tuple" := of_decide_eq_true b1
        subst eT
        exact ⟨⟨a, dd, its, m, sl, ek, el, b3⟩, kda_ok b4, hh1⟩
      · cases h1
    · cases h1
theorem f_tt (X : K.In h) (Gn : h.Ns mainGlobals mg) {x : Str} {tb : KTab3} (c : obsK F K = valK F P w) (i : Nat) (hi : F.tts[i]? = some (x, tb)) (nd : (tb.map (·.1)).Nodup) : GlT ⟨P, w, K, mg, base⟩ x tb := by
  obtain ⟨_, a1⟩ := Bool.and_eq_true_iff.mp (Bool.and_eq_true_iff.mp (Bool.and_eq_true_iff.mp (says_all c)).2).1
  have a2 := List.all_eq_true.mp a1 _ (List.mem_of_getElem? hi)
  obtain ⟨g1, g2⟩ := Bool.and_eq_true_iff.mp a2
  have e : F.tts.map (fun q => (dicAt K q.1).map fun es => es.toList.map (·.hash)) = F.tts.map (fun q => some (q.2.map fun z => (tk P w).hash (sks z.1))) := congrArg (fun z : Al1 => z.2.2.2) c
  have e2 : (F.tts.map (fun q => (dicAt K q.1).map fun es => es.toList.map (·.hash)))[i]? = (F.tts.map (fun q => some (q.2.map fun z => (tk P w).hash (sks z.1))))[i]? := by rw [e]
  rw [List.getElem?_map, List.getElem?_map, hi] at e2
  have e3 := Option.some.inj e2
  cases hd : dicAt K x with
  | none => rw [hd] at g2; cases g2
  | some es =>
    rw [hd] at g2
    have e4 : (dicAt K x).map (fun es => es.toList.map (·.hash)) = some (tb.map fun z => (tk P w).hash (sks z.1)) := e3
    rw [hd] at e4
    obtain ⟨n, l1, l2⟩ := dic_ok hd
    exact ⟨⟨_, es, n, He.glo_ok X Gn g1, l1, l2, ket_ok g2 (Option.some.inj e4)⟩, nd⟩
end
end HM
noncomputable section
namespace HM
open PySem PySem.W PySem.Calls PyProof.Rows HandSHeadRun DL
open L2 (defArgs defBody defScope)
structure SpecL where
  base : Spec1
  law : Str
  more : List (PySem.W.Frag → Bool)
def codeOf (K : PySem.W.Frag) (x : Str) : Addr := match K.lookup (He.ga K x) with
  | some ⟨_, _, .func fd, _⟩ => (match fd.code with
    | .ref c => c
    | _ => 0)
  | _ => 0
def isRefB (v : Value) (c : Addr) : Bool := match v with
  | .ref c' => c' == c
  | _ => false
def hasCodeB (K : PySem.W.Frag) (x : Str) (c : Addr) : Bool := match K.lookup (He.ga K x) with
  | some ⟨_, _, .func fd, _⟩ => isRefB fd.code c
  | _ => false
def tabOf (K : PySem.W.Frag) (c : Addr) : Addr := match K.lookup c with
  | some ⟨_, _, .fields vs, _⟩ => (match (vs[11]? : Option Value) with
    | some (.ref P) => P
    | _ => 0)
  | _ => 0
def isTab (K : PySem.W.Frag) (P : Addr) : Bool := match K.lookup P with
  | some ⟨.none, none, .fields vs, sl⟩ => vs.isEmpty && sl.isEmpty
  | _ => false
theorem isTab_ok {K : PySem.W.Frag} {P : Addr} (h : isTab K P = true) : K.lookup P = some { cls := .none, data := .fields #[] } := by
  unfold isTab at h
  split at h
  · rename_i vs sl e
    obtain ⟨h1, h2⟩ := Bool.and_eq_true_iff.mp h
    have e1 : vs = #[] := by simpa using h1
    have e2 : sl = #[] := by simpa using h2
    subst e1 e2
    exact e
  · cases h
def dropA (K : PySem.W.Frag) (P : Addr) : PySem.W.Frag := K.filter fun q => !(q.1 == P)
theorem drop_look {P : Addr} : ∀ {K : PySem.W.Frag} {a : Addr}, (dropA K P).lookup a = if a = P then none else K.lookup a
  | [], a => by
    show (none : Option Obj) = _
    split <;> rfl
  | (b, o) :: K, a => by
    have ih := drop_look (P := P) (K := K) (a := a)
    unfold dropA at ih ⊢
    rw [List.filter_cons]
    by_cases hb : b = P
    · subst hb
      have z : (!((b, o).1 == b)) = false := by simp
      rw [if_neg (by rw [z]; decide), ih]
      by_cases ha : a = b
      · rw [if_pos ha, if_pos ha]
      · rw [if_neg ha, if_neg ha]
        have n : (a == b) = false := by simpa using ha
        show _ = (match a == b with | true => some o | false => K.lookup a)
        rw [n]
    · have z : (!((b, o).1 == P)) = true := by simpa using hb
      rw [if_pos z]
      show (match a == b with | true => some o | false => (List.filter (fun q : Addr × Obj => !(q.1 == P)) K).lookup a) = _
      by_cases hab : a = b
      · subst hab
        rw [if_neg hb]
        show _ = (match a == a with | true => some o | false => K.lookup a)
        rw [beq_self_eq_true]
      · have n : (a == b) = false := by simpa using hab
        rw [n]
        show (List.filter (fun q : Addr × Obj => !(q.1 == P)) K).lookup a = _
        rw [ih]
        show _ = if a = P then none else (match a == b with | true => some o | false => K.lookup a)
        rw [n]
theorem drop_in {K : PySem.W.Frag} {P : Addr} {h : Heap} (X : K.In h) : (dropA K P).In h := fun a o e => by
  rw [drop_look] at e
  split at e
  · cases e
  · exact X a o e
abbrev AlL : Type := Bool × Al1
def obsL (F : SpecL) (K0 : PySem.W.Frag) : AlL :=
  (isTab K0 (tabOf K0 (codeOf K0 F.law)) && (codeHdIn (dropA K0 (tabOf K0 (codeOf K0 F.law))) (codeOf K0 F.law) (tabOf K0 (codeOf K0 F.law)) && (hasCodeB (dropA K0 (tabOf K0 (codeOf K0 F.law))) F.law (codeOf K0 F.law) &&
    F.more.all fun f => f (dropA K0 (tabOf K0 (codeOf K0 F.law))))), obsK F.base (dropA K0 (tabOf K0 (codeOf K0 F.law))))
def valL (F : SpecL) (p : Program) (w : World) : AlL := (true, valK F.base p w)
def saysL (F : SpecL) (p : Program) (w : World) (h : Heap) : Prop := ∃ (K : PySem.W.Frag) (c P : Addr), K.In h ∧ obsK F.base K = valK F.base p w ∧ codeHdIn K c P = true ∧ K.lookup P = none ∧ h.get? P = some { cls := .none, data := .fields #[] } ∧ hasCodeB K F.law c = true ∧ (F.more.all fun f => f K) = true
theorem saysL_of {F : SpecL} {p : Program} {w : World} {h : Heap} {K0 : PySem.W.Frag} (X : K0.In h) (e : obsL F K0 = valL F p w) : saysL F p w h := by
  have e1 : (isTab K0 (tabOf K0 (codeOf K0 F.law)) && (codeHdIn (dropA K0 (tabOf K0 (codeOf K0 F.law))) (codeOf K0 F.law) (tabOf K0 (codeOf K0 F.law)) && (hasCodeB (dropA K0 (tabOf K0 (codeOf K0 F.law))) F.law (codeOf K0 F.law) &&
    F.more.all fun f => f (dropA K0 (tabOf K0 (codeOf K0 F.law)))))) = true := congrArg (fun z : AlL => z.1) e
  have e2 : obsK F.base (dropA K0 (tabOf K0 (codeOf K0 F.law))) = valK F.base p w := congrArg (fun z : AlL => z.2) e
  obtain ⟨a1, e1⟩ := Bool.and_eq_true_iff.mp e1
  obtain ⟨a2, e1⟩ := Bool.and_eq_true_iff.mp e1
  obtain ⟨a3, a4⟩ := Bool.and_eq_true_iff.mp e1
  exact ⟨_, codeOf K0 F.law, tabOf K0 (codeOf K0 F.law), drop_in X, e2, a2, by rw [drop_look, if_pos rfl], X _ _ (isTab_ok a1), a3, a4⟩
def hookL (F : SpecL) (p : Program) (n0 : Nat) : Hook where
  α := AlL
  obs := fun s => obsL F (He.frG s.heap.get? (addrs n0 s.heap.objs.size))
  val := fun w => valL F p w
  says := fun w h => saysL F p w h
  of := fun _ _ e => saysL_of He.frG_in e
  keeps := fun _ _ _ ⟨K, c, P, hK, r1, r2, r3, r4, r5⟩ k => ⟨K, c, P, PySem.W.Frag.In.keeps hK k, r1, r2, r3, k _ _ r4, r5⟩
def obTL (F : SpecL) (n0 : Nat) (s : SharedT) : AlL := obsL F (He.frG (getT s) (addrs n0 s.n))
theorem obTL_eq {F : SpecL} {p : Program} {n0 : Nat} (s : SharedT) : obTL F n0 s = (hookL F p n0).obs s.abs := by
  have e : getT s = s.abs.heap.get? := funext (getT_eq s)
  have e2 : s.abs.heap.objs.size = s.n := absHeap_size s.tree s.n s.life
  show obsL F (He.frG (getT s) (addrs n0 s.n)) = obsL F (He.frG s.abs.heap.get? (addrs n0 s.abs.heap.objs.size))
  rw [e, e2]
def MainL (r : OpenRow) (q : Program) (loose : List Str) (F : SpecL) (n0 N : Nat) (l1 l2 : List Stmt) (tg : PySem.Expr) (keys : List (Option PySem.Expr)) (values : List PySem.Expr) (pos2 : Pos) (w : World) : Prop :=
  ∀ os pX, (fromBoot w os fun s0 => (full (denQ tabQ) r.prog w (tk r.prog w).hash (partsBy rdQ r.prog l1 l2 tg keys values pos2) N s0 pX).map fun x =>
      (x.2.2, looksF r.prog (boot_heap w.params) x.1.abs, seenQ q loose (importedModules r.prog.main.body) (fun s => xlAt q [] s && recOk r.toRowW.records s) x.1.abs, obTL F n0 x.1, x.1.life, x.1.os, keptL n0 (getT x.1))) =
    some (true, true, openGood q loose, valL F r.prog w, (boot_heap w.params).life, os, keptL n0 (boot_heap w.params).get?)
theorem behind_runL {r : OpenRow} {q : Program} {loose : List Str} {F : SpecL} {n0 N : Nat} {l1 l2 : List Stmt} {tg : PySem.Expr} {keys : List (Option PySem.Expr)} {values : List PySem.Expr} {pos pos2 : Pos} {w : World} (Rs : (boot_heap w.params).objs.size = n0) (Rm : MainL r q loose F n0 N l1 l2 tg keys values pos2 w) (Rd : DictP r N l1 l2 tg keys values pos2 w)
    (ok : PartsOk r.prog (partsBy rd0 r.prog l1 l2 tg keys values pos2) l1 l2 tg keys values pos pos2) (e : opening r.prog = plainProg r.prog.main.scope.names) (f : ∀ s, fenceModules? r.prog s = some s) (hch : chainsOk q = true) :
    (∃ s, AfterRun (opening r.prog) w s) ∧ ∀ s, AfterRun (opening r.prog) w s → ∃ s0, fenceModules? r.prog s = some s0 ∧ s0.gens = #[] ∧ ∃ s1, TopRan r.prog w s0 s1 ∧ s1.asleep ∧ s1.gens = #[] ∧ s1.heap.isNs mainGlobals = true ∧
      Ground q loose [] (fun m h => XL q [] m h ∧ RecFacts r.toRowW.records h) w s1 (s1.heap.nsMap mainGlobals) (s1.heap.nsMap builtinsNs) s1.heap ∧ (hookL F r.prog n0).says w s1.heap := by
  refine behind_of (Xt := fun s => xlAt q [] s && recOk r.toRowW.records s) e f (fun s z => ?_) hch fun os => ?_
  · obtain ⟨z1, z2⟩ := Bool.and_eq_true_iff.mp z
    exact ⟨xl_of s z1, recFacts_of z2⟩
  · obtain ⟨s0, hs, _, _, all⟩ := fromBoot_ok (Rm os default)
    rw [← hs]
    refine top_wp (N := N) ok (body_in _ _) (by show 1000 < cLine; decide) fun pX => ?_
    have a := Rm os pX
    have b := Rd os pX
    rw [all] at a b
    rw [all] at b
    rw [full_eq]
    obtain ⟨x, hx, hv⟩ := Option.map_eq_some_iff.mp a
    obtain ⟨s7, ob, bb⟩ := x
    rw [hx] at b
    have b' := pairs_eq (Option.some.inj b)
    simp only [Prod.mk.injEq] at hv
    obtain ⟨rfl, v2, v3, v4, v5, v6, v7⟩ := hv
    refine ⟨s7, ob, hx, b', ⟨v2, by rw [seenQ_eq]; exact v3, ?_, v5, v6, fun bd o h1 h2 _ hb => ?_⟩⟩
    · rw [← obTL_eq]
      exact v4
    · have lt : bd < n0 := by
        rw [← Rs]
        exact Heap.lt_size hb
      have k := kept_ok v7 lt h1 h2
      rw [getT_eq, hb] at k
      exact k
theorem code_is {K : PySem.W.Frag} {x : Str} {c : Addr} {oc : Value} {od : Option Addr} {a1 a2 : Str} {a3 : Arguments} {a4 : List Stmt} {a5 : Scope} {kV doc pm cdv ct dV : Value} {an : Option Addr} {osl : Array (Option Value)} (l : K.lookup (He.ga K x) = some ⟨oc, od, .func (PySem.W.fnOf a1 a2 a3 a4 a5 dV kV doc pm an cdv ct), osl⟩) (h : hasCodeB K x c = true) : cdv = .ref c := by
  unfold hasCodeB at h
  rw [l] at h
  replace h : isRefB cdv c = true := h
  unfold isRefB at h
  split at h
  · rw [beq_iff_eq.mp h]
  · cases h
theorem glo_ns {K : PySem.W.Frag} {x : Str} (h : (Fc.fn x).ok K = true) : PySem.W.nsIn K mainGlobals x = some (some (.ref (He.ga K x))) := He.eqO_ok (Bool.and_eq_true_iff.mp (show ((He.Fa.glo x).ok K && ((He.Fa.keep x).ok K && (He.Fa.code (x, none) x).ok K)) = true from h)).1
end HM
noncomputable section
namespace HM
open PySem PySem.W PySem.Calls PyProof.Rows HandSHeadRun DL
open L2 (defArgs defBody defScope)
section
end
end HM
noncomputable section
namespace HM
open PySem PySem.W PySem.Calls PyProof.Rows HandSHeadRun DL
open L2 (defArgs defBody defScope)
end HM
noncomputable section
namespace HM
open PySem PySem.W PySem.Calls PyProof.Rows HandSHeadRun DL
open L2 (defArgs defBody defScope)
/-- facts, functions, dicts added: the head's run is looked at in parts -/
def catP (A : List Fc) (B : List He.FnD) (C : List (Str × KTab)) (D : List (Str × KTab2)) (F : Spec1) : Spec1 := ⟨A ++ F.facts, B ++ F.fns, C ++ F.tds, D ++ F.tts, F.tfs⟩
theorem obs_catP {A : List Fc} {B : List He.FnD} {C : List (Str × KTab)} {D : List (Str × KTab2)} {F : Spec1} {P : Program} {w : World} {K : PySem.W.Frag} (h1 : obsK ⟨A, B, C, D, []⟩ K = valK ⟨A, B, C, D, []⟩ P w) (h2 : obsK F K = valK F P w) : obsK (catP A B C D F) K = valK (catP A B C D F) P w := by
  have e1 := congrArg (fun z : Al1 => z.1) h1
  have f1 := congrArg (fun z : Al1 => z.2.1) h1
  have g1 := congrArg (fun z : Al1 => z.2.2.1) h1
  have k1 := congrArg (fun z : Al1 => z.2.2.2) h1
  have e2 := congrArg (fun z : Al1 => z.1) h2
  have f2 := congrArg (fun z : Al1 => z.2.1) h2
  have g2 := congrArg (fun z : Al1 => z.2.2.1) h2
  have k2 := congrArg (fun z : Al1 => z.2.2.2) h2
  simp only [obsK, valK] at e1 f1 g1 k1 e2 f2 g2 k2
  refine Prod.ext ?_ (Prod.ext ?_ (Prod.ext ?_ ?_))
  · simp only [obsK, valK, catP, List.all_append]
    simp only [Bool.and_eq_true] at e1 e2 ⊢
    exact ⟨⟨e1.1, e2.1⟩, ⟨⟨⟨e1.2.1.1, e2.2.1.1⟩, ⟨e1.2.1.2, e2.2.1.2⟩⟩, e2.2.2⟩⟩
  · simp only [obsK, valK, catP, List.map_append]
    rw [f1, f2]
  · simp only [obsK, valK, catP, List.map_append]
    simp only [List.map_nil, List.append_nil] at g1
    rw [g1, List.append_assoc, List.append_assoc, g2]
  · simp only [obsK, valK, catP, List.map_append]
    rw [k1, k2]
end HM
noncomputable section
namespace HM
open PySem PySem.W PySem.Calls PyProof.Rows HandSHeadRun DL
open L2 (defArgs defBody defScope)
def SeP (r : OpenRow) (q : Program) (loose : List Str) (n0 N : Nat) (l1 l2 : List Stmt) (tg : PySem.Expr) (keys : List (Option PySem.Expr)) (values : List PySem.Expr) (pos2 : Pos) (w : World) : Prop :=
  ∀ os pX, (fromBoot w os fun s0 => (full (denQ tabQ) r.prog w (tk r.prog w).hash (partsBy rdQ r.prog l1 l2 tg keys values pos2) N s0 pX).map fun x =>
      (x.2.2, looksF r.prog (boot_heap w.params) x.1.abs, seenQ q loose (importedModules r.prog.main.body) (fun s => xlAt q [] s && recOk r.toRowW.records s) x.1.abs, x.1.life, x.1.os, keptL n0 (getT x.1))) =
    some (true, true, openGood q loose, (boot_heap w.params).life, os, keptL n0 (boot_heap w.params).get?)
section
end
end HM
noncomputable section
namespace HM
open PySem PySem.W PySem.Calls PyProof.Rows HandSHeadRun DL
variable {P : Program} {w : World} {K : PySem.W.Frag} {h base : Heap} {mg : Str → Option Value}
theorem f_tz (X : K.In h) (Gn : h.Ns mainGlobals mg) {x : Str} (c : (Fc.tz x).ok K = true) : GlTz ⟨P, w, K, mg, base⟩ x := by
  replace c : (match PySem.W.nsIn K mainGlobals x with
    | some (some (.ref a)) => (match K.lookup a with
      | some ⟨.type T, none, _, _⟩ => decide (T = "tuple")
      | _ => false)
    | _ => false) = true := c
  split at c
  · rename_i a e
    split at c
    · rename_i T d sl e2
      have eT : T = "tuple" := of_decide_eq_true c
      subst eT
      exact ⟨a, _, PySem.W.mg_of X Gn e, e2, rfl, rfl⟩
    · cases c
  · cases c
end HM
noncomputable section
namespace HM
open PySem PySem.W PySem.Calls PyProof.Rows HandSHeadRun DL
open L2 (defArgs defBody defScope)
def ObL (r : OpenRow) (F : SpecL) (n0 N : Nat) (l1 l2 : List Stmt) (tg : PySem.Expr) (keys : List (Option PySem.Expr)) (values : List PySem.Expr) (pos2 : Pos) (w : World) : Prop :=
  ∀ os pX, (fromBoot w os fun s0 => (full (denQ tabQ) r.prog w (tk r.prog w).hash (partsBy rdQ r.prog l1 l2 tg keys values pos2) N s0 pX).map fun x => obTL F n0 x.1) = some (valL F r.prog w)
section
variable {r : OpenRow} {q : Program} {loose : List Str} {A : List Fc} {B : List He.FnD} {C : List (Str × KTab)} {D : List (Str × KTab2)} {F : Spec1} {law : Str} {more : List (PySem.W.Frag → Bool)} {n0 N : Nat} {l1 l2 : List Stmt} {tg : PySem.Expr} {keys : List (Option PySem.Expr)} {values : List PySem.Expr} {pos2 : Pos} {w : World}
theorem obsL_cat {K : PySem.W.Frag} {p : Program} (h1 : obsL ⟨⟨A, B, C, D, []⟩, law, []⟩ K = valL ⟨⟨A, B, C, D, []⟩, law, []⟩ p w) (h2 : obsL ⟨F, law, more⟩ K = valL ⟨F, law, more⟩ p w) : obsL ⟨catP A B C D F, law, more⟩ K = valL ⟨catP A B C D F, law, more⟩ p w := by
  have a : obsK ⟨A, B, C, D, []⟩ (dropA K (tabOf K (codeOf K law))) = valK ⟨A, B, C, D, []⟩ p w := congrArg (fun z : AlL => z.2) h1
  have b : obsK F (dropA K (tabOf K (codeOf K law))) = valK F p w := congrArg (fun z : AlL => z.2) h2
  have c : (obsL ⟨F, law, more⟩ K).1 = true := congrArg (fun z : AlL => z.1) h2
  exact Prod.ext c (obs_catP a b)
theorem obL_cat (h1 : ObL r ⟨⟨A, B, C, D, []⟩, law, []⟩ n0 N l1 l2 tg keys values pos2 w) (h2 : ObL r ⟨F, law, more⟩ n0 N l1 l2 tg keys values pos2 w) : ObL r ⟨catP A B C D F, law, more⟩ n0 N l1 l2 tg keys values pos2 w := by
  intro os pX
  have a := h1 os pX
  have b := h2 os pX
  obtain ⟨s0, hs, _, _, all⟩ := fromBoot_ok a
  rw [all] at a b ⊢
  cases e : full (denQ tabQ) r.prog w (tk r.prog w).hash (partsBy rdQ r.prog l1 l2 tg keys values pos2) N s0 pX with
  | none => rw [e] at a; cases a
  | some x =>
    rw [e] at a b
    show some _ = some _
    exact congrArg some (obsL_cat (Option.some.inj a) (Option.some.inj b))
theorem mainL_of {F : SpecL} (h1 : SeP r q loose n0 N l1 l2 tg keys values pos2 w) (h2 : ObL r F n0 N l1 l2 tg keys values pos2 w) : MainL r q loose F n0 N l1 l2 tg keys values pos2 w := by
  intro os pX
  have a := h1 os pX
  have b := h2 os pX
  obtain ⟨s0, hs, _, _, all⟩ := fromBoot_ok a
  rw [all] at a b ⊢
  cases e : full (denQ tabQ) r.prog w (tk r.prog w).hash (partsBy rdQ r.prog l1 l2 tg keys values pos2) N s0 pX with
  | none => rw [e] at a; cases a
  | some x =>
    rw [e] at a b
    have a' := Option.some.inj a
    have z : obTL F n0 x.1 = valL F r.prog w := Option.some.inj b
    show some _ = some _
    congr 1
    exact Prod.ext (congrArg (·.1) a') (Prod.ext (congrArg (·.2.1) a') (Prod.ext (congrArg (·.2.2.1) a') (Prod.ext z (congrArg (·.2.2.2) a'))))
end
end HM
namespace LL
open PySem PySem.Spec PyProof.Rows L2 DL LamX
/-- what the law keeps beside its row: tables of code objects, and a state of its own -/
structure Ex (Ω : Type) where
  T : List (Addr × Str)
  at_ : PySem.W.Frag → Addr → Hp → Ω → Prop
  keep : ∀ K a H H' x, (∀ b o, b ≠ a → (∀ ps, o ≠ .tbl ps) → H b = some o → H' b = some o) → at_ K a H x → at_ K a H' x
def noEx (T : List (Addr × Str)) : Ex Unit := ⟨T, fun _ _ _ _ => True, fun _ _ _ _ _ _ _ => trivial⟩
abbrev M1 (r : Rw) : Addr → Prop := fun b => b = r.a
def noOwn (ev : Ev) : Prop := ∀ (i : Nat) (ds : Ow), ev[i]? ≠ some (.own ds)
structure RelL {Ω : Type} (G : Gm) (E : Ex Ω) (r : Rw) (σ : L2.St) (H : Hp) (ev : Ev) (rs : RS) (x : Ω) : Prop where
  rel : RelE G.K (M1 r) r σ H ev rs
  tabs : Tabs E.T H
  no : noOwn ev
  ext : E.at_ G.K r.a H x
section
variable {Ω : Type} {G : Gm} {E : Ex Ω} {r : Rw} {σ : L2.St} {H H' : Hp} {ev : Ev} {rs rs' : RS} {x : Ω} {k : Nat} {sc : Sx} {N : List Str}
theorem noOwn_lend (ev : Ev) : noOwn (lend ev) := fun i ds e => lend_own i ⟨ds, e⟩
theorem ext_lst (x : ExtN H H') {a : Addr} {xs : List V} (h : H a = some (.lst xs)) : H' a = some (.lst xs) := x _ _ h fun ps e => by cases e
theorem rd_lst (x : ExtN H H') {a : Addr} {xs : List V} (h : Rd H a (.lst xs)) : Rd H' a (.lst xs) := by
  rcases h with h | ⟨o, h⟩
  · exact .inl (x _ _ h fun ps e => by cases e)
  · exact .inr ⟨o, x _ _ h fun ps e => by cases e⟩
theorem sqt_extn {K : PySem.W.Frag} (x : ExtN H H') {a : Addr} {xs : List V} (h : SqT K H a xs) : SqT K H' a xs := by
  rcases h with (h | ⟨o, h⟩) | h
  · exact .inl (.inl (x _ _ h fun ps e => by cases e))
  · exact .inl (.inr ⟨o, x _ _ h fun ps e => by cases e⟩)
  · exact .inr h
mutual
theorem da_extn {K : PySem.W.Frag} {M : Addr → Prop} (x : ExtN H H') : ∀ {v : V} {d : D}, Da K M H v d → Da K M H' v d
  | _, _, .non => .non
  | _, _, .bl b => .bl b
  | _, _, .int i => .int i
  | _, _, .str z => .str z
  | _, _, .lst h n t => .lst (ext_lst x h) n (dal_extn x t)
  | _, _, .tup h t => .tup (sqt_extn x h) (dal_extn x t)
  | _, _, .dct h t n => .dct (x _ _ h fun ps e => by cases e) (fun p z => ⟨sqt_extn x (t p z).1, (t p z).2⟩) n
  | _, _, .txd h n l t => .txd (x _ _ h fun ps e => by cases e) n l (dal_extn x t)
  | _, _, .fzt h n t => .fzt (x _ _ h fun ps e => by cases e) n (dal_extn x t)
theorem dal_extn {K : PySem.W.Frag} {M : Addr → Prop} (x : ExtN H H') : ∀ {vs : List V} {ds : List D}, DaL K M H vs ds → DaL K M H' vs ds
  | _, _, .nil => .nil
  | _, _, .cons h t => .cons (da_extn x h) (dal_extn x t)
end
theorem row_extn {K : PySem.W.Frag} {M : Addr → Prop} (x : ExtN H H') (h : RowAt K M H r rs) : RowAt K M H' r rs := by
  refine ⟨⟨ext_lst x h.1.1, h.1.2⟩, ?_⟩
  rcases h.2 with ⟨q, n⟩ | q
  · exact .inl ⟨rd_lst x q, n⟩
  · exact .inr q
theorem rel_extn {K : PySem.W.Frag} {M : Addr → Prop} (x : ExtN H H') (R : RelE K M r σ H ev rs) : RelE K M r σ H' ev rs := by
  refine ⟨R.mr, fun b m => ?_, row_extn x R.row, fun i s e => ?_, R.len⟩
  · obtain ⟨o, q, mu⟩ := R.ml b m
    cases o with
    | lst xs => exact ⟨_, ext_lst x q, trivial⟩
    | dK kvs => exact ⟨_, x _ _ q (fun ps e => by cases e), trivial⟩
    | _ => exact mu.elim
  · have q := R.slots i s e
    cases s with
    | hid => trivial
    | own _ => trivial
    | row => exact q
    | dat d => obtain ⟨v, h1, h2⟩ := q; exact ⟨v, h1, da_extn x h2⟩
theorem tabs_keep {T : List (Addr × Str)} (h : Tabs T H) (s : ∀ b o, b ≠ r.a → H b = some o → H' b = some o) {xs : List V} (hr : H r.a = some (.lst xs)) : Tabs T H' := fun p hp => by
  obtain ⟨ps, h1, h2, h3⟩ := h p hp
  have np : ∀ {b o}, H b = some o → (∀ ys, o ≠ .lst ys) → H' b = some o := fun {b o} e n => s b o (fun z => n xs (by rw [z, hr] at e; exact (Option.some.inj e).symm)) e
  refine ⟨ps, np h1 (fun ys e => by cases e), h2, fun pos cv hc => ?_⟩
  obtain ⟨c, e1, e2⟩ := h3 pos cv hc
  exact ⟨c, e1, np e2 fun ys e => by unfold CodeO at e; cases e⟩
theorem RelL.stp (R : RelL G E r σ H ev rs x) (s : Stp r H H') {M' : Addr → Prop} (w : RowAt G.K M' H' r rs') : RelL G E r σ H' ev rs' x :=
  ⟨R.rel.stp s ⟨w.1, sqlm_kp R.rel.row.2 (s.kp R.rel.mr)⟩, tabs_keep R.tabs s R.rel.row.1.1, R.no, E.keep _ _ _ _ _ (fun b o n _ e => s b o n e) R.ext⟩
/-- the frame's statements keep all but the row -/
def PrL1 (r : Rw) (H : Hp) : Addr → HO → Prop := fun b o => b ≠ r.a ∧ H b = some o
theorem RelL.relS (R : RelL G E r σ H ev rs x) : RelS G.K (M1 r) r (PrL1 r H) σ H ev rs fun _ => 0 := by
  have av : ∀ b, Av (M1 r) ev (fun _ => 0) b → M1 r b := fun b m => m.elim id fun ⟨i, ⟨ds, e⟩, _⟩ => (R.no i ds e).elim
  exact ⟨R.rel.sub av (.inl rfl), rfl, fun b o q => q.2, fun o q => q.1 rfl, fun b m n => absurd m n, fun i ds e => (R.no i ds e).elim, fun i j ⟨ds, e⟩ => (R.no i ds e).elim⟩
theorem RelL.back {σ' : L2.St} {ev' : Ev} {oa : Nat → Addr} (R : RelL G E r σ H ev rs x) (R' : RelS G.K (M1 r) r (PrL1 r H) σ' H' ev' rs' oa) : RelL G E r σ' H' (lend ev') rs' x :=
  ⟨R'.lent, tabs_keep R.tabs (fun b o n e => R'.prot b o ⟨n, e⟩) R.rel.row.1.1, noOwn_lend _, E.keep _ _ _ _ _ (fun b o n _ e => R'.prot b o ⟨n, e⟩) R.ext⟩
abbrev ML (Ω α : Type) := RS → Ω → Option (α × RS × Ω)
def tEL (G : Gm) (E : Ex Ω) (f : Ev → ML Ω D) : TE := fun σ H Q => ∃ r ev rs x, RelL G E r σ H ev rs x ∧ ∃ d rs' x', f ev rs x = some (d, rs', x') ∧ ∀ H', RelL G E r σ H' ev rs' x' → ∀ v, Da G.K (M1 r) H' v d → Q v H'
def tTL (G : Gm) (E : Ex Ω) (f : Ev → ML Ω Bool) : TT := fun σ H Q => ∃ r ev rs x, RelL G E r σ H ev rs x ∧ ∃ b rs' x', f ev rs x = some (b, rs', x') ∧ ∀ H', RelL G E r σ H' ev rs' x' → Q b H'
inductive RsL where
  | nx (ev : Ev)
  | ret (d : D)
def WanL (G : Gm) (E : Ex Ω) (r : Rw) (rs' : RS) (x' : Ω) (D : Ends) : RsL → Prop
  | .nx ev' => ∀ σ' H', RelL G E r σ' H' ev' rs' x' → D.nx σ' H'
  | .ret d => ∀ v H', Da G.K (M1 r) H' v d → D.rt v H'
def tSL (G : Gm) (E : Ex Ω) (f : Ev → ML Ω RsL) : TS := fun D σ H => ∃ r ev rs x, RelL G E r σ H ev rs x ∧ ∃ o rs' x', f ev rs x = some (o, rs', x') ∧ WanL G E r rs' x' D o
/-- the def's code object and its table -/
structure LamK (E : Ex Ω) (X : Cx) : Prop where
  ex : ∃ c P, X.env.code = .ref c ∧ TabB X.base X.mg c P ∧ (P, X.env.qual ++ "<lambda>") ∈ E.T ∧ ∀ p ∈ E.T, p.1 = P → p.2 = X.env.qual ++ "<lambda>"
def SEL (G : Gm) (E : Ex Ω) (k : Nat) (sc : Sx) (N : List Str) (e : Expr) (f : Ev → ML Ω D) : Prop := ∀ (X : Cx), Gd G k sc N X → LamK E X → PE X e (tEL G E f)
def STL (G : Gm) (E : Ex Ω) (k : Nat) (sc : Sx) (N : List Str) (e : Expr) (f : Ev → ML Ω Bool) : Prop := ∀ (X : Cx), Gd G k sc N X → LamK E X → PT X e (tTL G E f)
def SWL (G : Gm) (E : Ex Ω) (k : Nat) (sc : Sx) (N : List Str) (e : Expr) (f : Ev → ML Ω Bool) : Prop := ∀ (X : Cx), Gd G k sc N X → LamK E X → PW X e (tTL G E f)
def SSL (G : Gm) (E : Ex Ω) (k : Nat) (sc : Sx) (N : List Str) (st : Stmt) (f : Ev → ML Ω RsL) : Prop := ∀ (X : Cx), Gd G k sc N X → LamK E X → PassesOwn (model X.prog X.w) X.A X.env X.xe → PS X st (tSL G E f)
def SBL (G : Gm) (E : Ex Ω) (k : Nat) (sc : Sx) (N : List Str) (st : List Stmt) (f : Ev → ML Ω RsL) : Prop := ∀ (X : Cx), Gd G k sc N X → LamK E X → PassesOwn (model X.prog X.w) X.A X.env X.xe → PSs X st (tSL G E f)
def upT (f : Ev → Mn Bool) (ev : Ev) : ML Ω Bool := fun rs x => match f ev rs with
  | some (.val d, rs') => some (d, rs', x)
  | _ => none
def upS (f : Ev → Ms) (ev : Ev) : ML Ω RsL := fun rs x => match f ev rs with
  | some (.nx ev', rs') => some (.nx (lend ev'), rs', x)
  | some (.ret d, rs') => some (.ret d, rs', x)
  | _ => none
theorem upT_some {f : Ev → Mn Bool} {d : Bool} {x' : Ω} (h : upT f ev rs x = some (d, rs', x')) : f ev rs = some (.val d, rs') ∧ x' = x := by
  dsimp only [upT] at h
  split at h
  · rename_i e; cases h; exact ⟨e, rfl⟩
  · cases h
theorem tL {e : Expr} {f : Ev → Mn Bool} (h : ST G k sc N e f) : STL G E k sc N e (upT f) := fun X g _ => by
  refine pt_imp (h X _ g L2.takes0) fun σ H Q q => ?_
  obtain ⟨r, ev, rs, x, R, d, rs', x', e, q⟩ := q
  obtain ⟨e1, rfl⟩ := upT_some e
  exact ⟨M1 r, r, ev, rs, R.rel, .val d, rs', e1, fun H' s w => q H' (R.stp s w)⟩
theorem sL {st : Stmt} {f : Ev → Ms} (h : SS G k sc N st f) : SSL G E k sc N st (upS f) := fun X g _ po => by
  refine ps_imp (h X _ g L2.takes0 po) fun D σ H q => ?_
  obtain ⟨r, ev, rs, x, R, o, rs', x', e, q⟩ := q
  dsimp only [upS] at e
  split at e
  · rename_i ev1 rs1 e1
    cases e
    exact ⟨M1 r, r, PrL1 r H, ev, rs, _, R.relS, .nx _, _, e1, fun σ' H' oa' R' => q σ' H' (R.back R')⟩
  · rename_i d rs1 e1
    cases e
    exact ⟨M1 r, r, PrL1 r H, ev, rs, _, R.relS, .ret d, _, e1, fun v H' pk row da => q v H' da⟩
  · cases e
def tcL (op : D → D → Option Bool) (fa : Ev → ML Ω D) (fb : Ev → Mn D) (ev : Ev) : ML Ω Bool := fun rs x => match fa ev rs x with
  | some (d, rs1, x1) => (match fb ev rs1 with
    | some (.val y, rs2) => (op d y).map fun b => (b, rs2, x1)
    | _ => none)
  | none => none
theorem T_cmpL {a b : Expr} {fa : Ev → ML Ω D} {fb : Ev → Mn D} {op : CmpOp} {f : D → D → Option Bool} {p : Pos} (c : CmpR G k sc N op f) (ha : SEL G E k sc N a fa) (hb : SE G k sc N b fb) (hm : behindInMarks op b = false := by first | exact nomark _ (by decide) (by decide) | rfl) :
    STL G E k sc N (.Compare a [op] [b] p) (tcL f fa fb) := fun X g lk => by
  obtain ⟨rl, ho, hr⟩ := c X g
  refine pt_imp (pt_cmpR ho (ha X g lk) (hb X (fun _ _ _ _ => False) g L2.takes0) hm) fun σ H Q q => ?_
  obtain ⟨r, ev, rs, x, R, d, rs', x', e, q⟩ := q
  dsimp only [tcL] at e
  split at e
  · rename_i d1 rs1 x1 e1
    split at e
    · rename_i y rs2 e2
      obtain ⟨bb, e3, e4⟩ := Option.map_eq_some_iff.mp e
      cases e4
      refine ⟨r, ev, rs, x, R, d1, _, _, e1, fun H1 R1 v1 dv1 => ⟨M1 r, r, ev, _, R1.rel, .val y, _, e2, fun H2 s w v2 dv2 => ?_⟩⟩
      exact hr (M1 r) H2 v1 v2 d1 y _ _ (R1.stp s w).rel.ml (dv1.kp R1.rel.ml (s.kp R1.rel.mr)) dv2 e3 ⟨_, rfl, q H2 (R1.stp s w)⟩
    · cases e
  · cases e
theorem E_cmpL {a b : Expr} {fa : Ev → ML Ω D} {fb : Ev → Mn D} {op : CmpOp} {f : D → D → Option Bool} {p : Pos} (c : CmpR G k sc N op f) (ha : SEL G E k sc N a fa) (hb : SE G k sc N b fb) (hm : behindInMarks op b = false := by first | exact nomark _ (by decide) (by decide) | rfl) :
    SEL G E k sc N (.Compare a [op] [b] p) (fun ev rs x => (tcL f fa fb ev rs x).map fun q => (.bool q.1, q.2)) := fun X g lk => by
  obtain ⟨rl, ho, hr⟩ := c X g
  refine pe_imp (pe_cmpR ho (ha X g lk) (hb X (fun _ _ _ _ => False) g L2.takes0) hm) fun σ H Q q => ?_
  obtain ⟨r, ev, rs, x, R, d, rs', x', e, q⟩ := q
  obtain ⟨⟨b0, q2⟩, e5, e4⟩ := Option.map_eq_some_iff.mp e
  clear e
  cases e4
  have e := e5
  clear e5
  dsimp only [tcL] at e
  split at e
  · rename_i d1 rs1 x1 e1
    split at e
    · rename_i y rs2 e2
      obtain ⟨bb, e3, e4⟩ := Option.map_eq_some_iff.mp e
      cases e4
      refine ⟨r, ev, rs, x, R, d1, _, _, e1, fun H1 R1 v1 dv1 => ⟨M1 r, r, ev, _, R1.rel, .val y, _, e2, fun H2 s w v2 dv2 => ?_⟩⟩
      exact hr (M1 r) H2 v1 v2 d1 y b0 _ (R1.stp s w).rel.ml (dv1.kp R1.rel.ml (s.kp R1.rel.mr)) dv2 e3 (q H2 (R1.stp s w) _ (.bl b0))
    · cases e
  · cases e
def andL (fa fb : Ev → ML Ω Bool) (ev : Ev) : ML Ω Bool := fun rs x => match fa ev rs x with
  | some (true, rs1, x1) => fb ev rs1 x1
  | some (false, rs1, x1) => some (false, rs1, x1)
  | none => none
theorem w_andL1 {a : Expr} {fa : Ev → ML Ω Bool} {p : Pos} (h : STL G E k sc N a fa) : SWL G E k sc N (.BoolOp .And [a] p) fa := fun X g lk => pw_and1 (h X g lk)
theorem w_andL {a b : Expr} {rest : List Expr} {fa fb : Ev → ML Ω Bool} {p : Pos} (ha : STL G E k sc N a fa) (hb : SWL G E k sc N (.BoolOp .And (b :: rest) p) fb) : SWL G E k sc N (.BoolOp .And (a :: b :: rest) p) (andL fa fb) := fun X g lk => by
  refine pw_imp (pw_and (ha X g lk) (hb X g lk)) fun σ H Q q => ?_
  obtain ⟨r, ev, rs, x, R, d, rs', x', e, q⟩ := q
  dsimp only [andL] at e
  split at e
  · rename_i rs1 x1 e1
    exact ⟨r, ev, rs, x, R, true, rs1, x1, e1, fun H1 R1 => iteT ⟨r, ev, rs1, x1, R1, d, rs', x', e, q⟩⟩
  · rename_i rs1 x1 e1
    cases e
    exact ⟨r, ev, rs, x, R, false, _, _, e1, fun H1 R1 => iteF (q H1 R1)⟩
  · cases e
theorem t_wL {e : Expr} {f : Ev → ML Ω Bool} (h : SWL G E k sc N e f) : STL G E k sc N e f := fun X g lk => (h X g lk).pt
def nilL (ev : Ev) : ML Ω RsL := fun rs x => some (.nx ev, rs, x)
def seqL (f g : Ev → ML Ω RsL) (ev : Ev) : ML Ω RsL := fun rs x => match f ev rs x with
  | some (.nx ev', rs', x') => g ev' rs' x'
  | q => q
theorem s_nilL : SBL G E k sc N [] nilL := fun X g lk po => pss_imp pss_nil fun D σ H h => by
  obtain ⟨r, ev, rs, x, R, o, rs', x', e, q⟩ := h
  cases e
  exact q σ H R
theorem s_oneL {st : Stmt} {f : Ev → ML Ω RsL} (h1 : SSL G E k sc N st f) : SBL G E k sc N [st] f := fun X g lk po => pss_one (h1 X g lk po)
theorem s_consL {st : Stmt} {rest : List Stmt} {f g : Ev → ML Ω RsL} (h1 : SSL G E k sc N st f) (h2 : SBL G E k sc N rest g) : SBL G E k sc N (st :: rest) (seqL f g) := fun X gd lk po => by
  refine pss_imp (pss_cons (h1 X gd lk po) (h2 X gd lk po)) fun D σ H h => ?_
  obtain ⟨r, ev, rs, x, R, o, rs', x', e, q⟩ := h
  dsimp only [seqL] at e
  split at e
  · rename_i ev1 rs1 x1 e1
    exact ⟨r, ev, rs, x, R, .nx ev1, rs1, x1, e1, fun σ1 H1 R1 => ⟨r, ev1, rs1, x1, R1, o, rs', x', e, q⟩⟩
  · rename_i qq hn
    refine ⟨r, ev, rs, x, R, o, rs', x', e, ?_⟩
    cases o with
    | nx ev1 => exact absurd e (hn ev1 rs' x')
    | ret d => exact q
def ifL (t : Ev → ML Ω Bool) (f g : Ev → ML Ω RsL) (ev : Ev) : ML Ω RsL := fun rs x => match t ev rs x with
  | some (true, rs1, x1) => f ev rs1 x1
  | some (false, rs1, x1) => g ev rs1 x1
  | none => none
theorem s_ifL {c : Expr} {a b : List Stmt} {p : Pos} {t : Ev → ML Ω Bool} {f g : Ev → ML Ω RsL} (hc : STL G E k sc N c t) (ha : SBL G E k sc N a f) (hb : SBL G E k sc N b g) : SSL G E k sc N (.If c a b p) (ifL t f g) := fun X gd lk po => by
  refine ps_imp (ps_if (hc X gd lk) (ha X gd lk po) (hb X gd lk po)) fun D σ H h => ?_
  obtain ⟨r, ev, rs, x, R, o, rs', x', e, q⟩ := h
  dsimp only [ifL] at e
  split at e
  · rename_i rs1 x1 e1
    exact ⟨r, ev, rs, x, R, true, rs1, x1, e1, fun H1 R1 => iteT ⟨r, ev, rs1, x1, R1, o, rs', x', e, q⟩⟩
  · rename_i rs1 x1 e1
    exact ⟨r, ev, rs, x, R, false, rs1, x1, e1, fun H1 R1 => iteF ⟨r, ev, rs1, x1, R1, o, rs', x', e, q⟩⟩
  · cases e
def retL (f : Ev → ML Ω D) (ev : Ev) : ML Ω RsL := fun rs x => (f ev rs x).map fun q => (.ret q.1, q.2)
theorem s_retL {e : Expr} {p : Pos} {f : Ev → ML Ω D} (h : SEL G E k sc N e f) : SSL G E k sc N (.Return (some e) p) (retL f) := fun X g lk po => by
  refine ps_imp (ps_ret (h X g lk)) fun D σ H h => ?_
  obtain ⟨r, ev, rs, x, R, o, rs', x', e, q⟩ := h
  obtain ⟨⟨d, q2⟩, e5, e4⟩ := Option.map_eq_some_iff.mp e
  cases e4
  exact ⟨r, ev, rs, x, R, d, rs', x', e5, fun H' R' v dv => q v H' dv⟩
end
end LL
namespace LL
open PySem PySem.Spec PyProof.Rows L2 DL LamX
theorem pss_given {X : Cx} {P : Prop} {b : List Stmt} {t : TS} (h : P → PSs X b t) : PSs X b (fun D σ H => P ∧ (σ.length = X.N.length → t D σ H)) := ⟨fun pins s σ H D I q => (h q.1).run pins s σ H D I (q.2 I.len)⟩
def noArgs : Arguments := { posonlyargs := [], args := [], vararg := none, kwonlyargs := [], kw_defaults := [], kwarg := none, defaults := [] }
abbrev Nbad : List Str := ["work", "e"]
/-- the def that calls a lambda, as the module's name says it -/
structure FnW (G : Gm) (x : Str) (st : Stmt) : Prop where
  ex : ∃ (g : Addr) (oc : Value) (od : Option Addr) (kV doc pm cdv ct : Value) (an : Option Addr) (osl : Array (Option Value)), G.mg x = some (.ref g) ∧
    G.K.lookup g = some ⟨oc, od, .func (PySem.W.fnOf x x (defArgs st) (defBody st) (defScope st) .none kV doc pm an cdv ct), osl⟩ ∧ PySem.W.codeIn G.K cdv x = true ∧ PySem.W.keepIn G.K (.ref g) = true ∧
    L2.Binds G.K (PySem.W.fnOf x x (defArgs st) (defBody st) (defScope st) .none kV doc pm an cdv ct) ["work"] []
/-- two classes of errors -/
structure WrF (G : Gm) (CS CI CT : Addr) : Prop where
  q : G.mg "QueryError" = some (.ref CS)
  i : G.mg "InvalidText" = some (.ref CI)
  t : G.mg "NotText" = some (.ref CT)
  ci : PySem.W.exmOne G.K (.ref CI) (.ref CS) = some true
  ct : PySem.W.exmOne G.K (.ref CT) (.ref CS) = some true
  ei : ExcC G.K CI
  et : ExcC G.K CT
  kii : PySem.W.kitOne G.K (.ref CI) (.ref CI) = some true
  kti : PySem.W.kitOne G.K (.ref CT) (.ref CI) = some false
  ktt : PySem.W.kitOne G.K (.ref CT) (.ref CT) = some true
def TTw (CI CT : Addr) : (XK → Hp → VK → Prop) → Hp → VK → Prop := fun tl H Q =>
  tl (fun cls dd H' => dd = none ∧ ((cls = .ref CI ∧ Q (.str "invalid") H') ∨ (cls = .ref CT ∧ Q (.str "text") H'))) H (fun _ H' => Q (.str "") H')
/-- what the lambda's body gives, told as a word -/
def dWr {Ω : Type} (fb : Ev → Mn D) (ev : Ev) : ML Ω D := fun rs x => match fb ev rs with
  | some (.val _, rs') => some (.str "", rs', x)
  | some (.exc c none, rs') => if c = ("InvalidText" : Str) then some (.str "invalid", rs', x) else if c = ("NotText" : Str) then some (.str "text", rs', x) else none
  | _ => none
section
variable {Ω : Type} {G : Gm} {E : Ex Ω} {k : Nat} {sc : Sx} {N : List Str}
/-- the reading of a lambda's call -/
theorem e_lamW {x : Str} {st : Stmt} {CS CI CT : Addr} {body : Expr} {scope : Scope} {p lpos pos : Pos} {fb : Ev → Mn D} (F : WrF G CS CI CT) (W : FnW G x st) (S : FnScope Nbad ["work"] (defScope st)) (hva : Vis (defScope st) "work")
    (gv : ∀ (X : Cx) (g : Addr) (cdg : Value) (q : Str), X.K = G.K → X.mg = G.mg → GivesTo X Nbad x (defScope st) g cdg (defBody st) "work" q (TTw CI CT))
    (L : LamS sc.sc scope) (hb : SE G k ⟨scope, fun _ => false⟩ N body fb) (hg : glB sc x = true := by rfl) (hdb : (x == ("__debug__" : Str)) = false := by decide) :
    SEL G E (k + 2) sc N (.Call (.Name x p) [.Lambda noArgs body scope lpos] [] pos) (dWr fb) := fun X g lk => by
  obtain ⟨c, P, hcode, TB, hm, hu⟩ := lk.ex
  obtain ⟨gg, oc, od, kV, doc, pm, cdv, ct, an, osl, e1, e2, e3, e4, e5⟩ := W.ex
  refine pe_imp (pe_lamcall (T := E.T) (TT := TTw CI CT) (t := fun E' => tE G.K G.mg (fun cls d _ H => E' cls d H) fb) (Ng := Nbad) (a := "work") (k := k) (gl_of g hg) (by rw [g.hmg]; exact e1) (by rw [g.hK]; exact e4) (by rw [g.hK]; exact e2) (by rw [g.hK]; exact e3) (by rw [g.hK]; exact e5) S rfl hva
    (gv X gg cdv _ g.hK g.hmg) TB hcode hm hu g.room (by rw [g.hsc]; exact L) rfl (fun _ _ _ _ _ => rfl) (fun A outer s H E' f c' hr => ?_) hdb) fun σ H Q q => ?_
  · have g2 : Gd G k ⟨scope, fun _ => false⟩ N (lamCx X A outer s H E' scope f c') := ⟨g.hN, g.nd, rfl, (fun x e => by cases e), rfl, hr, g.hP, g.hw, g.hK, g.hmg, g.hb, fun e => by cases e⟩
    exact hb _ _ g2 (takes_of rfl rfl rfl rfl)
  · obtain ⟨r, ev, rs, x, R, d, rs', x', e, q⟩ := q
    refine ⟨R.tabs, fun H1 x1 T1 => ?_⟩
    have R1 : RelL G E r σ H1 ev rs x := ⟨rel_extn x1 R.rel, T1, R.no, E.keep _ _ _ _ _ (fun b o _ nt e => x1 b o e nt) R.ext⟩
    unfold dWr at e
    split at e
    · rename_i d0 rs1 e0
      cases e
      exact ⟨M1 r, r, ev, rs, R1.rel, .val d0, _, e0, fun H' s w v dv => q H' (R1.stp s w) _ (.str "")⟩
    · rename_i cl rs1 e0
      refine ⟨M1 r, r, ev, rs, R1.rel, .exc cl none, _, e0, fun cls dd H' s w a => ?_⟩
      obtain ⟨⟨C, a1, a2⟩, a3⟩ := a
      refine ⟨a3, ?_⟩
      split at e
      · rename_i hc
        subst hc
        cases e
        rw [F.i] at a1
        cases a1
        exact .inl ⟨a2, q H' (R1.stp s w) _ (.str _)⟩
      · split at e
        · rename_i hc
          subst hc
          cases e
          rw [F.t] at a1
          cases a1
          exact .inr ⟨a2, q H' (R1.stp s w) _ (.str _)⟩
        · cases e
    · cases e
end
end LL
namespace LL
open PySem PySem.Spec PyProof.Rows L2 DL LamX
/-- try: work() / except QueryError as e: return .. of two classes; return "" -/
def clsW (CI : Addr) (cls : Value) : Str := if cls = .ref CI then "invalid" else "text"
theorem wrong_gives {G : Gm} {X : Cx} {CS CI CT g : Addr} {cdg : Value} {x q : Str} {sg : Scope} {w3 : Str} {j1 j2 j3 j4 : Nat} {p1 p2 p3 p4 p5 p6 p7 p8 q1 q2 q3 q4 q5 q6 q7 q8 q9 r1 r2 r3 r4 r5 : Pos} (hK : X.K = G.K) (hmg : X.mg = G.mg) (F : WrF G CS CI CT) (hin : G.mg "isinstance" = none)
    (S : FnScope Nbad ["work"] sg) (hq : sg.names.lookup ("QueryError" : Str) = some .globalImplicit) (hi : sg.names.lookup ("InvalidText" : Str) = some .globalImplicit) (ht : sg.names.lookup ("NotText" : Str) = some .globalImplicit) (hs : sg.names.lookup ("isinstance" : Str) = some .globalImplicit) (he : sg.names.lookup ("e" : Str) = some .local) :
    GivesTo X Nbad x sg g cdg [.Try [.Expr (.Call (.Name "work" p1) [] [] p2) p3] [.ExceptHandler (some (.Name "QueryError" p4)) (some "e")
      [.Return (some (.IfExp (.Call (.Name "isinstance" q1) [.Name "e" q2, .Name "InvalidText" q3] [] q4) (.Constant (.str "invalid") j1 q5)
        (.IfExp (.Call (.Name "isinstance" q6) [.Name "e" q7, .Name "NotText" q8] [] q9) (.Constant (.str "text") j2 r1) (.Constant (.str w3) j3 r2) r3) r4)) r5] p5] [] [] p6, .Return (some (.Constant (.str "") j4 p7)) p8] "work" q (TTw CI CT) := by
  intro f c' s H Q tl act hc h
  have hne : CI ≠ CT := fun e => by
    have := F.kti
    rw [← e, F.kii] at this
    cases this
  refine ⟨_, pss_cons (ps_try_as (X := (cxOf C8.CX0 X.prog X.w X.K X.mg X.base Nbad x sg g cdg X.A X.stack s H C8.E0).nox) (i := 1) (c := .ref CS)
      (tb := fun W D σ H => ∃ Ech : XK, (∀ cls d σ' H', Ech cls d H' → W cls d σ' H') ∧ σ[0]? = some (some (.ref f)) ∧ H c' = some (LamX.CodeO c' q) ∧ tl Ech H (fun _ H' => D.nx σ H'))
      (ts := fun a cls d D σ H => (d = none ∧ (cls = .ref CI ∨ cls = .ref CT)) ∧ (σ.length = Nbad.length → σ[1]? = some (some (.ref a)) ∧ D.rt (.str (clsW CI cls)) H))
      rfl rfl S.nd rfl he ⟨hq, by decide, .inl (by show X.mg _ = _; rw [hmg]; exact F.q)⟩ LamX.takes0 (fun W pn xe tk _ => ?_) (fun a oe cls d pn hz hf => ?_)) (pss_one (ps_ret pe_str)), ?_⟩
  · refine ⟨fun pins s' σ H' D I h' => ?_⟩
    obtain ⟨Ech, hW, h1, h2, h3⟩ := h'
    exact (pss_one (ps_expr (act W pn xe Ech _ _ tk hW))).run pins s' σ H' D I ⟨h1, h2, h3⟩
  · refine pss_given fun ⟨e1, e2⟩ => ?_
    subst e1
    have gi : ∀ {n : Str} {C : Addr}, sg.names.lookup n = some .globalImplicit → X.mg n = some (.ref C) → (n == ("__debug__" : Str)) = false → ∀ {X' : Cx}, X' = (cxOf C8.CX0 X.prog X.w X.K X.mg X.base Nbad x sg g cdg X.A X.stack s H C8.E0).nox.suite a ((a, oe) :: pn) → ∀ p, PE X' (.Name n p) (tC (.ref C)) := fun {n C} h1 h2 h3 X' eX p => by
      subst eX
      exact pe_glob (v := .ref C) (u := .ref C) h1 h2 rfl h3
    have mi : X.mg "InvalidText" = some (.ref CI) := by rw [hmg]; exact F.i
    have mt : X.mg "NotText" = some (.ref CT) := by rw [hmg]; exact F.t
    have nb : X.mg "isinstance" = none := by rw [hmg]; exact hin
    rcases e2 with e2 | e2
    · subst e2
      have C : ExcC X.K CI := by rw [hK]; exact F.ei
      refine pss_imp (pss_one (ps_ret (pe_ifExp (pt_truth (pe_callB (call_isE C hz hf) hs nb PyProof.Rows.boot_isinstance (pa_cons (pe_var (i := 1) rfl (.inl he)) (pa_cons (gi hi mi (by decide) rfl _) pa_nil))) (fun _ => rfl)) pe_str
        (pe_ifExp (pt_truth (pe_callB (call_isE C hz hf) hs nb PyProof.Rows.boot_isinstance (pa_cons (pe_var (i := 1) rfl (.inl he)) (pa_cons (gi ht mt (by decide) rfl _) pa_nil))) (fun _ => rfl)) pe_str pe_str)))) fun D σ H hh => ?_
      have ew : clsW CI (.ref CI) = "invalid" := if_pos rfl
      rw [ew] at hh
      exact ⟨_, hh.1, .ref CI, .ref CI, true, rfl, fun u r => r, by rw [hK]; exact F.kii, true, rfl, iteT hh.2⟩
    · subst e2
      have C : ExcC X.K CT := by rw [hK]; exact F.et
      refine pss_imp (pss_one (ps_ret (pe_ifExp (pt_truth (pe_callB (call_isE C hz hf) hs nb PyProof.Rows.boot_isinstance (pa_cons (pe_var (i := 1) rfl (.inl he)) (pa_cons (gi hi mi (by decide) rfl _) pa_nil))) (fun _ => rfl)) pe_str
        (pe_ifExp (pt_truth (pe_callB (call_isE C hz hf) hs nb PyProof.Rows.boot_isinstance (pa_cons (pe_var (i := 1) rfl (.inl he)) (pa_cons (gi ht mt (by decide) rfl _) pa_nil))) (fun _ => rfl)) pe_str pe_str)))) fun D σ H hh => ?_
      have ew : clsW CI (.ref CT) = "text" := if_neg fun e => hne (Value.ref.inj e).symm
      rw [ew] at hh
      exact ⟨_, hh.1, .ref CI, .ref CI, false, rfl, fun u r => r, by rw [hK]; exact F.kti, false, rfl, iteF ⟨_, hh.1, .ref CT, .ref CT, true, rfl, fun u r => r, by rw [hK]; exact F.ktt, true, rfl, iteT hh.2⟩⟩
  · have h0 : (L2.start Nbad [V.ref f])[0]? = some (some (V.ref f)) := rfl
    refine ⟨fun cls dd H' => dd = none ∧ ((cls = .ref CI ∧ Q (.str "invalid") H') ∨ (cls = .ref CT ∧ Q (.str "text") H')), fun cls d σ' H' ⟨e1, e2⟩ => ?_, h0, hc, h⟩
    subst e1
    rcases e2 with ⟨e2, e3⟩ | ⟨e2, e3⟩
    · subst e2
      refine ⟨true, by show PySem.W.exmOne X.K _ _ = _; rw [hK]; exact F.ci, fun _ a ha => ⟨⟨rfl, .inl rfl⟩, fun hl => ?_⟩, fun z => by cases z⟩
      rw [List.length_set] at hl
      refine ⟨List.getElem?_set_self (by rw [hl]; decide), ?_⟩
      have ew : clsW CI (.ref CI) = "invalid" := if_pos rfl
      rw [ew]
      exact e3
    · subst e2
      refine ⟨true, by show PySem.W.exmOne X.K _ _ = _; rw [hK]; exact F.ct, fun _ a ha => ⟨⟨rfl, .inr rfl⟩, fun hl => ?_⟩, fun z => by cases z⟩
      rw [List.length_set] at hl
      refine ⟨List.getElem?_set_self (by rw [hl]; decide), ?_⟩
      have ew : clsW CI (.ref CT) = "text" := if_neg fun e => hne (Value.ref.inj e).symm
      rw [ew]
      exact e3
end LL
noncomputable section
namespace HM
open PySem PySem.W PySem.Calls PyProof.Rows HandSHeadRun DL L2
def qeB (K : PySem.W.Frag) : Bool := (He.Fa.glo "QueryError").ok K && ((decide (PySem.W.subIn K (.ref (He.ga K "QueryError")) (.type "BaseException") = some true)) && ((PySem.W.hasDictIn K (He.ga K "QueryError")) && (decide (PySem.W.typeIn K (.ref (He.ga K "QueryError")) = some (.type "type")))))
def exB (x : Str) (K : PySem.W.Frag) : Bool := (He.Fa.glo x).ok K && ((decide (PySem.W.subIn K (.ref (He.ga K x)) (.ref (He.ga K "QueryError")) = some true)) && ((He.eqO (PySem.W.findIn K (.ref (He.ga K x)) "__getattribute__") (some (some (.builtin "BaseException.__getattribute__")))) && ((He.eqO (PySem.W.findIn K (.ref (He.ga K x)) "__getattr__") (some none)) && ((decide (PySem.W.subIn K (.ref (He.ga K x)) (.type "BaseException") = some true)) && ((PySem.W.hasDictIn K (He.ga K x)) && ((He.eqO (PySem.W.findIn K (.ref (He.ga K x)) "__class__") (some (some (.builtin "object.__class__")))) && ((He.eqO (PySem.W.specialIn K (.builtin "object.__class__") "__get__") (some (some (.builtin "getset_descriptor.__get__")))) && ((decide (PySem.W.takesIn K (.builtin "object.__class__") = some true)) && (decide (PySem.W.mroIn K (He.ga K x) (.type "object") = some true))))))))))
def ktB (x y : Str) (b : Bool) (K : PySem.W.Frag) : Bool := decide (PySem.W.kitOne K (.ref (He.ga K x)) (.ref (He.ga K y)) = some b)
section
variable {K : PySem.W.Frag} {h : Heap} {mg : Str → Option Value}
theorem qe_mg (X : K.In h) (Gn : h.Ns mainGlobals mg) (c : qeB K = true) : mg "QueryError" = some (.ref (He.ga K "QueryError")) := by
  obtain ⟨c0, _⟩ := Bool.and_eq_true_iff.mp (show ((He.Fa.glo "QueryError").ok K && _) = true from c)
  exact PySem.W.mg_of X Gn (He.eqO_ok c0)
theorem ex_all {x : Str} (c : exB x K = true) : PySem.W.nsIn K mainGlobals x = some (some (.ref (He.ga K x))) ∧ PySem.W.subIn K (.ref (He.ga K x)) (.ref (He.ga K "QueryError")) = some true ∧ ExcC K (He.ga K x) := by
  unfold exB at c
  obtain ⟨c0, d0⟩ := Bool.and_eq_true_iff.mp c
  obtain ⟨c1, d1⟩ := Bool.and_eq_true_iff.mp d0
  obtain ⟨c2, d2⟩ := Bool.and_eq_true_iff.mp d1
  obtain ⟨c3, d3⟩ := Bool.and_eq_true_iff.mp d2
  obtain ⟨c4, d4⟩ := Bool.and_eq_true_iff.mp d3
  obtain ⟨c5, d5⟩ := Bool.and_eq_true_iff.mp d4
  obtain ⟨c6, d6⟩ := Bool.and_eq_true_iff.mp d5
  obtain ⟨c7, d7⟩ := Bool.and_eq_true_iff.mp d6
  obtain ⟨c8, d8⟩ := Bool.and_eq_true_iff.mp d7
  exact ⟨He.eqO_ok c0, of_decide_eq_true c1, He.eqO_ok c2, He.eqO_ok c3, of_decide_eq_true c4, c5, He.eqO_ok c6, He.eqO_ok c7, of_decide_eq_true c8, of_decide_eq_true d8⟩
theorem ex_mg (X : K.In h) (Gn : h.Ns mainGlobals mg) {x : Str} (c : exB x K = true) : mg x = some (.ref (He.ga K x)) := PySem.W.mg_of X Gn (ex_all c).1
theorem ex_exm {x : Str} (q : qeB K = true) (c : exB x K = true) : PySem.W.exmOne K (.ref (He.ga K x)) (.ref (He.ga K "QueryError")) = some true := by
  unfold qeB at q
  obtain ⟨c0, d0⟩ := Bool.and_eq_true_iff.mp q
  obtain ⟨c1, d1⟩ := Bool.and_eq_true_iff.mp d0
  obtain ⟨c2, d2⟩ := Bool.and_eq_true_iff.mp d1
  exact PySem.W.exm_ref (of_decide_eq_true c1) c2 (of_decide_eq_true d2) (ex_all c).2.1
theorem kt_ok {x y : Str} {b : Bool} (c : ktB x y b K = true) : PySem.W.kitOne K (.ref (He.ga K x)) (.ref (He.ga K y)) = some b := of_decide_eq_true c
end
def wrL : List (PySem.W.Frag → Bool) := [qeB, exB "InvalidText", exB "NotText", ktB "InvalidText" "InvalidText" true, ktB "NotText" "InvalidText" false, ktB "NotText" "NotText" true]
theorem wr_of {P : Program} {w : World} {K : PySem.W.Frag} {h base : Heap} {mg : Str → Option Value} (X : K.In h) (Gn : h.Ns mainGlobals mg) (c : (wrL.all fun f => f K) = true) : LL.WrF ⟨P, w, K, mg, base⟩ (He.ga K "QueryError") (He.ga K "InvalidText") (He.ga K "NotText") := by
  have at_ : ∀ f ∈ wrL, f K = true := fun f hf => List.all_eq_true.mp c f hf
  have q : qeB K = true := at_ _ (by simp [wrL])
  have i : exB "InvalidText" K = true := at_ _ (by simp [wrL])
  have t : exB "NotText" K = true := at_ _ (by simp [wrL])
  exact ⟨qe_mg X Gn q, ex_mg X Gn i, ex_mg X Gn t, ex_exm q i, ex_exm q t, (ex_all i).2.2, (ex_all t).2.2, kt_ok (at_ (ktB "InvalidText" "InvalidText" true) (by simp [wrL])), kt_ok (at_ (ktB "NotText" "InvalidText" false) (by simp [wrL])), kt_ok (at_ (ktB "NotText" "NotText" true) (by simp [wrL]))⟩
theorem fw_mk {P : Program} {w : World} {K : PySem.W.Frag} {h base : Heap} {mg : Str → Option Value} {x : Str} {st : Stmt} {f : Addr} {oc kV doc pm cdv ct : Value} {od an : Option Addr} {osl : Array (Option Value)} (X : K.In h) (Gn : h.Ns mainGlobals mg) (a : PySem.W.nsIn K mainGlobals x = some (some (.ref f)))
    (l : K.lookup f = some ⟨oc, od, .func (PySem.W.fnOf x x (defArgs st) (defBody st) (defScope st) .none kV doc pm an cdv ct), osl⟩) (c : PySem.W.codeIn K cdv x = true) (k : PySem.W.keepIn K (.ref f) = true)
    (b : ∀ (kV doc pm : Value) (an : Option Addr) (cdv ct : Value) (us : List Value), us.length = ["work"].length → bindArgs (PySem.W.fnOf x x (defArgs st) (defBody st) (defScope st) .none kV doc pm an cdv ct) ⟨us, []⟩ = pure ((["work"] : List Str).zip us)) : LL.FnW ⟨P, w, K, mg, base⟩ x st :=
  ⟨f, oc, od, kV, doc, pm, cdv, ct, an, osl, PySem.W.mg_of X Gn a, l, c, k, (fun_mk (st := st) l c k).binds fun _ _ _ _ _ _ us hl => b _ _ _ _ _ _ us hl⟩
end HM
set_option maxHeartbeats 0
noncomputable section
namespace K10
open PySem PySem.W PySem.Calls PyProof.Rows HandSHeadRun HM DL
open L2 (defArgs defBody defScope)
abbrev RW : OpenRow := OpenLaw.row PySem.Challenge.rw_queryheld_k10_whole_texts
def fstS : Stmt := RW.prog.main.body.getD 25 (.Pass ⟨0, 0, 0, 0⟩)
def keysOf : Stmt → List (Option PySem.Expr)
  | .Assign _ (.Dict ks _ _) _ => ks
  | _ => []
def valsOf : Stmt → List PySem.Expr
  | .Assign _ (.Dict _ vs _) _ => vs
  | _ => []
def tgOf : Stmt → PySem.Expr
  | .Assign [t] _ _ => t
  | _ => .Constant .none 0 ⟨0, 0, 0, 0⟩
def posOf : Stmt → Pos
  | .Assign _ _ p => p
  | _ => ⟨0, 0, 0, 0⟩
def pos2Of : Stmt → Pos
  | .Assign _ (.Dict _ _ p) _ => p
  | _ => ⟨0, 0, 0, 0⟩
def l1 : List Stmt := RW.prog.main.body.take 25
def l2 : List Stmt := RW.prog.main.body.drop 26
def lse0 : List Str := ["QueryError", "BadSemantics", "BadTable", "BadFilter", "NotText", "InvalidText", "WORDS", "DUPLICATES", "NULLS", "GREATEST_VALUE", "ROW_LENGTH", "MOST_ROWS", "is_semantics", "check_semantics", "is_integer_to", "is_row", "_is_value_under", "value_order", "row_order", "is_table", "_is_ascending", "check_tables", "FORMS", "GREATEST", "tuples_of"]
def lse1 : List Str := ["_has_form", "_fits", "_inner_tuples", "MOST_TUPLES", "is_filter", "check_filter", "NULL", "NO_ROW", "DIGITS", "MOST_WORDS_OF_TUPLE", "check_text", "value_text", "write_table", "read_table", "_row_in", "_number_in", "write_filter", "_text_of", "read_filter", "_parts_in", "_law_taken", "_law_pick", "_law_alike", "_law_semantics", "_law_rank"]
def lse2 : List Str := ["_law_sorted", "_law_value", "_law_table", "_law_filter", "_law_wrong", "_law_words"]
def lse : List Str := lse0 ++ (lse1 ++ (lse2))
def fcsA_0 : List Fc := [.no "all", .no "bool", .no "enumerate", .no "int", .no "isinstance", .no "len", .no "list", .no "range", .no "reversed", .no "sorted", .no "str", .no "tuple", .no "zip", .con "DIGITS" PT.c_DIGITS, .con "DUPLICATES" PW.c_DUPLICATES, .con "GREATEST_VALUE" PW.c_GREATEST_VALUE, .con "MOST_ROWS" PW.c_MOST_ROWS, .con "MOST_TUPLES" PW.c_MOST_TUPLES, .con "MOST_WORDS_OF_TUPLE" PT.c_MOST_WORDS_OF_TUPLE, .con "NO_ROW" PT.c_NO_ROW, .con "NULL" PT.c_NULL, .con "NULLS" PW.c_NULLS, .con "ROW_LENGTH" PW.c_ROW_LENGTH, .con "WORDS" PW.c_WORDS, .ex "BadFilter"]
def fcsA_1 : List Fc := [.ex "BadSemantics", .ex "InvalidText", .ex "NotText", .tz "DIGITS", .fn "is_semantics", .fn "check_semantics", .fn "is_integer_to", .fn "is_row", .fn "_is_value_under", .fn "value_order", .fn "row_order", .fn "is_table", .fn "_is_ascending", .fn "check_tables", .fn "tuples_of", .fn "_has_form", .fn "_fits", .fn "_inner_tuples", .fn "is_filter", .fn "check_filter", .fn "check_text", .fn "value_text", .fn "write_table", .fn "read_table", .fn "_row_in"]
def fcsA_2 : List Fc := [.fn "_number_in", .fn "write_filter", .fn "_text_of", .fn "read_filter", .fn "_parts_in", .fn "_law_taken", .fn "_law_pick", .fn "_law_alike", .fn "_law_semantics", .fn "_law_rank", .fn "_law_sorted", .fn "_law_value", .fn "_law_table", .fn "_law_filter", .fn "_law_wrong", .fn "_law_words", .fn "law"]
def fcsA_ : List Fc := fcsA_0 ++ (fcsA_1 ++ (fcsA_2))
def fdsA_0 : List He.FnD := [fnd "is_semantics" st_is_semantics, fnd "check_semantics" st_check_semantics, fnd "is_integer_to" st_is_integer_to, fnd "is_row" st_is_row, fnd "_is_value_under" st__is_value_under, fnd "value_order" st_value_order, fnd "row_order" st_row_order, fnd "is_table" st_is_table, fnd "_is_ascending" st__is_ascending, fnd "check_tables" st_check_tables, fnd "tuples_of" st_tuples_of, fnd "_has_form" st__has_form, fnd "_fits" st__fits, fnd "_inner_tuples" st__inner_tuples, fnd "is_filter" st_is_filter, fnd "check_filter" st_check_filter, fnd "check_text" st_check_text, fnd "value_text" st_value_text, fnd "write_table" st_write_table, fnd "read_table" st_read_table, fnd "_row_in" st__row_in, fnd "_number_in" st__number_in, fnd "write_filter" st_write_filter, fnd "_text_of" st__text_of, fnd "read_filter" st_read_filter]
def fdsA_1 : List He.FnD := [fnd "_parts_in" st__parts_in, fnd "_law_taken" st__law_taken, fnd "_law_pick" st__law_pick, fnd "_law_alike" st__law_alike, fnd "_law_semantics" st__law_semantics, fnd "_law_rank" st__law_rank, fnd "_law_sorted" st__law_sorted, fnd "_law_value" st__law_value, fnd "_law_table" st__law_table, fnd "_law_filter" st__law_filter, fnd "_law_wrong" st__law_wrong, fnd "_law_words" st__law_words, fnd "law" st_law]
def fdsA_ : List He.FnD := fdsA_0 ++ (fdsA_1)
def sp2 : Spec1 := ⟨[], [], [("GREATEST", PW.k_GREATEST)], [("FORMS", PW.t_FORMS)], []⟩
def sp0 : Spec1 := catP fcsA_ [] [] [] (catP [] fdsA_ [] [] sp2)
def sp1 : SpecL := ⟨sp0, "law", HM.wrL⟩
def qv : Program := view RW.prog [62]
abbrev Mn1 (w : World) : Prop := MainL RW qv lse sp1 11 6000 l1 l2 (tgOf fstS) (keysOf fstS) (valsOf fstS) (pos2Of fstS) w
abbrev Dc1 (w : World) : Prop := DictP RW 6000 l1 l2 (tgOf fstS) (keysOf fstS) (valsOf fstS) (pos2Of fstS) w
theorem e_h5 : PySem.Challenge.rw_queryheld_k10_whole_texts.row.wellSaid = true := by decide +kernel
theorem size_w (w : World) : (boot_heap w.params).objs.size = 11 := by kernel_rfl
theorem se_f (w : World) : SeP RW qv lse 11 6000 l1 l2 (tgOf fstS) (keysOf fstS) (valsOf fstS) (pos2Of fstS) (w.withFollow "special-get-raises" false) := by intro os pX; kernel_rfl
theorem ob_f0 (w : World) : ObL RW ⟨⟨fcsA_, [], [], [], []⟩, "law", []⟩ 11 6000 l1 l2 (tgOf fstS) (keysOf fstS) (valsOf fstS) (pos2Of fstS) (w.withFollow "special-get-raises" false) := by intro os pX; kernel_rfl
theorem ob_f1 (w : World) : ObL RW ⟨⟨[], fdsA_, [], [], []⟩, "law", []⟩ 11 6000 l1 l2 (tgOf fstS) (keysOf fstS) (valsOf fstS) (pos2Of fstS) (w.withFollow "special-get-raises" false) := by intro os pX; kernel_rfl
theorem ob_f2 (w : World) : ObL RW ⟨sp2, "law", HM.wrL⟩ 11 6000 l1 l2 (tgOf fstS) (keysOf fstS) (valsOf fstS) (pos2Of fstS) (w.withFollow "special-get-raises" false) := by intro os pX; kernel_rfl
theorem main_f (w : World) : Mn1 (w.withFollow "special-get-raises" false) := mainL_of (se_f w) (obL_cat (ob_f0 w) ( obL_cat (ob_f1 w) ( ob_f2 w)))
theorem dict_f (w : World) : Dc1 (w.withFollow "special-get-raises" false) := by intro os pX; kernel_rfl
theorem se_t (w : World) : SeP RW qv lse 11 6000 l1 l2 (tgOf fstS) (keysOf fstS) (valsOf fstS) (pos2Of fstS) (w.withFollow "special-get-raises" true) := by intro os pX; kernel_rfl
theorem ob_t0 (w : World) : ObL RW ⟨⟨fcsA_, [], [], [], []⟩, "law", []⟩ 11 6000 l1 l2 (tgOf fstS) (keysOf fstS) (valsOf fstS) (pos2Of fstS) (w.withFollow "special-get-raises" true) := by intro os pX; kernel_rfl
theorem ob_t1 (w : World) : ObL RW ⟨⟨[], fdsA_, [], [], []⟩, "law", []⟩ 11 6000 l1 l2 (tgOf fstS) (keysOf fstS) (valsOf fstS) (pos2Of fstS) (w.withFollow "special-get-raises" true) := by intro os pX; kernel_rfl
theorem ob_t2 (w : World) : ObL RW ⟨sp2, "law", HM.wrL⟩ 11 6000 l1 l2 (tgOf fstS) (keysOf fstS) (valsOf fstS) (pos2Of fstS) (w.withFollow "special-get-raises" true) := by intro os pX; kernel_rfl
theorem main_t (w : World) : Mn1 (w.withFollow "special-get-raises" true) := mainL_of (se_t w) (obL_cat (ob_t0 w) ( obL_cat (ob_t1 w) ( ob_t2 w)))
theorem dict_t (w : World) : Dc1 (w.withFollow "special-get-raises" true) := by intro os pX; kernel_rfl
theorem main_w (w : World) : Mn1 w := byRow2 "special-get-raises" (P := Mn1) main_f main_t w
theorem dict_w (w : World) : Dc1 w := byRow2 "special-get-raises" (P := Dc1) dict_f dict_t w
end K10
end
namespace DL
open PySem PySem.Spec PyProof.Rows L2
section
end
end DL
namespace LW
open PySem PySem.Spec PyProof.Rows L2 DL
def d__law_pick (f__law_taken : List Slot → Mn D) : Ev → Ms :=
    pRet (dBin ixD (dVar 1) (dCl 2 f__law_taken (dRow 0 (dCons (dFn lenD (dCons (dVar 1) (dNil))) (dNil)))))
def d__law_alike (f__law_alike : List Slot → Mn D) : Ev → Ms :=
    seqM (pIf (dTru (dIsi [.tuple, .list] (dVar 1))) (seqM (pIf (dOr (dNot (dTru (dIsi [.tuple, .list] (dVar 0)))) (dCmp neD (dIsi [.list] (dVar 0)) (dIsi [.list] (dVar 1)))) (pRet (dLit (.bool false))) (sNil))
    (seqM (pIf (dCmp neD (dFn lenD (dCons (dVar 0) (dNil))) (dFn lenD (dCons (dVar 1) (dNil)))) (pRet (dLit (.bool false))) (sNil))
    (pRet (dCmpE eqD (dComp [2] (dRng rng1 (dCons (dFn lenD (dCons (dVar 1) (dNil))) (dNil))) (.name 2) (dNot (dTru (dCl 2 f__law_alike (dCons (dBin ixD (dVar 0) (dVar 2)) (dCons (dBin ixD (dVar 1) (dVar 2)) (dNil)))))) (dVar 2)) (dLst (dNil)))))) (sNil))
    (seqM (pIf (dOr (dCmp isD (dVar 1) (dLit .none)) (dTru (dIsi [.str] (dVar 1)))) (pRet (dAndV (dCmpE eqD (dVar 0) (dVar 1)) (dCmpE eqD (dIsi [.str] (dVar 0)) (dIsi [.str] (dVar 1))))) (sNil))
    (pRet (dAndV (dIsi [.int] (dVar 0)) (dAndV (dCmpE eqD (dIsi [.bool] (dVar 0)) (dIsi [.bool] (dVar 1))) (dCmpE eqD (dVar 0) (dVar 1))))))
def d__law_semantics (f__law_pick : List Slot → Mn D) : Ev → Ms :=
    seqM (pPar 1 2 (dCons (dCl 2 f__law_pick (dRow 0 (dCons (dLst (dCons (dLit (.str "bag")) (dCons (dLit (.str "bag")) (dCons (dLit (.str "set")) (dNil))))) (dNil)))) (dCons (dCl 2 f__law_pick (dRow 0 (dCons (dLst (dCons (dLit (.str "maximum")) (dCons (dLit (.str "sum")) (dNil)))) (dNil)))) (dNil))))
    (seqM (pPar 3 4 (dCons (dCl 2 f__law_pick (dRow 0 (dCons (dLst (dCons (dLit (.str "count")) (dCons (dLit (.str "kind")) (dNil)))) (dNil)))) (dCons (dCl 2 f__law_pick (dRow 0 (dCons (dLst (dCons (dLit (.str "none")) (dCons (dLit (.str "unknown")) (dCons (dLit (.str "unknown")) (dCons (dLit (.str "value")) (dNil)))))) (dNil)))) (dNil))))
    (pRet (dTup (dCons (dVar 1) (dCons (dVar 2) (dCons (dVar 3) (dCons (dVar 4) (dCons (dCl 2 f__law_pick (dRow 0 (dCons (dLst (dCons (dLit (.str "null")) (dCons (dLit (.str "zero")) (dNil)))) (dNil)))) (dNil)))))))))
def d__law_rank  : Ev → Ms :=
    pRet (dComp [1] (dItm (dVar 0)) (.name 1) (dYes) (dIf (dCmp isD (dVar 1) (dLit .none)) (dLit (.int 0)) (dBin addD (dVar 1) (dLit (.int 1)))))
def d__law_sorted (f__law_rank : List Slot → Mn D) : Ev → Ms :=
    seqM (sOwn 1 (dNil))
    (seqM (sFor false (dItm (dFn sortedD (dCons (dComp [4, 3] (dRng enumD (dCons (dVar 0) (dNil))) (.tup [4, 3]) (dYes) (dTup (dCons (dCl 1 f__law_rank (dCons (dVar 3) (dNil))) (dCons (dVar 4) (dNil))))) (dNil)))) (.tup [2, 3]) (sApp 1 (dBin ixD (dVar 0) (dVar 3))))
    (sRet (dFn tupleD (dCons (dVar 1) (dNil)))))
def d__law_value (f__law_taken : List Slot → Mn D) (f__law_pick : List Slot → Mn D) : Ev → Ms :=
    seqM (pIf (dAnd (dCmp neD (dBin ixD (dVar 1) (dLit (.int 3))) (dLit (.str "none"))) (dCmp eqD (dCl 2 f__law_taken (dRow 0 (dCons (dLit (.int 4)) (dNil)))) (dLit (.int 0)))) (pRet (dLit .none)) (sNil))
    (pRet (dCl 2 f__law_pick (dRow 0 (dCons (dLst (dCons (dLit (.int 0)) (dCons (dLit (.int 0)) (dCons (dLit (.int 1)) (dCons (dLit (.int 1)) (dCons (dLit (.int 2)) (dCons (dCl 2 f__law_taken (dRow 0 (dCons (dLit (.int 10)) (dNil)))) (dNil)))))))) (dNil)))))
def d__law_table (f__law_taken : List Slot → Mn D) (f__law_pick : List Slot → Mn D) (f__law_value : List Slot → Mn D) (f__law_sorted : List Slot → Mn D) : Ev → Ms :=
    seqM (sOwn 3 (dNil))
    (seqM (sFor false (dRng rng1 (dCons (dCl 2 f__law_taken (dRow 0 (dCons (dBin addD (dVar 2) (dLit (.int 1))) (dNil)))) (dNil))) (.name 4) (seqM (sSet 5 (dIf (dAnd (dCmp neD (dVar 3) (dLst (dNil))) (dCmp eqD (dCl 2 f__law_taken (dRow 0 (dCons (dLit (.int 3)) (dNil)))) (dLit (.int 0)))) (dCl 2 f__law_pick (dRow 0 (dCons (dVar 3) (dNil)))) (dTup (dCons (dCl 2 f__law_value (dRow 0 (dCons (dVar 1) (dNil)))) (dCons (dCl 2 f__law_value (dRow 0 (dCons (dVar 1) (dNil)))) (dNil))))))
    (sIf (dOr (dCmp eqD (dBin ixD (dVar 1) (dLit (.int 0))) (dLit (.str "bag"))) (dCmp ninD (dVar 5) (dVar 3))) (sApp 3 (dVar 5)) (sNil))))
    (sRet (dCl 1 f__law_sorted (dCons (dVar 3) (dNil)))))
def d__law_filter (f__law_taken : List Slot → Mn D) (f__law_pick : List Slot → Mn D) (f__law_filter : List Slot → Mn D) : Ev → Ms :=
    seqM (pSet 2 (dCl 2 f__law_taken (dRow 0 (dCons (dBin addD (dLit (.int 5)) (dBin mulxD (dLit (.int 3)) (dFn intD (dCons (dCmpE gtD (dVar 1) (dLit (.int 0))) (dNil))))) (dNil)))))
    (seqM (pIf (dCmp ltD (dVar 2) (dLit (.int 4))) (seqM (pSet 3 (dCl 2 f__law_pick (dRow 0 (dCons (dLst (dCons (dLit (.str "less")) (dCons (dLit (.str "equal")) (dNil)))) (dNil)))))
    (pRet (dBin ixD (dLst (dCons (dTup (dCons (dVar 3) (dCons (dCl 2 f__law_taken (dRow 0 (dCons (dLit (.int 2)) (dNil)))) (dCons (dCl 2 f__law_taken (dRow 0 (dCons (dLit (.int 4)) (dNil)))) (dNil))))) (dCons (dTup (dCons (dVar 3) (dCons (dCl 2 f__law_taken (dRow 0 (dCons (dLit (.int 2)) (dNil)))) (dCons (dLit (.int 1)) (dNil))))) (dCons (dTup (dCons (dLit (.str "same")) (dNil))) (dCons (dTup (dCons (dLit (.str "null")) (dCons (dCl 2 f__law_taken (dRow 0 (dCons (dLit (.int 2)) (dNil)))) (dNil)))) (dNil)))))) (dVar 2)))) (sNil))
    (seqM (pIf (dCmp eqD (dVar 2) (dLit (.int 4))) (pRet (dTup (dCons (dLit (.str "less")) (dCons (dLit (.int 0)) (dCons (dLit (.int 1)) (dNil)))))) (sNil))
    (seqM (pIf (dCmp eqD (dVar 2) (dLit (.int 5))) (pRet (dTup (dCons (dLit (.str "not")) (dCons (dCl 2 f__law_filter (dRow 0 (dCons (dBin subD (dVar 1) (dLit (.int 1))) (dNil)))) (dNil))))) (sNil))
    (pRet (dTup (dCons (dCl 2 f__law_pick (dRow 0 (dCons (dLst (dCons (dLit (.str "and")) (dCons (dLit (.str "or")) (dNil)))) (dNil)))) (dCons (dCl 2 f__law_filter (dRow 0 (dCons (dBin subD (dVar 1) (dLit (.int 1))) (dNil)))) (dCons (dCl 2 f__law_filter (dRow 0 (dCons (dBin subD (dVar 1) (dLit (.int 1))) (dNil)))) (dNil)))))))))
def d__law_kept (f__law_match : List Slot → Mn D) : Ev → Ms :=
    seqM (pSet 4 (dLst (dNil)))
    (seqM (sFor false (dItm (dVar 1)) (.name 5) (seqM (pSet 6 (dComp [8] (dItm (dVar 2)) (.name 8) (dYes) (dCl 3 f__law_match (dCons (dVar 0) (dCons (dBin ixD (dVar 5) (dLit (.int 0))) (dCons (dBin ixD (dVar 8) (dLit (.int 0))) (dNil)))))))
    (seqM (pSet 7 (dDGet [("semijoin", dCmpE inD (dLit (.bool true)) (dVar 6)), ("antijoin", dCmpE ninD (dLit (.bool true)) (dVar 6)), ("not_in", dAndV (dCmpE ninD (dLit (.bool true)) (dVar 6)) (dCmpE ninD (dLit .none) (dVar 6)))] (dVar 3)))
    (pSet 4 (dBin addD (dVar 4) (dBin mulxD (dLst (dCons (dVar 5) (dNil))) (dFn intD (dCons (dVar 7) (dNil)))))))))
    (pRet (dFn tupleD (dCons (dVar 4) (dNil)))))
end LW
namespace LW
open PySem PySem.Spec PyProof.Rows L2 DL
abbrev Fs := List Slot → Mn D
abbrev NoDict (d : D) : Prop := ∀ kvs, d ≠ .dict kvs
inductive N3 where
  | none | unknown | value
def N3.s : N3 → String
  | .none => "none"
  | .unknown => "unknown"
  | .value => "value"
/-- a semantics -/
def wayD (a b c : Bool) (n : N3) (e : Bool) : D := .tuple [.str (if a then "bag" else "set"), .str (if b then "maximum" else "sum"), .str (if c then "count" else "kind"), .str (Str.ofString n.s), .str (if e then "null" else "zero")]
inductive Vl where
  | nul
  | int (i : Int)
def Vl.d : Vl → D
  | .nul => .none
  | .int i => .int i
theorem way_3 (a b c : Bool) (n : N3) (e : Bool) : ixD (wayD a b c n e) (.int 3) = some (.str (Str.ofString n.s)) := rfl
inductive Flt where
  | less (c : Bool) (n : Int)
  | equal (c : Bool) (n : Int)
  | same
  | null (c : Bool)
  | not (f : Flt)
  | and (f g : Flt)
  | or (f g : Flt)
def colD (c : Bool) : D := .int (if c then 1 else 0)
def Flt.d : Flt → D
  | .less c n => .tuple [.str "less", colD c, .int n]
  | .equal c n => .tuple [.str "equal", colD c, .int n]
  | .same => .tuple [.str "same"]
  | .null c => .tuple [.str "null", colD c]
  | .not f => .tuple [.str "not", f.d]
  | .and f g => .tuple [.str "and", f.d, g.d]
  | .or f g => .tuple [.str "or", f.d, g.d]
def Flt.ok : Flt → Bool
  | .less _ n => decide (0 ≤ n) && decide (n ≤ 9)
  | .equal _ n => decide (0 ≤ n) && decide (n ≤ 9)
  | .same => true
  | .null _ => true
  | .not f => f.ok
  | .and f g => f.ok && g.ok
  | .or f g => f.ok && g.ok
def Flt.size : Flt → Nat
  | .less _ _ => 1
  | .equal _ _ => 1
  | .same => 1
  | .null _ => 1
  | .not f => f.size + 1
  | .and f g => f.size + g.size + 1
  | .or f g => f.size + g.size + 1
def Flt.inner : Flt → List Flt
  | .not f => [f]
  | .and f g => [f, g]
  | .or f g => [f, g]
  | _ => []
theorem Flt.nd (f : Flt) : NoDict f.d := by intro k e; cases f <;> simp [Flt.d] at e
theorem int_nd (i : Int) : NoDict (.int i) := by intro k e; cases e
def Vl.ord : Vl → Int
  | .nul => -1
  | .int i => i
def Vl.isN : Vl → Bool
  | .nul => true
  | _ => false
def Vl.beq : Vl → Vl → Bool
  | .nul, .nul => true
  | .int i, .int j => i == j
  | _, _ => false
def N3.unk : N3 → Bool
  | .unknown => true
  | _ => false
def cmpV (n : N3) (less : Bool) (x y : Vl) : Option Bool :=
  if (n.unk && (x.isN || y.isN)) = true then none else some (if less = true then decide (x.ord < y.ord) else x.beq y)
def td : Option Bool → D
  | none => .none
  | some b => .bool b
def tnot : Option Bool → Option Bool
  | none => none
  | some b => some !b
def tand : Option Bool → Option Bool → Option Bool
  | some false, _ => some false
  | _, some false => some false
  | none, _ => none
  | _, none => none
  | _, _ => some true
def tor : Option Bool → Option Bool → Option Bool
  | some true, _ => some true
  | _, some true => some true
  | none, _ => none
  | _, none => none
  | _, _ => some false
def tv (n : N3) (u v : Vl) : Flt → Option Bool
  | .less c m => cmpV n true (if c then v else u) (.int m)
  | .equal c m => cmpV n false (if c then v else u) (.int m)
  | .same => cmpV n false u v
  | .null c => some (if c then v else u).isN
  | .not f => tnot (tv n u v f)
  | .and f g => tand (tv n u v f) (tv n u v g)
  | .or f g => tor (tv n u v f) (tv n u v g)
theorem td_shape (t : Option Bool) : SeqAt.shaped (td t) = true := by cases t <;> simp [td, sh_none, sh_bool]
theorem in_list (x : D) (ds : List D) (hx : SeqAt.shaped x = true) (hd : SeqAt.shaped (.list ds) = true) : inD x (.list ds) = some (ds.any fun z => PyData.eqv z x) := by simp [inD, hx, hd]
def Vl.rk : Vl → Int
  | .nul => 0
  | .int i => i + 1
abbrev SpRank (f : Fs) : Prop := ∀ x y : Vl, f [.dat (.list [x.d, y.d])] = pur (.list [.int x.rk, .int y.rk])
theorem rank : SpRank (dFun 1 2 d__law_rank) := by
  intro x y
  cases x <;> cases y <;> simp [dFun_eq, d__law_rank, itmD, Vl.d, Vl.rk, isD, addD]
def Vl.nn : Vl → Bool
  | .nul => true
  | .int i => decide (0 ≤ i)
theorem vd_list (x y : Vl) : SeqAt.shaped (.list [x.d, y.d]) = true := by
  cases x <;> cases y <;> simp [Vl.d, SeqAt.shaped, PyData.canLay0, PyData.canLayAll0, PyData.depth, PyData.depthAll]
theorem none_in (x y : Vl) : inD .none (.list [x.d, y.d]) = some (x.isN || y.isN) := by
  rw [in_list _ _ sh_none (vd_list x y)]
  cases x <;> cases y <;> simp [Vl.d, Vl.isN]
/-- a value is given, and P of it -/
def Gv {α : Type} (m : Mn α) (P : α → Prop) : Prop := ∀ rs, ∃ d rs', m rs = some (.val d, rs') ∧ P d
theorem Gv.bnd {α β : Type} {m : Mn α} {k : α → Mn β} {P : α → Prop} {Q : β → Prop} (h : Gv m P) (hk : ∀ a, P a → Gv (k a) Q) : Gv (DL.bnd m k) Q := fun rs => by
  obtain ⟨d, rs1, e, p⟩ := h rs
  obtain ⟨d2, rs2, e2, p2⟩ := hk d p rs1
  refine ⟨d2, rs2, ?_, p2⟩
  unfold DL.bnd
  rw [e]
  exact e2
theorem Gv.pur {α : Type} {a : α} {P : α → Prop} (h : P a) : Gv (DL.pur a) P := fun rs => ⟨a, rs, rfl, h⟩
theorem Gv.imp {α : Type} {m : Mn α} {P Q : α → Prop} (h : Gv m P) (i : ∀ a, P a → Q a) : Gv m Q := fun rs => by
  obtain ⟨d, rs1, e, p⟩ := h rs
  exact ⟨d, rs1, e, i d p⟩
theorem bnd_id {α : Type} (m : Mn α) : (DL.bnd m fun a => DL.pur a) = m := by
  funext rs
  unfold DL.bnd DL.pur
  cases h : m rs with
  | none => rfl
  | some q =>
    obtain ⟨q1, q2⟩ := q
    cases q1 <;> rfl
abbrev SpTk (f : Fs) : Prop := ∀ m : Int, 0 < m → m < 1073741824 → Gv (f [.row, .dat (.int m)]) fun d => ∃ i : Int, 0 ≤ i ∧ i < m ∧ d = .int i
theorem taken : SpTk tkF := fun m h0 h1 rs => by
  refine ⟨_, _, by simp only [tkF]; rw [if_pos ⟨h0, h1⟩], (tk m rs).1, (tk_range m rs h0).1, (tk_range m rs h0).2, rfl⟩
abbrev SpPick (f : Fs) : Prop := ∀ ds : List D, 0 < ds.length → ds.length < 1000 → Gv (f [.row, .dat (.list ds)]) fun d => d ∈ ds
theorem pick {f : Fs} (h : SpTk f) : SpPick (dFun 2 2 (d__law_pick f)) := by
  intro ds h0 h1
  simp [dFun_eq, d__law_pick, lenD, fin_bnS, bnd_bnd, bnS_bnd]
  refine Gv.bnd (h ds.length (by omega) (by omega)) fun d ⟨i, i0, i1, e⟩ => ?_
  subst e
  obtain ⟨j, rfl⟩ : ∃ j : Nat, i = (j : Int) := ⟨i.toNat, by omega⟩
  have hl : j < ds.length := by omega
  have q : ixD (.list ds) (.int (j : Int)) = some ds[j] := atI_nat (List.getElem?_eq_getElem hl)
  rw [q]
  exact Gv.pur (List.getElem_mem hl)
def IsWay (d : D) : Prop := ∃ a b c n e, d = wayD a b c n e
abbrev SpLawSem (f : Fs) : Prop := Gv (f [.row]) IsWay
theorem law_sem {f : Fs} (h : SpPick f) : SpLawSem (dFun 1 5 (d__law_semantics f)) := by
  show Gv (dFun 1 5 (d__law_semantics f) [.row]) _
  simp [dFun_eq, d__law_semantics, pPar_eq, fin_bnS, bnd_bnd, bnS_bnd, sq_bnS]
  refine Gv.bnd (h _ (by simp) (by simp)) fun d1 m1 => ?_
  refine Gv.bnd (h _ (by simp) (by simp)) fun d2 m2 => ?_
  refine Gv.bnd (h _ (by simp) (by simp)) fun d3 m3 => ?_
  refine Gv.bnd (h _ (by simp) (by simp)) fun d4 m4 => ?_
  refine Gv.bnd (h _ (by simp) (by simp)) fun d5 m5 => ?_
  refine Gv.pur ?_
  have p1 : ∃ a : Bool, d1 = .str (if a then "bag" else "set") := by
    simp at m1
    rcases m1 with e | e
    · exact ⟨true, e⟩
    · exact ⟨false, e⟩
  have p2 : ∃ a : Bool, d2 = .str (if a then "maximum" else "sum") := by
    simp at m2
    rcases m2 with e | e
    · exact ⟨true, e⟩
    · exact ⟨false, e⟩
  have p3 : ∃ a : Bool, d3 = .str (if a then "count" else "kind") := by
    simp at m3
    rcases m3 with e | e
    · exact ⟨true, e⟩
    · exact ⟨false, e⟩
  have p4 : ∃ a : N3, d4 = .str (Str.ofString a.s) := by
    simp at m4
    rcases m4 with e | e | e
    · exact ⟨.none, e⟩
    · exact ⟨.unknown, e⟩
    · exact ⟨.value, e⟩
  have p5 : ∃ a : Bool, d5 = .str (if a then "null" else "zero") := by
    simp at m5
    rcases m5 with e | e
    · exact ⟨true, e⟩
    · exact ⟨false, e⟩
  obtain ⟨a, rfl⟩ := p1
  obtain ⟨b, rfl⟩ := p2
  obtain ⟨c, rfl⟩ := p3
  obtain ⟨n, rfl⟩ := p4
  obtain ⟨e, rfl⟩ := p5
  exact ⟨a, b, c, n, e, rfl⟩
/-- valid under n -/
def Vl.okU (n : N3) : Vl → Bool
  | .nul => (match n with | .none => false | _ => true)
  | .int i => decide (0 ≤ i) && decide (i ≤ 9)
abbrev SpLawVal (f : Fs) : Prop := ∀ a b c n e, Gv (f [.row, .dat (wayD a b c n e)]) fun d => ∃ x : Vl, d = x.d ∧ x.okU n = true
theorem ne_none (n : N3) : neD (.str (Str.ofString n.s)) (.str "none") = some (match n with | .none => false | _ => true) := by cases n <;> simp [N3.s]
theorem law_val {ft fp : Fs} (h1 : SpTk ft) (h2 : SpPick fp) : SpLawVal (dFun 2 2 (d__law_value ft fp)) := by
  intro a b c n e
  simp [dFun_eq, d__law_value, way_3, ne_none, fin_bnS, bnd_bnd, bnS_bnd, sq_bnS]
  have rest : Gv (bnd (ft [Slot.row, Slot.dat (PyData.int 10)]) fun a => fp [Slot.row, Slot.dat (.list [.int 0, .int 0, .int 1, .int 1, .int 2, a])]) fun d => ∃ x : Vl, d = x.d ∧ x.okU n = true := by
    refine Gv.bnd (h1 10 (by decide) (by decide)) fun d ⟨i, i0, i1, e⟩ => ?_
    subst e
    refine Gv.imp (h2 _ (by simp) (by simp)) fun d m => ?_
    simp at m
    rcases m with e | e | e | e
    · exact ⟨.int 0, e, by simp [Vl.okU]⟩
    · exact ⟨.int 1, e, by simp [Vl.okU]⟩
    · exact ⟨.int 2, e, by simp [Vl.okU]⟩
    · exact ⟨.int i, e, by simp [Vl.okU, i0]; omega⟩
  have first : Gv (bnd (ft [Slot.row, Slot.dat (PyData.int 4)]) fun a => bnd (lft (eqD a (PyData.int 0))) fun a => if a = true then DL.pur PyData.none else bnd (ft [Slot.row, Slot.dat (PyData.int 10)]) fun a => fp [Slot.row, Slot.dat (.list [.int 0, .int 0, .int 1, .int 1, .int 2, a])]) fun d => ∃ x : Vl, d = x.d ∧ (match x with | .nul => true | .int i => decide (0 ≤ i) && decide (i ≤ 9)) = true := by
    refine Gv.bnd (h1 4 (by decide) (by decide)) fun d ⟨i, i0, i1, e⟩ => ?_
    subst e
    simp only [eq_ii, lft_some', bnd_pur]
    split
    · exact Gv.pur ⟨.nul, rfl, rfl⟩
    · refine Gv.imp rest fun d ⟨x, e, hx⟩ => ⟨x, e, ?_⟩
      cases x with
      | nul => rfl
      | int i => exact hx
  cases n with
  | none => simpa [N3.s, bnd_id] using rest
  | unknown =>
    simp [N3.s, bnd_id]
    refine Gv.imp first fun d ⟨x, e, hx⟩ => ⟨x, e, ?_⟩
    cases x <;> exact hx
  | value =>
    simp [N3.s, bnd_id]
    refine Gv.imp first fun d ⟨x, e, hx⟩ => ⟨x, e, ?_⟩
    cases x <;> exact hx
def IsFlt (b : Nat) (d : D) : Prop := ∃ x : Flt, d = x.d ∧ x.ok = true ∧ x.size ≤ b
abbrev SpLawFlt (f : Fs) (m : Nat) : Prop := ∀ k : Nat, k < m → Gv (f [.row, .dat (.int k)]) (IsFlt (2 ^ (k + 1) - 1))
theorem int_b (b : Bool) : intD [.bool b] = some (.int (if b then 1 else 0)) := rfl
theorem col_i {i : Int} (h0 : 0 ≤ i) (h1 : i < 2) : PyData.int i = colD (decide (i = 1)) := by
  rcases (by omega : i = 0 ∨ i = 1) with rfl | rfl <;> rfl
theorem law_flt {ft fp ff : Fs} {m : Nat} (h1 : SpTk ft) (h2 : SpPick fp) (h3 : SpLawFlt ff m) : SpLawFlt (dFun 2 4 (d__law_filter ft fp ff)) (m + 1) := by
  intro k hk
  have hpow : 1 ≤ 2 ^ (k + 1) - 1 := by
    have : 2 ^ 1 ≤ 2 ^ (k + 1) := Nat.pow_le_pow_right (by decide) (by omega)
    omega
  -- the four short ones
  have short : ∀ i : Int, 0 ≤ i → i < 4 → Gv (bnd (fp [.row, .dat (.list [.str "less", .str "equal"])]) fun w => bnd (ft [.row, .dat (.int 2)]) fun a => bnd (ft [.row, .dat (.int 4)]) fun b => bnd (ft [.row, .dat (.int 2)]) fun c => bnd (ft [.row, .dat (.int 2)]) fun e =>
      lft (ixD (.list [.tuple [w, a, b], .tuple [w, c, .int 1], .tuple [.str "same"], .tuple [.str "null", e]]) (.int i))) (IsFlt (2 ^ (k + 1) - 1)) := by
    intro i i0 i1
    refine Gv.bnd (h2 _ (by simp) (by simp)) fun w mw => ?_
    refine Gv.bnd (h1 2 (by decide) (by decide)) fun d ⟨a, a0, a1, e⟩ => ?_
    subst e
    refine Gv.bnd (h1 4 (by decide) (by decide)) fun d ⟨b, b0, b1, e⟩ => ?_
    subst e
    refine Gv.bnd (h1 2 (by decide) (by decide)) fun d ⟨c, c0, c1, e⟩ => ?_
    subst e
    refine Gv.bnd (h1 2 (by decide) (by decide)) fun d ⟨q, q0, q1, e⟩ => ?_
    subst e
    simp at mw
    rw [col_i a0 a1, col_i c0 c1, col_i q0 q1]
    rcases (by omega : i = 0 ∨ i = 1 ∨ i = 2 ∨ i = 3) with rfl | rfl | rfl | rfl
    · simp only [ix_l0, lft_some']
      refine Gv.pur ?_
      rcases mw with rfl | rfl
      · exact ⟨.less (decide (a = 1)) b, rfl, by simp [Flt.ok, b0]; omega, hpow⟩
      · exact ⟨.equal (decide (a = 1)) b, rfl, by simp [Flt.ok, b0]; omega, hpow⟩
    · simp only [ix_l1, lft_some']
      refine Gv.pur ?_
      rcases mw with rfl | rfl
      · exact ⟨.less (decide (c = 1)) 1, rfl, rfl, hpow⟩
      · exact ⟨.equal (decide (c = 1)) 1, rfl, rfl, hpow⟩
    · simp only [ix_l2, lft_some']
      exact Gv.pur ⟨.same, rfl, rfl, hpow⟩
    · simp only [ix_l3, lft_some']
      exact Gv.pur ⟨.null (decide (q = 1)), rfl, rfl, hpow⟩
  have lt_ii : ∀ i j : Int, ltD (.int i) (.int j) = some (decide (i < j)) := fun i j => rfl
  simp [dFun_eq, d__law_filter, fin_bnS, bnd_bnd, bnS_bnd, sq_bnS, gtD, mulxD, addD, subD, int_b, bnd_id]
  refine Gv.bnd (P := fun d => ∃ i : Int, 0 ≤ i ∧ i < 8 ∧ (0 < k ∨ i < 5) ∧ d = .int i) ?_ fun d ⟨i, i0, i1, i2, e⟩ => ?_
  · by_cases hk0 : 0 < k
    · rw [if_pos hk0]
      exact Gv.imp (h1 (5 + 3 * 1) (by decide) (by decide)) fun d ⟨i, i0, i1, e⟩ => ⟨i, i0, i1, .inl hk0, e⟩
    · rw [if_neg hk0]
      exact Gv.imp (h1 (5 + 3 * 0) (by decide) (by decide)) fun d ⟨i, i0, i1, e⟩ => ⟨i, i0, by omega, .inr i1, e⟩
  subst e
  simp only [lt_ii, eq_ii, lft_some', bnd_pur, decide_eq_true_eq, beq_iff_eq]
  split
  · rename_i hs
    exact short i i0 hs
  · split
    · exact Gv.pur ⟨.less false 1, rfl, rfl, hpow⟩
    · have hk0 : 0 < k := by omega
      have hkk : ((k : Int) - 1) = ((k - 1 : Nat) : Int) := by omega
      rw [hkk]
      have hr := h3 (k - 1) (by omega)
      rw [show k - 1 + 1 = k by omega] at hr
      have hp2 : 2 ^ (k + 1) = 2 * 2 ^ k := by rw [Nat.pow_succ]; omega
      have hp1 : 2 ≤ 2 ^ k := by
        have : 2 ^ 1 ≤ 2 ^ k := Nat.pow_le_pow_right (by decide) hk0
        omega
      split
      · refine Gv.bnd hr fun d ⟨x, e, ok, sz⟩ => ?_
        subst e
        exact Gv.pur ⟨.not x, rfl, ok, by simp only [Flt.size]; omega⟩
      · refine Gv.bnd (h2 _ (by simp) (by simp)) fun w mw => ?_
        refine Gv.bnd hr fun d ⟨x, e, ok, sz⟩ => ?_
        subst e
        refine Gv.bnd hr fun d ⟨y, e, ok2, sz2⟩ => ?_
        subst e
        simp at mw
        refine Gv.pur ?_
        rcases mw with rfl | rfl
        · exact ⟨.and x y, rfl, by simp [Flt.ok, ok, ok2], by simp only [Flt.size]; omega⟩
        · exact ⟨.or x y, rfl, by simp [Flt.ok, ok, ok2], by simp only [Flt.size]; omega⟩
end LW
namespace LW
open PySem PySem.Spec PyProof.Rows L2 DL
/-- as long as lists get here -/
def lim : Nat := 1000000
theorem lim_eq : lim = 1000000 := rfl
theorem big_ok {n : Nat} (h : n ≤ lim) : n ≤ sizeLine := by
  have := PySem.sizeLine_eq
  have := lim_eq
  omega
abbrev Row := List Vl
def rowD (r : Row) : D := .tuple (r.map Vl.d)
def rowsL (rs : List Row) : D := .list (rs.map rowD)
def rowsT (rs : List Row) : D := .tuple (rs.map rowD)
def rnk (r : Row) : List Int := r.map Vl.rk
def rankD (r : Row) : D := .list ((rnk r).map .int)
def leR (r s : Row) : Bool := decide (rnk r ≤ rnk s)
def srtR (rs : List Row) : List Row := rs.mergeSort leR
theorem compGo_pure {i : Nat} {c : Ev → Mn Bool} {e : Ev → Mn D} {ev : Ev} {p : D → Bool} {g : D → D} : ∀ {ds : List D}, (∀ d ∈ ds, c (ev.set i (.dat d)) = pur (p d)) → (∀ d ∈ ds, p d = true → e (ev.set i (.dat d)) = pur (g d)) → compGo (.name i) c e ev ds = pur ((ds.filter p).map g)
  | [], _, _ => rfl
  | d :: ds, h1, h2 => by
    rw [compGo_cons]
    simp only [tgt_name, lft_some', bnd_pur, tix_name, setE_cons, setE_nil2]
    rw [h1 d (by simp)]
    simp only [nox_pur, bnd_pur]
    have ih := compGo_pure (ds := ds) (fun x hx => h1 x (by simp [hx])) (fun x hx => h2 x (by simp [hx]))
    cases hp : p d with
    | true =>
      rw [if_pos rfl, h2 d (by simp) hp, ih]
      simp [hp]
    | false =>
      rw [if_neg (by decide), ih]
      simp [hp]
theorem compGo_map {i : Nat} {e : Ev → Mn D} {ev : Ev} {g : D → D} {ds : List D} (h : ∀ d ∈ ds, e (ev.set i (.dat d)) = pur (g d)) : compGo (.name i) dYes e ev ds = pur (ds.map g) := by
  have q : ds.filter (fun _ => true) = ds := List.filter_eq_self.mpr fun _ _ => rfl
  have z := compGo_pure (i := i) (c := dYes) (e := e) (ev := ev) (p := fun _ => true) (g := g) (ds := ds) (fun d _ => rfl) (fun d hd _ => h d hd)
  rw [q] at z
  exact z
/-- the rank of a row, from any list or tuple of values -/
abbrev SpRankAll (f : Fs) : Prop := ∀ r : Row, r.length ≤ lim → f [.dat (rowD r)] = pur (rankD r) ∧ f [.dat (.list (r.map Vl.d))] = pur (rankD r)
def rkD : D → D
  | .int i => .int (i + 1)
  | _ => .int 0
theorem rank_all : SpRankAll (dFun 1 2 d__law_rank) := by
  intro r hr
  have core : ∀ x, compGo (.name 1) dYes (dIf (dCmp isD (dVar 1) (dLit .none)) (dLit (.int 0)) (dBin addD (dVar 1) (dLit (.int 1)))) [.dat x, .hid] (r.map Vl.d) = pur ((rnk r).map .int) := by
    intro x
    rw [compGo_map (g := rkD)]
    · simp only [rnk, List.map_map]
      congr 1
      apply List.map_congr_left
      intro v _
      cases v <;> rfl
    · intro d hd
      obtain ⟨v, _, rfl⟩ := List.mem_map.mp hd
      cases v <;> simp [Vl.d, isD, addD, rkD]
  have hl : (rnk r).length ≤ sizeLine := big_ok (by simpa [rnk] using hr)
  constructor
  · simp [dFun_eq, d__law_rank, rowD, itmD, core, hl, rankD]
  · simp [dFun_eq, d__law_rank, itmD, core, hl, rankD]
theorem eqv_ints : ∀ xs ys : List Int, PyData.eqvAll (xs.map .int) (ys.map .int) = decide (xs = ys)
  | [], [] => by simp [PyData.eqvAll]
  | [], _ :: _ => by simp [PyData.eqvAll]
  | _ :: _, [] => by simp [PyData.eqvAll]
  | x :: xs, y :: ys => by
    simp only [List.map_cons, PyData.eqvAll, eqv_ints xs ys, ev_ii]
    by_cases h : x = y <;> simp [h]
theorem eqv_rank (r s : Row) : PyData.eqv (rankD r) (rankD s) = decide (rnk r = rnk s) := by
  simp only [rankD, PyData.eqv, eqv_ints]
theorem lt_rank (r s : Row) : PySem.W.dataLt (rankD r) (rankD s) = decide (rnk r < rnk s) := by
  unfold rankD
  rw [PySem.W.dataLt_list]
  exact PySem.W.dataLt_ints _ _
theorem alike_rank (r s : Row) : PySem.W.alike (rankD r) (rankD s) = true := by
  simp only [rankD, PySem.W.alike]
  exact PySem.W.alike_ints _ _
def encI (p : Row × Nat) : D := .tuple [rankD p.1, .int (p.2 : Nat)]
theorem le_encI (p q : Row × Nat) : PySem.W.dataLe false encI p q = List.zipIdxLE leR p q := by
  show (!PySem.W.dataLt (encI q) (encI p)) = _
  unfold encI
  rw [PySem.W.dataLt_pair (alike_rank _ _) (by simp [PySem.W.alike]), eqv_rank, lt_rank, PySem.W.dataLt_int]
  simp only [ev_ii]
  unfold List.zipIdxLE leR
  generalize rnk p.1 = x
  generalize rnk q.1 = y
  by_cases h : y = x
  · subst h
    have e : y ≤ y := List.le_refl _
    simp only [e, decide_true, if_true]
    by_cases h2 : (q.2 : Int) = (p.2 : Int)
    · have : p.2 = q.2 := by omega
      simp [this]
    · have h3 : ¬ ((q.2 : Int) == (p.2 : Int)) = true := by simpa using h2
      rw [if_neg h3]
      by_cases h4 : q.2 < p.2
      · have h5 : ¬ p.2 ≤ q.2 := by omega
        have h6 : ((q.2 : Int) < (p.2 : Int)) := by omega
        simp [h5, h6]
      · have h5 : p.2 ≤ q.2 := by omega
        have h6 : ¬ ((q.2 : Int) < (p.2 : Int)) := by omega
        simp [h5, h6]
  · simp only [h, decide_false]
    by_cases h2 : y < x
    · have h3 : ¬ x ≤ y := fun z => z h2
      simp [h2, h3]
    · have h3 : x ≤ y := h2
      have h4 : ¬ y ≤ x := fun z => h (List.le_antisymm z h3)
      simp [h2, h3, h4]
theorem compGo_on {α : Type} {t : Tgt} {c : Ev → Mn Bool} {e : Ev → Mn D} {ev : Ev} (dd gg : α → D) (pp : α → Bool) : ∀ (L : List α), (∀ a ∈ L, ∃ es, t.of (dd a) = some es ∧ c (setE ev t.ix es) = pur (pp a) ∧ (pp a = true → e (setE ev t.ix es) = pur (gg a))) → compGo t c e ev (L.map dd) = pur ((L.filter pp).map gg)
  | [], _ => rfl
  | a :: L, h => by
    rw [List.map_cons, compGo_cons]
    obtain ⟨es, h1, h2, h3⟩ := h a (by simp)
    rw [h1]
    simp only [lft_some', bnd_pur]
    rw [h2]
    simp only [nox_pur, bnd_pur]
    have ih := compGo_on dd gg pp L fun x hx => h x (by simp [hx])
    cases hp : pp a with
    | true =>
      rw [if_pos rfl, h3 hp, ih]
      simp [hp]
    | false =>
      rw [if_neg (by decide), ih]
      simp [hp]
theorem compGo_all {α : Type} {t : Tgt} {e : Ev → Mn D} {ev : Ev} (dd gg : α → D) (L : List α) (h : ∀ a ∈ L, ∃ es, t.of (dd a) = some es ∧ e (setE ev t.ix es) = pur (gg a)) : compGo t dYes e ev (L.map dd) = pur (L.map gg) := by
  have q : L.filter (fun _ => true) = L := List.filter_eq_self.mpr fun _ _ => rfl
  have z := compGo_on (t := t) (c := dYes) (e := e) (ev := ev) dd gg (fun _ => true) L fun a ha => by
    obtain ⟨es, h1, h2⟩ := h a ha
    exact ⟨es, h1, rfl, fun _ => h2⟩
  rw [q] at z
  exact z
theorem enum_rows (rs : List Row) : enumD [rowsL rs] = some (rs.zipIdx.map fun p => .tuple [.int (p.2 : Nat), rowD p.1]) := by
  show some _ = some _
  congr 1
  apply List.ext_getElem
  · simp
  · intro n h1 h2
    simp
theorem depth_row (r : Row) : (rankD r).depth ≤ 1 := by
  simp only [rankD, PyData.depth, PySem.W.depth_ints]
  omega
theorem plain_ints : ∀ is : List Int, PyData.plainAll (is.map PyData.int) = true
  | [] => rfl
  | i :: is => by simp only [List.map_cons, PyData.plainAll, PyData.plain, plain_ints is, Bool.and_self]
theorem plain_encs : ∀ L : List (Row × Nat), PyData.plainAll (L.map encI) = true
  | [] => rfl
  | p :: L => by simp only [List.map_cons, PyData.plainAll, encI, PyData.plain, rankD, plain_ints, plain_encs L, Bool.and_self]
theorem okSort_enc (L : List (Row × Nat)) : okSort (L.map encI) = true := by
  unfold okSort
  simp only [Bool.and_eq_true, Bool.or_eq_true, List.all_eq_true, decide_eq_true_eq]
  refine ⟨⟨⟨fun d hd e he => ?_, .inl fun d hd => ?_⟩, fun d hd => ?_⟩, plain_encs L⟩
  · obtain ⟨p, _, rfl⟩ := List.mem_map.mp hd
    obtain ⟨q, _, rfl⟩ := List.mem_map.mp he
    simp only [encI, PySem.W.alike, PySem.W.alikeAll, alike_rank]
    simp
  · obtain ⟨p, _, rfl⟩ := List.mem_map.mp hd
    rfl
  · obtain ⟨p, _, rfl⟩ := List.mem_map.mp hd
    have := depth_row p.1
    simp only [encI, PyData.depth, PyData.depthAll]
    omega
theorem srt_enc (L : List (Row × Nat)) : srtD (L.map encI) = (L.mergeSort (List.zipIdxLE leR)).map encI := by
  unfold srtD
  have q := PySem.W.sort_maps (r := List.zipIdxLE leR) (s := PySem.W.dataLe false fun d : D => d) encI (l := L) (fun a _ b _ => (le_encI a b).symm)
  exact q.symm
abbrev SpSorted (f : Fs) : Prop := ∀ rs : List Row, rs.length ≤ lim → (∀ r ∈ rs, r.length ≤ lim) → f [.dat (rowsL rs)] = pur (rowsT (srtR rs))
theorem ix_rows {rs : List Row} {k : Nat} {r : Row} (h : rs[k]? = some r) : ixD (rowsL rs) (.int (k : Nat)) = some (rowD r) := by
  show atI (rs.map rowD) ((k : Nat) : Int) = _
  exact atI_nat (by rw [List.getElem?_map, h]; rfl)
theorem sorted_loop (rs : List Row) (s4 : DL.Slot) : ∀ (L : List (Row × Nat)) (acc : List D) (s2 s3 : DL.Slot), (∀ p ∈ L, rs[p.2]? = some p.1) → acc.length + L.length ≤ lim → (∀ ds, s2 ≠ .own ds) → (∀ ds, s3 ≠ .own ds) →
    ∃ s2' s3', forGo (.tup [2, 3]) (sApp 1 (dBin ixD (dVar 0) (dVar 3))) (L.map encI) [.dat (rowsL rs), .own acc, s2, s3, s4] = nxM [.dat (rowsL rs), .own (.l (acc ++ L.map fun p => rowD p.1)), s2', s3', s4]
  | [], acc, s2, s3, _, _, _, _ => ⟨s2, s3, by simp⟩
  | p :: L, acc, s2, s3, h, hl, n2, n3 => by
    have h1 : rs[p.2]? = some p.1 := h p (by simp)
    simp only [List.length_cons] at hl
    obtain ⟨a, b, q⟩ := sorted_loop rs s4 L (acc ++ [rowD p.1]) (.dat (rankD p.1)) (.dat (.int (p.2 : Nat))) (fun x hx => h x (by simp [hx])) (by simp; omega) (fun ds e => by cases e) (fun ds e => by cases e)
    refine ⟨a, b, ?_⟩
    rw [List.map_cons, forGo_cons]
    have ha : acc.length < sizeLine := Nat.lt_of_lt_of_le (by omega) (big_ok (Nat.le_refl _))
    simp [encI, ix_rows h1, ha]
    rw [q]
    simp
theorem sorted_ok {f : Fs} (hf : SpRankAll f) : SpSorted (dFun 1 5 (d__law_sorted f)) := by
  intro rs hl hr
  have hz : rs.length ≤ sizeLine := big_ok hl
  have comp : ∀ a b c d e, compGo (.tup [4, 3]) dYes (dTup (dCons (dCl 1 f (dCons (dVar 3) (dNil))) (dCons (dVar 4) (dNil)))) [a, b, c, d, e] (rs.zipIdx.map fun p => .tuple [.int (p.2 : Nat), rowD p.1]) = pur (rs.zipIdx.map encI) := fun a b c d e =>
    compGo_all (fun p : Row × Nat => PyData.tuple [.int (p.2 : Nat), rowD p.1]) encI rs.zipIdx fun p hp => by
      have hpr : p.1 ∈ rs := List.fst_mem_of_mem_zipIdx hp
      have q := (hf p.1 (hr _ hpr)).1
      exact ⟨_, rfl, by simp [q, encI]⟩
  have hmem : ∀ p ∈ rs.zipIdx.mergeSort (List.zipIdxLE leR), rs[p.2]? = some p.1 := fun p hp => by
    have := List.mem_mergeSort.mp hp
    exact List.mem_zipIdx_iff_getElem?.mp this
  obtain ⟨a, b, q⟩ := sorted_loop rs .hid (rs.zipIdx.mergeSort (List.zipIdxLE leR)) [] .hid .hid hmem (by simp [List.length_mergeSort]; omega) (fun ds e => by cases e) (fun ds e => by cases e)
  have hs : sortedD [.list (rs.zipIdx.map encI)] = some (.list ((rs.zipIdx.mergeSort (List.zipIdxLE leR)).map encI)) := by
    show (if okSort _ = true then _ else _) = _
    rw [if_pos (okSort_enc _), srt_enc]
  have hm : (rs.zipIdx.mergeSort (List.zipIdxLE leR)).map (fun p => rowD p.1) = (srtR rs).map rowD := by
    have z := List.mergeSort_zipIdx (l := rs) (le := leR)
    unfold srtR
    rw [← z, List.map_map]
    rfl
  rw [dFun_eq]
  simp [d__law_sorted, sFor_f, enum_rows, comp, hz, hs, itmD]
  rw [q]
  simp [tupleD, hm, rowsT]
end LW
namespace LW
open PySem PySem.Spec PyProof.Rows L2 DL
instance : DecidableEq Vl := fun a b => match a, b with
  | .nul, .nul => isTrue rfl
  | .nul, .int _ => isFalse (by intro h; cases h)
  | .int _, .nul => isFalse (by intro h; cases h)
  | .int i, .int j => if h : i = j then isTrue (by rw [h]) else isFalse (by intro e; cases e; exact h rfl)
theorem eqv_v (x y : Vl) : PyData.eqv x.d y.d = decide (x = y) := by
  cases x with
  | nul => cases y <;> simp [Vl.d]
  | int i =>
    cases y with
    | nul => simp [Vl.d]
    | int j => by_cases h : i = j <;> simp [Vl.d, h]
theorem eqv_vs : ∀ xs ys : Row, PyData.eqvAll (xs.map Vl.d) (ys.map Vl.d) = decide (xs = ys)
  | [], [] => by simp [PyData.eqvAll]
  | [], _ :: _ => by simp [PyData.eqvAll]
  | _ :: _, [] => by simp [PyData.eqvAll]
  | x :: xs, y :: ys => by
    simp only [List.map_cons, PyData.eqvAll, eqv_vs xs ys, eqv_v]
    by_cases h : x = y <;> simp [h]
theorem eqv_row (r s : Row) : PyData.eqv (rowD r) (rowD s) = decide (r = s) := by
  simp only [rowD, PyData.eqv, eqv_vs]
theorem lay_v (x : Vl) : PyData.canLay0 x.d = true := by cases x <;> simp [Vl.d, PyData.canLay0]
theorem dep_v (x : Vl) : PyData.depth x.d = 0 := by cases x <;> simp [Vl.d, PyData.depth]
theorem lay_vs : ∀ r : Row, PyData.canLayAll0 (r.map Vl.d) = true
  | [] => rfl
  | x :: r => by simp [PyData.canLayAll0, lay_v, lay_vs r]
theorem dep_vs : ∀ r : Row, PyData.depthAll (r.map Vl.d) = 0
  | [] => rfl
  | x :: r => by simp [PyData.depthAll, dep_v, dep_vs r]
theorem lay_row (r : Row) : PyData.canLay0 (rowD r) = true := by simp [rowD, PyData.canLay0, lay_vs]
theorem dep_row (r : Row) : PyData.depth (rowD r) = 1 := by simp [rowD, PyData.depth, dep_vs]
theorem lay_rows : ∀ rs : List Row, PyData.canLayAll0 (rs.map rowD) = true
  | [] => rfl
  | r :: rs => by simp [PyData.canLayAll0, lay_row, lay_rows rs]
theorem dep_rows : ∀ rs : List Row, PyData.depthAll (rs.map rowD) ≤ 1
  | [] => by simp [PyData.depthAll]
  | r :: rs => by
    have := dep_rows rs
    simp only [List.map_cons, PyData.depthAll, dep_row]
    omega
theorem sh_row (r : Row) : SeqAt.shaped (rowD r) = true := by
  simp [SeqAt.shaped, lay_row, dep_row]
theorem sh_rowsL (rs : List Row) : SeqAt.shaped (rowsL rs) = true := by
  have := dep_rows rs
  simp [SeqAt.shaped, rowsL, PyData.canLay0, PyData.depth, lay_rows]
  omega
theorem sh_rowsT (rs : List Row) : SeqAt.shaped (rowsT rs) = true := by
  have := dep_rows rs
  simp [SeqAt.shaped, rowsT, PyData.canLay0, PyData.depth, lay_rows]
  omega
theorem in_rows (r : Row) (rs : List Row) : inD (rowD r) (rowsL rs) = some (decide (r ∈ rs)) := by
  rw [rowsL, in_list _ _ (sh_row r) (sh_rowsL rs)]
  congr 1
  induction rs with
  | nil => rfl
  | cons s rs ih =>
    simp only [List.map_cons, List.any_cons, ih, eqv_row, List.mem_cons]
    by_cases h : s = r
    · simp [h]
    · have h' : ¬ r = s := fun e => h e.symm
      simp [h, h']
theorem nin_rows (r : Row) (rs : List Row) : ninD (rowD r) (rowsL rs) = some (decide (¬ r ∈ rs)) := by
  unfold ninD
  rw [in_rows]
  by_cases h : r ∈ rs <;> simp [h]
end LW
namespace LW
open PySem PySem.Spec PyProof.Rows L2 DL
theorem way_0 (a b c : Bool) (n : N3) (e : Bool) : ixD (wayD a b c n e) (.int 0) = some (.str (Str.ofString (if a = true then "bag" else "set"))) := by cases a <;> rfl
inductive Op3 where
  | uni | int | dif
def Op3.s : Op3 → String
  | .uni => "union"
  | .int => "intersection"
  | .dif => "difference"
def manyZ (a b c : Bool) (w : Op3) (x y : Int) : Int :=
  let m := match w with
    | .uni => if b = true then (if y > x then y else x) else x + y
    | .int => if y < x then y else x
    | .dif => if (!a || !c) = true then x * (if y = 0 then 1 else 0) else (if x - y > 0 then x - y else 0)
  if a = true then m else (if 1 < m then 1 else m)
def mtch (n : N3) (k l : Vl) : Option Bool := if (k.isN || l.isN) = true then (if n.unk = true then none else some (k.isN && l.isN)) else some (decide (k = l))
abbrev SpMatch (f : Fs) : Prop := ∀ a b c n e k l, f [.dat (wayD a b c n e), .dat (Vl.d k), .dat (Vl.d l)] = pur (td (mtch n k l))
def secI : Row → Option Int
  | [_, .int i] => some i
  | _ => none
def sumR (rs : List Row) : List Int := rs.filterMap secI
/-- rows of two values -/
def two (rs : List Row) : Prop := ∀ r ∈ rs, ∃ u v, r = [u, v]
def totR (e : Bool) (rs : List Row) : Option Int := if e = true ∧ sumR rs = [] then none else some (sumR rs).sum
def oiD : Option Int → D
  | none => .none
  | some i => .int i
abbrev SpTotal (f : Fs) : Prop := ∀ a b c n e (rs : List Row), rs.length ≤ lim → two rs → f [.dat (wayD a b c n e), .dat (rowsT rs)] = pur (oiD (totR e rs))
end LW
namespace LW
open PySem PySem.Spec PyProof.Rows L2 DL
theorem itm_T (rs : List Row) : itmD (rowsT rs) = some (rs.map rowD) := rfl
def good (rs : List Row) : Prop := ∀ r ∈ rs, ∃ u v : Vl, r = [u, v] ∧ u.nn = true ∧ v.nn = true
theorem good.two {rs : List Row} (h : good rs) : two rs := fun r hr => by
  obtain ⟨u, v, e, _⟩ := h r hr
  exact ⟨u, v, e⟩
def trR (n : N3) (x : Flt) : Row → Option Bool
  | [u, v] => tv n u v x
  | _ => none
def isT : Option Bool → Bool
  | some true => true
  | _ => false
def selR (n : N3) (x : Flt) (rs : List Row) : List Row := rs.filter fun r => isT (trR n x r)
abbrev SpSelect (f : Fs) (m : Nat) : Prop := ∀ a b c n e (rs : List Row) x, rs.length ≤ lim → good rs → Flt.ok x = true → x.size ≤ m → f [.dat (wayD a b c n e), .dat (rowsT rs), .dat x.d] = pur (rowsT (selR n x rs))
def onceGo : List Row → List Row → List Row
  | acc, [] => acc
  | acc, r :: rs => onceGo (acc ++ if r ∈ acc then [] else [r]) rs
def onceR (rs : List Row) : List Row := onceGo [] rs
theorem once_sub : ∀ (rs acc : List Row) r, r ∈ onceGo acc rs → r ∈ acc ∨ r ∈ rs
  | [], acc, r, h => .inl h
  | s :: rs, acc, r, h => by
    rcases once_sub rs _ r h with q | q
    · rcases List.mem_append.mp q with q | q
      · exact .inl q
      · split at q
        · cases q
        · exact .inr (by simpa using .inl (List.mem_singleton.mp q))
    · exact .inr (List.mem_cons_of_mem _ q)
abbrev SpOnce (f : Fs) : Prop := ∀ rs : List Row, rs.length ≤ lim → (∀ r ∈ rs, r.length ≤ lim) → f [.dat (rowsL rs)] = pur (rowsT (srtR (onceR rs))) ∧ f [.dat (rowsT rs)] = pur (rowsT (srtR (onceR rs)))
theorem rep_if (r : Row) (p : Prop) [Decidable p] : mulxD (.list [rowD r]) (.int (if p then 1 else 0)) = some (rowsL (if p then [r] else [])) := by
  have h0 : (0 : Nat) ≤ sizeLine := Nat.zero_le _
  have h1 : (1 : Nat) ≤ sizeLine := big_ok (by decide)
  split <;> simp [mulxD, repL, rowsL, h0, h1]
theorem app_rows (xs ys : List Row) (h : xs.length + ys.length ≤ lim) : addD (rowsL xs) (rowsL ys) = some (rowsL (xs ++ ys)) := by
  have := big_ok h
  simp [addD, rowsL, this]
def cutR (n : Nat) (rs : List Row) : List Row := rs.map (·.take n)
abbrev SpCut (f : Fs) : Prop := ∀ a b c n e (rs : List Row) (m : Nat), rs.length ≤ lim → (∀ r ∈ rs, r.length ≤ lim) → f [.dat (wayD a b c n e), .dat (rowsT rs), .dat (.int (m : Nat))] = pur (rowsT (srtR (if a = true then cutR m rs else onceR (cutR m rs))))
end LW
namespace LW
open PySem PySem.Spec PyProof.Rows L2 DL
def keyR : Row → Vl
  | k :: _ => k
  | [] => .nul
def joinOne (n : N3) (r : Row) (ys : List Row) : List Row := (ys.filter fun s => isT (mtch n (keyR r) (keyR s))).map fun s => r ++ s.drop 1
def joinR (n : N3) (xs ys : List Row) : List Row := xs.flatMap fun r => joinOne n r ys
theorem ix_key (r : Row) (h : ∃ u v, r = [u, v]) : ixD (rowD r) (.int 0) = some (keyR r).d := by
  obtain ⟨u, v, rfl⟩ := h
  simp [rowD, keyR]
end LW
namespace LW
open PySem PySem.Spec PyProof.Rows L2 DL
@[simp] theorem dDGet_eq (kfs : List (Str × (Ev → Mn D))) (fw : Ev → Mn D) (ev : Ev) : dDGet kfs fw ev = bnd (dDisp kfs ev) fun ps => bnd (fw ev) fun w => lft (match w with
  | .str z => lookL ps z
  | _ => none) := rfl
theorem lay_tds : ∀ ts : List (Option Bool), PyData.canLayAll0 (ts.map td) = true
  | [] => rfl
  | t :: ts => by
    have h : PyData.canLay0 (td t) = true := by cases t <;> simp [td, PyData.canLay0]
    simp [PyData.canLayAll0, h, lay_tds ts]
theorem dep_tds : ∀ ts : List (Option Bool), PyData.depthAll (ts.map td) = 0
  | [] => rfl
  | t :: ts => by
    have h : PyData.depth (td t) = 0 := by cases t <;> simp [td, PyData.depth]
    simp [PyData.depthAll, h, dep_tds ts]
theorem sh_tds (ts : List (Option Bool)) : SeqAt.shaped (.list (ts.map td)) = true := by
  simp [SeqAt.shaped, PyData.canLay0, PyData.depth, lay_tds, dep_tds]
theorem eqv_td (t u : Option Bool) : PyData.eqv (td t) (td u) = decide (t = u) := by
  rcases t with _ | (_ | _) <;> rcases u with _ | (_ | _) <;> simp [td]
theorem in_tds (u : Option Bool) (ts : List (Option Bool)) : inD (td u) (.list (ts.map td)) = some (decide (u ∈ ts)) := by
  rw [in_list _ _ (td_shape u) (sh_tds ts)]
  congr 1
  induction ts with
  | nil => rfl
  | cons t ts ih =>
    simp only [List.map_cons, List.any_cons, ih, eqv_td, List.mem_cons]
    by_cases h : t = u
    · simp [h]
    · have h' : ¬ u = t := fun e => h e.symm
      simp [h, h']
theorem inT (ts : List (Option Bool)) : inD (.bool true) (.list (ts.map td)) = some (decide (some true ∈ ts)) := in_tds (some true) ts
theorem inN (ts : List (Option Bool)) : inD .none (.list (ts.map td)) = some (decide (none ∈ ts)) := in_tds none ts
inductive Kp3 where
  | semi | anti | notin
def Kp3.s : Kp3 → String
  | .semi => "semijoin"
  | .anti => "antijoin"
  | .notin => "not_in"
def keysR (n : N3) (r : Row) (ys : List Row) : List (Option Bool) := ys.map fun s => mtch n (keyR r) (keyR s)
def keepB (n : N3) (w : Kp3) (ys : List Row) (r : Row) : Bool := match w with
  | .semi => decide (some true ∈ keysR n r ys)
  | .anti => !decide (some true ∈ keysR n r ys)
  | .notin => !decide (some true ∈ keysR n r ys) && !decide (none ∈ keysR n r ys)
def keptR (n : N3) (w : Kp3) (xs ys : List Row) : List Row := xs.filter (keepB n w ys)
abbrev SpKept (f : Fs) : Prop := ∀ a b c n e (xs ys : List Row) w, xs.length ≤ lim → ys.length ≤ lim → two xs → two ys → f [.dat (wayD a b c n e), .dat (rowsT xs), .dat (rowsT ys), .dat (.str (Str.ofString (Kp3.s w)))] = pur (rowsT (keptR n w xs ys))
abbrev keptB (fm : Fs) : Ev → Ms := seqM (pSet 6 (dComp [8] (dItm (dVar 2)) (.name 8) (dYes) (dCl 3 fm (dCons (dVar 0) (dCons (dBin ixD (dVar 5) (dLit (.int 0))) (dCons (dBin ixD (dVar 8) (dLit (.int 0))) (dNil)))))))
    (seqM (pSet 7 (dDGet [("semijoin", dCmpE inD (dLit (.bool true)) (dVar 6)), ("antijoin", dCmpE ninD (dLit (.bool true)) (dVar 6)), ("not_in", dAndV (dCmpE ninD (dLit (.bool true)) (dVar 6)) (dCmpE ninD (dLit .none) (dVar 6)))] (dVar 3)))
    (pSet 4 (dBin addD (dVar 4) (dBin mulxD (dLst (dCons (dVar 5) (dNil))) (dFn DL.intD (dCons (dVar 7) (dNil)))))))
theorem rep_b (r : Row) (p : Bool) : mulxD (.list [rowD r]) (.int (if p = true then 1 else 0)) = some (rowsL (if p = true then [r] else [])) := rep_if r (p = true)
theorem kept_loop {fm : Fs} (hm : SpMatch fm) (a b c : Bool) (n : N3) (e : Bool) (w : Kp3) (s1 : DL.Slot) (ys : List Row) (h2 : two ys) (hl : ys.length ≤ lim) : ∀ (xs acc : List Row) (s5 s6 s7 : DL.Slot), two xs → acc.length + xs.length ≤ lim → ∃ s5' s6' s7', forGo (.name 5) (keptB fm) (xs.map rowD) [.dat (wayD a b c n e), s1, .dat (rowsT ys), .dat (.str (Str.ofString w.s)), .dat (rowsL acc), s5, s6, s7, .hid] = nxM [.dat (wayD a b c n e), s1, .dat (rowsT ys), .dat (.str (Str.ofString w.s)), .dat (rowsL (acc ++ keptR n w xs ys)), s5', s6', s7', .hid]
  | [], acc, s5, s6, s7, _, _ => ⟨s5, s6, s7, by simp [keptR]⟩
  | r :: xs, acc, s5, s6, s7, hx, hz => by
    simp only [List.length_cons] at hz
    have hr := hx r (List.mem_cons_self)
    have hone : (if keepB n w ys r = true then [r] else []).length ≤ 1 := by split <;> simp
    obtain ⟨t5, t6, t7, q⟩ := kept_loop hm a b c n e w s1 ys h2 hl xs (acc ++ if keepB n w ys r = true then [r] else []) (.dat (rowD r)) (.dat (.list ((keysR n r ys).map td))) (.dat (.bool (keepB n w ys r))) (fun x h => hx x (List.mem_cons_of_mem _ h)) (by rw [List.length_append]; omega)
    refine ⟨t5, t6, t7, ?_⟩
    rw [List.map_cons, forGo_cons]
    have comp : ∀ w1 w3 w4 w6 w7, compGo (.name 8) dYes (dCl 3 fm (dCons (dVar 0) (dCons (dBin ixD (dVar 5) (dLit (.int 0))) (dCons (dBin ixD (dVar 8) (dLit (.int 0))) (dNil))))) [.dat (wayD a b c n e), w1, .dat (rowsT ys), w3, w4, .dat (rowD r), w6, w7, .hid] (ys.map rowD) = pur ((keysR n r ys).map td) := fun w1 w3 w4 w6 w7 => by
      have q := compGo_all (t := .name 8) (e := dCl 3 fm (dCons (dVar 0) (dCons (dBin ixD (dVar 5) (dLit (.int 0))) (dCons (dBin ixD (dVar 8) (dLit (.int 0))) (dNil))))) (ev := [.dat (wayD a b c n e), w1, .dat (rowsT ys), w3, w4, .dat (rowD r), w6, w7, .hid]) rowD (fun s => td (mtch n (keyR r) (keyR s))) ys fun s hs => ⟨_, rfl, by simp [ix_key r hr, ix_key s (h2 s hs), hm a b c n e _ _]⟩
      rw [q]
      unfold keysR
      rw [List.map_map]
      rfl
    have hsz : (keysR n r ys).length ≤ sizeLine := big_ok (by simpa [keysR] using hl)
    have ad := app_rows acc (if keepB n w ys r = true then [r] else []) (by omega)
    have fin : ∀ k, k = keepB n w ys r → DL.intD [.bool k] = some (.int (if keepB n w ys r = true then 1 else 0)) := fun k hk => by rw [hk]; rfl
    have i1 := inT (keysR n r ys)
    have i2 := inN (keysR n r ys)
    have o1 : (1 : Nat) ≤ sizeLine := big_ok (by decide)
    have rb := rep_b r (keepB n w ys r)
    have kk : keptR n w (r :: xs) ys = (if keepB n w ys r = true then [r] else []) ++ keptR n w xs ys := by
      unfold keptR
      rw [List.filter_cons]
      split <;> simp
    rw [kk, ← List.append_assoc, ← q]
    generalize hp1 : decide (some true ∈ keysR n r ys) = p1 at i1
    generalize hp2 : decide (none ∈ keysR n r ys) = p2 at i2
    have t1 : DL.intD [.bool true] = some (.int 1) := rfl
    have t0 : DL.intD [.bool false] = some (.int 0) := rfl
    have m1 : mulxD (.list [rowD r]) (.int 1) = some (rowsL [r]) := rep_b r true
    have m0 : mulxD (.list [rowD r]) (.int 0) = some (rowsL []) := rep_b r false
    have a1 := app_rows acc [r] (by simp; omega)
    have a0 := app_rows acc [] (by simp; omega)
    simp only [List.append_nil] at a0
    cases w with
    | semi =>
      have hk : keepB n .semi ys r = p1 := hp1
      cases p1 <;> simp [keptB, itm_T, comp, hsz, ninD, i1, i2, truD, Kp3.s, lookL, t1, t0, m1, m0, a1, a0, hk]
    | anti =>
      have hk : keepB n .anti ys r = !p1 := by rw [← hp1]; rfl
      cases p1 <;> simp [keptB, itm_T, comp, hsz, ninD, i1, i2, truD, Kp3.s, lookL, t1, t0, m1, m0, a1, a0, hk]
    | notin =>
      have hk : keepB n .notin ys r = (!p1 && !p2) := by rw [← hp1, ← hp2]; rfl
      cases p1 <;> cases p2 <;> simp [keptB, itm_T, comp, hsz, ninD, i1, i2, truD, Kp3.s, lookL, t1, t0, m1, m0, a1, a0, hk]
theorem kept_ok {fm : Fs} (hm : SpMatch fm) : SpKept (dFun 4 9 (d__law_kept fm)) := by
  intro a b c n e xs ys w hl hl2 hx hy
  obtain ⟨s5, s6, s7, q⟩ := kept_loop hm a b c n e w (.dat (rowsT xs)) ys hy hl2 xs [] .hid .hid .hid hx (by simpa using hl)
  have q : forGo (.name 5) (keptB fm) (xs.map rowD) [.dat (wayD a b c n e), .dat (rowsT xs), .dat (rowsT ys), .dat (.str (Str.ofString w.s)), .dat (.list []), .hid, .hid, .hid, .hid] = nxM [.dat (wayD a b c n e), .dat (rowsT xs), .dat (rowsT ys), .dat (.str (Str.ofString w.s)), .dat (rowsL (keptR n w xs ys)), s5, s6, s7, .hid] := q
  have tl : tupleD [rowsL (keptR n w xs ys)] = some (rowsT (keptR n w xs ys)) := rfl
  rw [dFun_eq]
  simp [d__law_kept, sFor_f, itm_T, q, tl]
end LW
namespace LW
open PySem PySem.Spec PyProof.Rows L2 DL
def manyN (a b c : Bool) (w : Op3) (xs ys : List Row) (r : Row) : Nat := (manyZ a b c w (xs.count r : Nat) (ys.count r : Nat)).toNat
def bothGo (k : Row → Nat) : List Row → List Row → List Row → List Row
  | acc, _, [] => acc
  | acc, done, r :: zs => if r ∈ done then bothGo k acc done zs else bothGo k (acc ++ List.replicate (k r) r) (done ++ [r]) zs
def bothR (a b c : Bool) (w : Op3) (xs ys : List Row) : List Row := bothGo (manyN a b c w xs ys) [] [] (xs ++ ys)
abbrev SpBoth (f : Fs) : Prop := ∀ a b c n e w (xs ys : List Row), (xs.length + ys.length) * (xs.length + ys.length) ≤ lim → (∀ r ∈ xs, r.length ≤ lim) → (∀ r ∈ ys, r.length ≤ lim) → f [.dat (wayD a b c n e), .dat (.str (Str.ofString (Op3.s w))), .dat (rowsT xs), .dat (rowsT ys)] = pur (rowsT (srtR (bothR a b c w xs ys)))
theorem done_l (done : List Row) : (PyData.list (done.map rowD) : D) = rowsL done := rfl
end LW
namespace LW
open PySem PySem.Spec PyProof.Rows L2 DL
def GvS (m : Ms) (P : Ev → Prop) : Prop := ∀ rs, ∃ ev rs', m rs = some (.nx ev, rs') ∧ P ev
theorem GvS.bnS {α : Type} {m : Mn α} {k : α → Ms} {P : α → Prop} {Q : Ev → Prop} (h : Gv m P) (hk : ∀ a, P a → GvS (k a) Q) : GvS (DL.bnS m k) Q := fun rs => by
  obtain ⟨d, rs1, e, p⟩ := h rs
  obtain ⟨d2, rs2, e2, p2⟩ := hk d p rs1
  refine ⟨d2, rs2, ?_, p2⟩
  unfold DL.bnS
  rw [e]
  exact e2
theorem GvS.nx {ev : Ev} {Q : Ev → Prop} (h : Q ev) : GvS (nxM ev) Q := fun rs => ⟨ev, rs, rfl, h⟩
theorem GvS.wl {m : Ms} {k : Ev → Ms} {P Q : Ev → Prop} (h : GvS m P) (hk : ∀ a, P a → GvS (k a) Q) : GvS (DL.wl m k) Q := fun rs => by
  obtain ⟨d, rs1, e, p⟩ := h rs
  obtain ⟨d2, rs2, e2, p2⟩ := hk d p rs1
  refine ⟨d2, rs2, ?_, p2⟩
  unfold DL.wl
  rw [e]
  exact e2
theorem GvS.sq {m : Ms} {k : Ev → Ms} {P Q : Ev → Prop} (h : GvS m P) (hk : ∀ a, P a → GvS (k a) Q) : GvS (DL.sq m k) Q := fun rs => by
  obtain ⟨d, rs1, e, p⟩ := h rs
  obtain ⟨d2, rs2, e2, p2⟩ := hk d p rs1
  refine ⟨d2, rs2, ?_, p2⟩
  unfold DL.sq
  rw [e]
  exact e2
theorem GvS.fin {m : Ms} {k : Ev → Ms} {P : Ev → Prop} {Q : D → Prop} (h : GvS m P) (hk : ∀ a, P a → Gv (DL.fin (k a)) Q) : Gv (DL.fin (DL.sq m k)) Q := fun rs => by
  obtain ⟨d, rs1, e, p⟩ := h rs
  obtain ⟨d2, rs2, e2, p2⟩ := hk d p rs1
  refine ⟨d2, rs2, ?_, p2⟩
  have : DL.sq m k rs = k d rs1 := by unfold DL.sq; rw [e]
  unfold DL.fin at e2 ⊢
  rw [this]
  exact e2
theorem Gv.dyn {m : Mn D} {P : D → Prop} (h : Gv m fun d => noL d = true ∧ P d) : Gv (dynM stk m) P := fun rs => by
  obtain ⟨d, rs', e, n, p⟩ := h rs
  refine ⟨d, rs', ?_, p⟩
  have z : dynM stk m rs = (match m rs with
    | some (Out.val d, rs') => if noL d = true then some (Out.val d, rs') else none
    | _ => none) := rfl
  rw [z, e]
  show (if noL d = true then _ else _) = _
  rw [if_pos n]
def okRow (n : N3) (r : Row) : Prop := ∃ u v : Vl, r = [u, v] ∧ u.okU n = true ∧ v.okU n = true
def IsTab (a : Bool) (n : N3) (most : Nat) (rs : List Row) : Prop := rs.length ≤ most ∧ (∀ r ∈ rs, okRow n r) ∧ (a = false → rs.Nodup)
theorem okU_nn {n : N3} {x : Vl} (h : x.okU n = true) : x.nn = true := by
  cases x with
  | nul => rfl
  | int i => simp [Vl.okU] at h; simp [Vl.nn, h.1]
theorem noL_v (x : Vl) : noL x.d = true := by cases x <;> rfl
theorem noL_row (r : Row) : noL (rowD r) = true := by
  have : ∀ r : Row, noL.noLs (r.map Vl.d) = true := by
    intro r
    induction r with
    | nil => rfl
    | cons x r ih => simp [noL.noLs, noL_v, ih]
  simp [rowD, noL, this]
theorem ne_rows (rs : List Row) : neD (rowsL rs) (.list []) = some (decide (rs ≠ [])) := by
  unfold neD
  rw [if_pos ⟨sh_rowsL rs, sh_rowsL []⟩]
  cases rs <;> simp [rowsL, PyData.eqv, PyData.eqvAll]
abbrev SpTable (f : Fs) : Prop := ∀ a b c n e (most : Nat), most ≤ 500 → Gv (f [.row, .dat (wayD a b c n e), .dat (.int (most : Nat))]) fun d => ∃ rs, d = rowsT (srtR rs) ∧ IsTab a n most rs
abbrev lineE (ft fp fv : Fs) : Ev → Mn D := dIf (dAnd (dCmp neD (dVar 3) (dLst (dNil))) (dCmp eqD (dCl 2 ft (dRow 0 (dCons (dLit (.int 3)) (dNil)))) (dLit (.int 0)))) (dCl 2 fp (dRow 0 (dCons (dVar 3) (dNil)))) (dTup (dCons (dCl 2 fv (dRow 0 (dCons (dVar 1) (dNil)))) (dCons (dCl 2 fv (dRow 0 (dCons (dVar 1) (dNil)))) (dNil))))
abbrev tabB (ft fp fv : Fs) : Ev → Ms := seqM (sSet 5 (lineE ft fp fv))
    (sIf (dOr (dCmp eqD (dBin ixD (dVar 1) (dLit (.int 0))) (dLit (.str "bag"))) (dCmp ninD (dVar 5) (dVar 3))) (sApp 3 (dVar 5)) (sNil))
def TabEv (a : Bool) (w m : D) (n : N3) (k : Nat) (ev : Ev) : Prop := ∃ rs s4 s5, ev = [.row, .dat w, .dat m, .own (.l (rs.map rowD)), s4, s5] ∧ IsTab a n k rs
theorem tab_turn {ft fp fv : Fs} (h1 : SpTk ft) (h2 : SpPick fp) (h3 : SpLawVal fv) (a b c : Bool) (n : N3) (e : Bool) (m : D) (k : Nat) (hk : k ≤ 900) (ev : Ev) (h : TabEv a (wayD a b c n e) m n k ev) : GvS (tabB ft fp fv ev) (TabEv a (wayD a b c n e) m n (k + 1)) := by
  obtain ⟨rs, s4, s5, rfl, hl, hok, hnd⟩ := h
  have draw : Gv (bnd (fv [.row, .dat (wayD a b c n e)]) fun x => bnd (fv [.row, .dat (wayD a b c n e)]) fun y => DL.pur (.tuple [x, y])) fun d => noL d = true ∧ ∃ r, d = rowD r ∧ okRow n r := by
    refine Gv.bnd (h3 a b c n e) fun d ⟨u, hd, hu⟩ => ?_
    subst hd
    refine Gv.bnd (h3 a b c n e) fun d ⟨v, hd, hv⟩ => ?_
    subst hd
    exact Gv.pur ⟨noL_row [u, v], [u, v], rfl, u, v, rfl, hu, hv⟩
  have line : Gv (lineE ft fp fv [.row, .dat (wayD a b c n e), .dat m, .dat (rowsL rs), lendS s4, lendS s5]) fun d => noL d = true ∧ ∃ r, d = rowD r ∧ okRow n r := by
    simp [ne_rows, bnd_bnd, bnd_id]
    by_cases he : rs = []
    · simp [he]
      exact draw
    · simp [he, bnd_bnd]
      refine Gv.bnd (h1 3 (by decide) (by decide)) fun d ⟨i, i0, i1, hd⟩ => ?_
      subst hd
      simp only [eq_ii, lft_some', bnd_pur]
      split
      · refine Gv.imp (h2 (rs.map rowD) (by cases rs with | nil => exact absurd rfl he | cons x y => simp) (by simp; omega)) fun d hd => ?_
        obtain ⟨r, hr, rfl⟩ := List.mem_map.mp hd
        exact ⟨noL_row r, r, rfl, hok r hr⟩
      · exact draw
  have none : lineE ft fp fv [.row, .dat (wayD a b c n e), .dat m, .own (.l (rs.map rowD)), s4, s5] = stk := by simp
  show GvS (DL.sq (sSet 5 (lineE ft fp fv) [.row, .dat (wayD a b c n e), .dat m, .own (.l (rs.map rowD)), s4, s5]) _) _
  refine GvS.sq (P := fun ev => ∃ r, ev = [.row, .dat (wayD a b c n e), .dat m, .own (.l (rs.map rowD)), s4, .dat (rowD r)] ∧ okRow n r) ?_ fun ev hev => ?_
  · rw [sSet_eq, dyn_eq, none]
    refine GvS.bnS (Gv.dyn line) fun d ⟨r, hd, hr⟩ => ?_
    subst hd
    exact GvS.nx ⟨r, rfl, hr⟩
  · obtain ⟨r, rfl, hr⟩ := hev
    have dl : rs.length < sizeLine := Nat.lt_of_lt_of_le (m := lim) (by have := lim_eq; omega) (big_ok (Nat.le_refl _))
    have ap : sApp 3 (dVar 5) [.row, .dat (wayD a b c n e), .dat m, .own (.l (rs.map rowD)), s4, .dat (rowD r)] = nxM [.row, .dat (wayD a b c n e), .dat m, .own (.l ((rs ++ [r]).map rowD)), s4, .dat (rowD r)] := by simp [dl]
    have good : ∀ r' ∈ rs ++ [r], okRow n r' := fun r' h' => by
      rcases List.mem_append.mp h' with q | q
      · exact hok r' q
      · rw [List.mem_singleton.mp q]; exact hr
    have nin := nin_rows r rs
    cases a with
    | true =>
      simp [way_0, dl]
      exact GvS.nx ⟨rs ++ [r], s4, .dat (rowD r), by simp, by simp; omega, good, fun z => by cases z⟩
    | false =>
      simp [way_0, done_l, nin]
      by_cases hm : r ∈ rs
      · simp [hm]
        exact GvS.nx ⟨rs, _, _, rfl, by omega, hok, hnd⟩
      · simp [hm, dl]
        refine GvS.nx ⟨rs ++ [r], s4, .dat (rowD r), by simp, by simp; omega, good, fun _ => ?_⟩
        rw [List.nodup_append]
        exact ⟨hnd rfl, by simp, fun x hx y hy z => hm (by rw [← List.mem_singleton.mp hy, ← z]; exact hx)⟩
theorem tab_go {ft fp fv : Fs} (h1 : SpTk ft) (h2 : SpPick fp) (h3 : SpLawVal fv) (a b c : Bool) (n : N3) (e : Bool) (m : D) : ∀ (ds : List D) (k : Nat), k + ds.length ≤ 900 → ∀ ev, TabEv a (wayD a b c n e) m n k ev → GvS (forGo (.name 4) (tabB ft fp fv) ds ev) (TabEv a (wayD a b c n e) m n (k + ds.length))
  | [], k, _, ev, h => GvS.nx h
  | d :: ds, k, hl, ev, h => by
    simp only [List.length_cons] at hl
    rw [forGo_cons]
    obtain ⟨rs, s4, s5, rfl, hr⟩ := h
    simp only [tgt_name, lft_some', bnS_pur, tix_name, setE_cons, setE_nil2, List.set_cons_succ, List.set_cons_zero]
    have t := tab_turn h1 h2 h3 a b c n e m k (by omega) [.row, .dat (wayD a b c n e), .dat m, .own (.l (rs.map rowD)), .dat d, s5] ⟨rs, _, _, rfl, hr⟩
    refine GvS.wl t fun ev' h' => ?_
    have q := tab_go h1 h2 h3 a b c n e m ds (k + 1) (by omega) ev' h'
    rw [List.length_cons, show k + (ds.length + 1) = k + 1 + ds.length by omega]
    exact q
theorem IsTab.mono {a : Bool} {n : N3} {k l : Nat} {rs : List Row} (h : IsTab a n k rs) (hk : k ≤ l) : IsTab a n l rs := ⟨Nat.le_trans h.1 hk, h.2⟩
theorem table_ok {ft fp fv fs : Fs} (h1 : SpTk ft) (h2 : SpPick fp) (h3 : SpLawVal fv) (h4 : SpSorted fs) : SpTable (dFun 3 6 (d__law_table ft fp fv fs)) := by
  intro a b c n e most hm
  rw [dFun_eq]
  simp [d__law_table, sFor_f, addD, sq_bnS, fin_bnS, bnd_bnd, bnS_bnd]
  refine Gv.bnd (h1 _ (by omega) (by omega)) fun d ⟨i, i0, i1, hd⟩ => ?_
  subst hd
  have hr : rng1 [.int i] = some (rngD 0 i) := by
    have q : rng1 [.int i] = if -(2 ^ 62) ≤ i ∧ i < 2 ^ 62 then some (rngD 0 i) else none := rfl
    rw [q, if_pos (by omega)]
  rw [hr]
  simp only [lft_some', bnd_pur]
  have hl : (rngD 0 i).length ≤ most := by simp [rngD]; omega
  refine GvS.fin (tab_go h1 h2 h3 a b c n e (.int (most : Nat)) (rngD 0 i) 0 (by omega) _ ⟨[], .hid, .hid, rfl, by simp [IsTab]⟩) fun ev hev => ?_
  obtain ⟨rs, s4, s5, rfl, ht⟩ := hev
  have ht : IsTab a n most rs := ht.mono (by omega)
  have z := h4 rs (by have := ht.1; have := lim_eq; omega) (fun r hr => by
    obtain ⟨u, v, rfl, _⟩ := ht.2.1 r hr
    have := lim_eq
    simp; omega)
  simp [done_l, z]
  exact Gv.pur ⟨rs, rfl, ht⟩
end LW
namespace LW
open PySem PySem.Spec PyProof.Rows L2 DL
def Atom : D → Prop
  | .none => True
  | .bool _ => True
  | .int _ => True
  | .str x => ∃ s : String, x = Str.ofString s
  | _ => False
def OkA : Nat → D → Prop
  | 0, d => Atom d
  | m + 1, d => Atom d ∨ ∃ ds : List D, (d = .tuple ds ∨ d = .list ds) ∧ ds.length ≤ lim ∧ ∀ x ∈ ds, OkA m x
abbrev SpAlikeM (f : Fs) (m : Nat) : Prop := ∀ d, OkA m d → f [.dat d, .dat d] = pur (.bool true)
theorem alike_atom {f : Fs} {d : D} (h : Atom d) : dFun 2 3 (d__law_alike f) [.dat d, .dat d] = pur (.bool true) := by
  cases d with
  | none => simp [dFun_eq, d__law_alike, isA, truD, isD]
  | bool b => simp [dFun_eq, d__law_alike, isA, truD, isD]
  | int i => simp [dFun_eq, d__law_alike, isA, truD, isD]
  | str x =>
    obtain ⟨s, rfl⟩ := h
    simp [dFun_eq, d__law_alike, isA, truD, isD]
  | _ => exact absurd h (by simp [Atom])
theorem atI_of {ds : List D} {k : Nat} (h : k < ds.length) : atI ds ((k : Nat) : Int) = some ds[k] := atI_nat (List.getElem?_eq_getElem h)
theorem alike_all {f : Fs} {m : Nat} (hf : SpAlikeM f m) {ds : List D} (hl : ds.length ≤ lim) (hd : ∀ x ∈ ds, OkA m x) (mk : List D → D) (hix : ∀ (k : Nat) (h : k < ds.length), ixD (mk ds) (.int (k : Nat)) = some ds[k]) :
    compGo (.name 2) (dNot (dTru (dCl 2 f (dCons (dBin ixD (dVar 0) (dVar 2)) (dCons (dBin ixD (dVar 1) (dVar 2)) (dNil)))))) (dVar 2) [.dat (mk ds), .dat (mk ds), .hid] (rngD 0 (ds.length : Nat)) = pur [] := by
  have e : rngD 0 (ds.length : Nat) = (List.range ds.length).map fun k => PyData.int (k : Nat) := by
    unfold rngD
    simp
  rw [e]
  have q := compGo_on (t := .name 2) (c := dNot (dTru (dCl 2 f (dCons (dBin ixD (dVar 0) (dVar 2)) (dCons (dBin ixD (dVar 1) (dVar 2)) (dNil)))))) (e := dVar 2) (ev := [.dat (mk ds), .dat (mk ds), .hid]) (fun k : Nat => PyData.int (k : Nat)) (fun k : Nat => PyData.int (k : Nat)) (fun _ => false) (List.range ds.length) fun k hk => by
    have hk' : k < ds.length := List.mem_range.mp hk
    have z := hf ds[k] (hd _ (List.getElem_mem hk'))
    exact ⟨_, rfl, by simp [hix k hk', z, truD], fun w => by cases w⟩
  have z : (List.range ds.length).filter (fun _ => false) = [] := List.filter_eq_nil_iff.mpr (by simp)
  rw [z] at q
  exact q
theorem dRng_pur {op : List D → Option (List D)} {f : Ev → Mn (List DL.Slot)} {ev : Ev} {ss : List DL.Slot} {ds r : List D} (h1 : f ev = pur ss) (h2 : dats ss = some ds) (h3 : op ds = some r) : dRng op f ev = pur r := by
  rw [dRng_eq, h1, bnd_pur, h2, Option.bind_some, h3, lft_some']
theorem dComp_pur {own : List Nat} {src : Ev → Mn (List D)} {t : Tgt} {c : Ev → Mn Bool} {e : Ev → Mn D} {ev : Ev} {ds out : List D} (h1 : src ev = pur ds) (h2 : compGo t c e (wipeE ev own) ds = pur out) (h3 : out.length ≤ sizeLine) : dComp own src t c e ev = pur (.list out) := by
  rw [dComp_eq, h1, bnd_pur, h2, bnd_pur, if_pos h3, lft_some']
theorem rng_len (n : Nat) (h : n ≤ lim) : rng1 [.int (n : Nat)] = some (rngD 0 (n : Nat)) := by
  have q : rng1 [.int (n : Nat)] = if -(2 ^ 62) ≤ (n : Int) ∧ (n : Int) < 2 ^ 62 then some (rngD 0 (n : Nat)) else none := rfl
  have := lim_eq
  rw [q, if_pos (by omega)]
theorem eq_nil : eqD (.list []) (.list []) = some true := by
  unfold eqD
  rw [if_pos ⟨sh_rowsL [], sh_rowsL []⟩]
  simp [PyData.eqv, PyData.eqvAll]
def alikeG (F : Ev → Mn D) : Ev → Ms :=
    seqM (pIf (dTru (dIsi [.tuple, .list] (dVar 1))) (seqM (pIf (dOr (dNot (dTru (dIsi [.tuple, .list] (dVar 0)))) (dCmp neD (dIsi [.list] (dVar 0)) (dIsi [.list] (dVar 1)))) (pRet (dLit (.bool false))) (sNil))
    (seqM (pIf (dCmp neD (dFn lenD (dCons (dVar 0) (dNil))) (dFn lenD (dCons (dVar 1) (dNil)))) (pRet (dLit (.bool false))) (sNil))
    (pRet (dCmpE eqD F (dLst (dNil)))))) (sNil))
    (seqM (pIf (dOr (dCmp isD (dVar 1) (dLit .none)) (dTru (dIsi [.str] (dVar 1)))) (pRet (dAndV (dCmpE eqD (dVar 0) (dVar 1)) (dCmpE eqD (dIsi [.str] (dVar 0)) (dIsi [.str] (dVar 1))))) (sNil))
    (pRet (dAndV (dIsi [.int] (dVar 0)) (dAndV (dCmpE eqD (dIsi [.bool] (dVar 0)) (dIsi [.bool] (dVar 1))) (dCmpE eqD (dVar 0) (dVar 1))))))
theorem alikeT {F : Ev → Mn D} {ds : List D} (h : F [.dat (.tuple ds), .dat (.tuple ds), .hid] = pur (.list [])) : dFun 2 3 (alikeG F) [.dat (.tuple ds), .dat (.tuple ds)] = pur (.bool true) := by
  simp [dFun_eq, alikeG, isA, truD, lenD, h, eq_nil]
theorem alikeL {F : Ev → Mn D} {ds : List D} (h : F [.dat (.list ds), .dat (.list ds), .hid] = pur (.list [])) : dFun 2 3 (alikeG F) [.dat (.list ds), .dat (.list ds)] = pur (.bool true) := by
  simp [dFun_eq, alikeG, isA, truD, lenD, h, eq_nil]
abbrev cmpE (f : Fs) : Ev → Mn D := dComp [2] (dRng rng1 (dCons (dFn lenD (dCons (dVar 1) (dNil))) (dNil))) (.name 2) (dNot (dTru (dCl 2 f (dCons (dBin ixD (dVar 0) (dVar 2)) (dCons (dBin ixD (dVar 1) (dVar 2)) (dNil)))))) (dVar 2)
theorem alike_step {f : Fs} {m : Nat} (hf : SpAlikeM f m) : SpAlikeM (dFun 2 3 (d__law_alike f)) (m + 1) := by
  intro d h
  rcases h with h | ⟨ds, h | h, hl, hd⟩
  · exact alike_atom h
  · subst h
    have q := alike_all hf hl hd .tuple (fun k hk => atI_of hk)
    have r := rng_len ds.length hl
    have a : dCons (dFn lenD (dCons (dVar 1) (dNil))) (dNil) [.dat (.tuple ds), .dat (.tuple ds), .hid] = pur [.dat (.int (ds.length : Nat))] := by simp [lenD]
    have c : cmpE f [.dat (.tuple ds), .dat (.tuple ds), .hid] = pur (.list []) := dComp_pur (dRng_pur a rfl r) q (Nat.zero_le _)
    exact alikeT c
  · subst h
    have q := alike_all hf hl hd .list (fun k hk => atI_of hk)
    have r := rng_len ds.length hl
    have a : dCons (dFn lenD (dCons (dVar 1) (dNil))) (dNil) [.dat (.list ds), .dat (.list ds), .hid] = pur [.dat (.int (ds.length : Nat))] := by simp [lenD]
    have c : cmpE f [.dat (.list ds), .dat (.list ds), .hid] = pur (.list []) := dComp_pur (dRng_pur a rfl r) q (Nat.zero_le _)
    exact alikeL c
theorem alike_zero {f : Fs} : SpAlikeM (dFun 2 3 (d__law_alike f)) 0 := fun d h => alike_atom h
theorem okA_v (x : Vl) : Atom x.d := by cases x <;> trivial
theorem okA_row {r : Row} (h : r.length ≤ lim) : OkA 1 (rowD r) := .inr ⟨_, .inl rfl, by simpa using h, fun x hx => by
  obtain ⟨v, _, rfl⟩ := List.mem_map.mp hx
  exact okA_v v⟩
theorem okA_rows {rs : List Row} (h : rs.length ≤ lim) (hr : ∀ r ∈ rs, r.length ≤ lim) : OkA 2 (rowsT rs) := .inr ⟨_, .inl rfl, by simpa using h, fun x hx => by
  obtain ⟨r, hm, rfl⟩ := List.mem_map.mp hx
  exact okA_row (hr r hm)⟩
end LW
namespace LW
open PySem PySem.Spec PyProof.Rows L2 DL
def nnR (r : Row) : Prop := ∀ v ∈ r, v.nn = true
theorem rnk_inj : ∀ {r s : Row}, nnR r → nnR s → rnk r = rnk s → r = s
  | [], [], _, _, _ => rfl
  | [], _ :: _, _, _, e => by simp [rnk] at e
  | _ :: _, [], _, _, e => by simp [rnk] at e
  | x :: r, y :: s, hr, hs, e => by
    simp only [rnk, List.map_cons, List.cons.injEq] at e
    have h1 : x.nn = true := hr x (by simp)
    have h2 : y.nn = true := hs y (by simp)
    have hx : x = y := by
      cases x with
      | nul =>
        cases y with
        | nul => rfl
        | int j =>
          have : 0 ≤ j := by simpa [Vl.nn] using h2
          have q : (0 : Int) = j + 1 := e.1
          omega
      | int i =>
        have : 0 ≤ i := by simpa [Vl.nn] using h1
        cases y with
        | nul =>
          have q : i + 1 = (0 : Int) := e.1
          omega
        | int j =>
          have q : i + 1 = j + 1 := e.1
          rw [show i = j by omega]
    rw [hx, rnk_inj (fun v hv => hr v (by simp [hv])) (fun v hv => hs v (by simp [hv])) e.2]
theorem leR_total (r s : Row) : (leR r s || leR s r) = true := by
  unfold leR
  rcases List.le_total (rnk r) (rnk s) with h | h
  · simp [h]
  · simp [h]
theorem leR_trans (r s t : Row) (h1 : leR r s = true) (h2 : leR s t = true) : leR r t = true := by
  unfold leR at *
  simp only [decide_eq_true_eq] at *
  exact List.le_trans h1 h2
theorem leR_anti {r s : Row} (hr : nnR r) (hs : nnR s) (h1 : leR r s = true) (h2 : leR s r = true) : r = s := by
  unfold leR at *
  simp only [decide_eq_true_eq] at *
  exact rnk_inj hr hs (List.le_antisymm h1 h2)
theorem srt_sorted (rs : List Row) : (srtR rs).Pairwise fun r s => leR r s = true := List.pairwise_mergeSort (fun a b c => leR_trans a b c) leR_total rs
theorem srt_perm (rs : List Row) : (srtR rs).Perm rs := List.mergeSort_perm rs leR
theorem srt_unique {xs ys : List Row} (hx : ∀ r ∈ xs, nnR r) (hp : xs.Perm ys) (h1 : xs.Pairwise fun r s => leR r s = true) (h2 : ys.Pairwise fun r s => leR r s = true) : xs = ys :=
  hp.eq_of_pairwise (fun a b ha hb h1 h2 => leR_anti (hx a ha) (hx b (hp.mem_iff.mpr hb)) h1 h2) h1 h2
theorem srt_count {xs ys : List Row} (hx : ∀ r ∈ xs, nnR r) (h : ∀ r, xs.count r = ys.count r) (h2 : ys.Pairwise fun r s => leR r s = true) : ys = srtR xs := by
  have hp : xs.Perm ys := List.perm_iff_count.mpr h
  exact (srt_unique (fun r hr => hx r ((srt_perm xs).mem_iff.mp hr)) ((srt_perm xs).trans hp) (srt_sorted xs) h2).symm
theorem okRow.nn {n : N3} {r : Row} (h : okRow n r) : nnR r := by
  obtain ⟨u, v, rfl, hu, hv⟩ := h
  intro x hx
  simp at hx
  rcases hx with rfl | rfl
  · exact okU_nn hu
  · exact okU_nn hv
end LW
namespace LW
open PySem PySem.Spec PyProof.Rows L2 DL
inductive Cnd where
  | p
  | q
  | not (c : Cnd)
  | and (c d : Cnd)
  | or (c d : Cnd)
def Cnd.d : Cnd → D
  | .p => .tuple [.str "p"]
  | .q => .tuple [.str "q"]
  | .not c => .tuple [.str "not", c.d]
  | .and c e => .tuple [.str "and", c.d, e.d]
  | .or c e => .tuple [.str "or", c.d, e.d]
def Cnd.size : Cnd → Nat
  | .p => 1
  | .q => 1
  | .not c => c.size + 1
  | .and c e => c.size + e.size + 1
  | .or c e => c.size + e.size + 1
inductive Ex where
  | tab (b : Bool)
  | op (w : Op3) (e f : Ex)
  | flt (c : Cnd) (e : Ex)
def Ex.d : Ex → D
  | .tab b => .tuple [.str "table", colD b]
  | .op w e f => .tuple [.str (Str.ofString w.s), e.d, f.d]
  | .flt c e => .tuple [.str "filter", c.d, e.d]
def Ex.size : Ex → Nat
  | .tab _ => 1
  | .op _ e f => e.size + f.size + 1
  | .flt c e => c.size + e.size + 1
def cv (p q : Option Bool) : Cnd → Option Bool
  | .p => p
  | .q => q
  | .not c => tnot (cv p q c)
  | .and c e => tand (cv p q c) (cv p q e)
  | .or c e => tor (cv p q c) (cv p q e)
end LW
namespace LW
open PySem PySem.Spec PyProof.Rows L2 DL
end LW
namespace LW
open PySem PySem.Spec PyProof.Rows L2 DL
end LW
namespace LW
open PySem PySem.Spec PyProof.Rows L2 DL
end LW
namespace LX
open PySem PySem.Spec PyProof.Rows L2 DL
end LX
namespace PW
open PySem PySem.Spec PyProof.Rows L2 DL LW
theorem vo_i (i : Int) : dFun 1 1 d_value_order [.dat (.int i)] = pur (.int i) := by
  simp [dFun_eq, d_value_order, isD, negD]
theorem vo_n : dFun 1 1 d_value_order [.dat .none] = pur (.int (-1)) := by
  simp [dFun_eq, d_value_order, isD, negD]
def isIntTo : D → Int → Bool
  | .int i, g => decide (0 ≤ i) && decide (i ≤ g)
  | _, _ => false
abbrev SpIntTo (f : Fs) : Prop := ∀ (d : D) (g : Int), NoDict d → f [.dat d, .dat (.int g)] = pur (.bool (isIntTo d g))
theorem int_to : SpIntTo (dFun 2 2 d_is_integer_to) := by
  intro d g h
  cases d with
  | int i =>
    by_cases h0 : 0 ≤ i <;> simp [dFun_eq, d_is_integer_to, isA, truD, leD, h0, isIntTo]
  | dict kvs => exact absurd rfl (h kvs)
  | _ => simp [dFun_eq, d_is_integer_to, isA, truD, leD, isIntTo]
def vunder (n : N3) : D → Bool
  | .none => (match n with | .none => false | _ => true)
  | d => isIntTo d 9
abbrev SpVu (f : Fs) : Prop := ∀ a b c n e d, NoDict d → f [.dat (wayD a b c n e), .dat d] = pur (.bool (vunder n d))
theorem vu {f : Fs} (hf : SpIntTo f) : SpVu (dFun 2 2 (d__is_value_under f)) := by
  intro a b c n e d h
  cases d with
  | none => cases n <;> simp [dFun_eq, d__is_value_under, isD, c_NULLS, way_3, vunder, N3.s]
  | _ => simp [dFun_eq, d__is_value_under, isD, c_GREATEST_VALUE, vunder, hf _ _ h]
abbrev SpRow (f : Fs) : Prop := ∀ a b c n e u v, NoDict u → NoDict v → f [.dat (wayD a b c n e), .dat (.tuple [u, v])] = pur (.bool (vunder n u && vunder n v))
theorem is_row {f : Fs} (hf : SpVu f) : SpRow (dFun 2 3 (d_is_row f)) := by
  intro a b c n e u v hu hv
  simp [dFun_eq, d_is_row, isA, truD, c_ROW_LENGTH, lenD, itmD, hf _ _ _ _ _ _ hu, hf _ _ _ _ _ _ hv, allD, bools]
abbrev SpSem (f : Fs) : Prop := ∀ a b c n e, f [.dat (wayD a b c n e)] = pur (.bool true)
theorem sem : SpSem (dFun 1 3 d_is_semantics) := by
  intro a b c n e
  have h1 : inD (.str (if a then "bag" else "set")) (.tuple [.str "bag", .str "set"]) = some true := by cases a <;> (rw [in_tup _ _ rfl rfl]; simp)
  have h2 : inD (.str (if b then "maximum" else "sum")) (.tuple [.str "maximum", .str "sum"]) = some true := by cases b <;> (rw [in_tup _ _ rfl rfl]; simp)
  have h3 : inD (.str (if c then "count" else "kind")) (.tuple [.str "count", .str "kind"]) = some true := by cases c <;> (rw [in_tup _ _ rfl rfl]; simp)
  have h4 : inD (.str (Str.ofString n.s)) (.tuple [.str "none", .str "unknown", .str "value"]) = some true := by cases n <;> (rw [in_tup _ _ rfl rfl]; simp [N3.s])
  have h5 : inD (.str (if e then "null" else "zero")) (.tuple [.str "null", .str "zero"]) = some true := by cases e <;> (rw [in_tup _ _ rfl rfl]; simp)
  simp [dFun_eq, d_is_semantics, isA, truD, c_WORDS, lenD, wayD, zipD, h1, h2, h3, h4, h5, allD, bools]
abbrev SpFits (f : Fs) : Prop := (∀ d, NoDict d → f [.dat d, .dat (.str "column")] = pur (.bool (isIntTo d 1))) ∧ (∀ d, NoDict d → f [.dat d, .dat (.str "number")] = pur (.bool (isIntTo d 9))) ∧ ∀ d, NoDict d → f [.dat d, .dat (.str "filter")] = pur (.bool true)
@[simp] theorem gi_c : kinD k_GREATEST (.str "column") = some true := by simp [kinD, k_GREATEST, List.lookup]
@[simp] theorem gi_n : kinD k_GREATEST (.str "number") = some true := by simp [kinD, k_GREATEST, List.lookup]
@[simp] theorem gi_f : kinD k_GREATEST (.str "filter") = some false := by simp [kinD, k_GREATEST, List.lookup]
@[simp] theorem gg_c : kgetD k_GREATEST (.str "column") = some (.int 1) := by simp [kgetD, k_GREATEST, List.lookup]
@[simp] theorem gg_n : kgetD k_GREATEST (.str "number") = some (.int 9) := by simp [kgetD, k_GREATEST, List.lookup]
theorem fits {f : Fs} (hf : SpIntTo f) : SpFits (dFun 2 2 (d__fits f)) := by
  refine ⟨fun d h => ?_, fun d h => ?_, fun d h => ?_⟩ <;> simp [dFun_eq, d__fits, hf _ _ h]
theorem col_ok (c : Bool) : isIntTo (colD c) 1 = true := by cases c <;> rfl
theorem col_nd (c : Bool) : NoDict (colD c) := by intro k e; cases c <;> simp [colD] at e
theorem fget {k w : String} {d : D} (h : List.lookup [Str.ofString k, Str.ofString w] t_FORMS = some d) : tgetD t_FORMS (.tuple [.str (Str.ofString k), .str (Str.ofString w)]) = some d := by
  show List.lookup [Str.ofString k, Str.ofString w] t_FORMS = some d
  exact h
theorem fnin {k w : String} {d : D} (h : List.lookup [Str.ofString k, Str.ofString w] t_FORMS = some d) : tninD t_FORMS (.tuple [.str (Str.ofString k), .str (Str.ofString w)]) = some false := by
  show some (!(List.lookup [Str.ofString k, Str.ofString w] t_FORMS).isSome) = some false
  rw [h]; rfl
theorem lk_less : List.lookup [Str.ofString "filter", Str.ofString "less"] t_FORMS = some (.tuple [.str "column", .str "number"]) := by simp [t_FORMS, List.lookup]
@[simp] theorem fg_less : tgetD t_FORMS (.tuple [.str "filter", .str "less"]) = some (.tuple [.str "column", .str "number"]) := fget lk_less
@[simp] theorem fn_less : tninD t_FORMS (.tuple [.str "filter", .str "less"]) = some false := fnin lk_less
theorem lk_equal : List.lookup [Str.ofString "filter", Str.ofString "equal"] t_FORMS = some (.tuple [.str "column", .str "number"]) := by simp [t_FORMS, List.lookup]
@[simp] theorem fg_equal : tgetD t_FORMS (.tuple [.str "filter", .str "equal"]) = some (.tuple [.str "column", .str "number"]) := fget lk_equal
@[simp] theorem fn_equal : tninD t_FORMS (.tuple [.str "filter", .str "equal"]) = some false := fnin lk_equal
theorem lk_same : List.lookup [Str.ofString "filter", Str.ofString "same"] t_FORMS = some (.tuple []) := by simp [t_FORMS, List.lookup]
@[simp] theorem fg_same : tgetD t_FORMS (.tuple [.str "filter", .str "same"]) = some (.tuple []) := fget lk_same
@[simp] theorem fn_same : tninD t_FORMS (.tuple [.str "filter", .str "same"]) = some false := fnin lk_same
theorem lk_null : List.lookup [Str.ofString "filter", Str.ofString "null"] t_FORMS = some (.tuple [.str "column"]) := by simp [t_FORMS, List.lookup]
@[simp] theorem fg_null : tgetD t_FORMS (.tuple [.str "filter", .str "null"]) = some (.tuple [.str "column"]) := fget lk_null
@[simp] theorem fn_null : tninD t_FORMS (.tuple [.str "filter", .str "null"]) = some false := fnin lk_null
theorem lk_not : List.lookup [Str.ofString "filter", Str.ofString "not"] t_FORMS = some (.tuple [.str "filter"]) := by simp [t_FORMS, List.lookup]
@[simp] theorem fg_not : tgetD t_FORMS (.tuple [.str "filter", .str "not"]) = some (.tuple [.str "filter"]) := fget lk_not
@[simp] theorem fn_not : tninD t_FORMS (.tuple [.str "filter", .str "not"]) = some false := fnin lk_not
theorem lk_and : List.lookup [Str.ofString "filter", Str.ofString "and"] t_FORMS = some (.tuple [.str "filter", .str "filter"]) := by simp [t_FORMS, List.lookup]
@[simp] theorem fg_and : tgetD t_FORMS (.tuple [.str "filter", .str "and"]) = some (.tuple [.str "filter", .str "filter"]) := fget lk_and
@[simp] theorem fn_and : tninD t_FORMS (.tuple [.str "filter", .str "and"]) = some false := fnin lk_and
theorem lk_or : List.lookup [Str.ofString "filter", Str.ofString "or"] t_FORMS = some (.tuple [.str "filter", .str "filter"]) := by simp [t_FORMS, List.lookup]
@[simp] theorem fg_or : tgetD t_FORMS (.tuple [.str "filter", .str "or"]) = some (.tuple [.str "filter", .str "filter"]) := fget lk_or
@[simp] theorem fn_or : tninD t_FORMS (.tuple [.str "filter", .str "or"]) = some false := fnin lk_or
abbrev SpForm (f : Fs) : Prop := ∀ x : Flt, x.ok = true → f [.dat x.d, .dat (.str "filter")] = pur (.bool true)
theorem has_form {f : Fs} (hf : SpFits f) : SpForm (dFun 2 5 (d__has_form f)) := by
  intro x hx
  obtain ⟨h1, h2, h3⟩ := hf
  have n9 : ∀ n : Int, (decide (0 ≤ n) && decide (n ≤ 9)) = true → isIntTo (.int n) 9 = true := fun n h => h
  cases x with
  | less c n => simp [dFun_eq, d__has_form, Flt.d, isA, truD, lenD, addD, zipD, h1 _ (col_nd _), h2 _ (int_nd _), h3 _ (Flt.nd _), col_ok, allD, bools, n9 n hx]
  | equal c n => simp [dFun_eq, d__has_form, Flt.d, isA, truD, lenD, addD, zipD, h1 _ (col_nd _), h2 _ (int_nd _), h3 _ (Flt.nd _), col_ok, allD, bools, n9 n hx]
  | _ => simp [dFun_eq, d__has_form, Flt.d, isA, truD, lenD, addD, zipD, h1 _ (col_nd _), h2 _ (int_nd _), h3 _ (Flt.nd _), col_ok, allD, bools]
def prF (x : Flt) : D := .tuple [x.d, .str "filter"]
abbrev SpInner (f : Fs) : Prop := ∀ x : Flt, f [.dat x.d, .dat (.str "filter")] = pur (.list (x.inner.map prF))
theorem inner_f : SpInner (dFun 2 5 d__inner_tuples) := by
  intro x
  cases x <;> simp [dFun_eq, d__inner_tuples, Flt.d, Flt.inner, prF, zipD]
end PW
namespace PW
open PySem PySem.Spec PyProof.Rows L2 DL LW
def total : List Flt → Nat
  | [] => 0
  | x :: xs => x.size + total xs
theorem total_app : ∀ xs ys : List Flt, total (xs ++ ys) = total xs + total ys
  | [], ys => by simp [total]
  | x :: xs, ys => by simp [total, total_app xs ys]; omega
theorem total_inner (x : Flt) : x.size = total x.inner + 1 := by cases x <;> simp [Flt.size, Flt.inner, total] <;> omega
theorem size_pos (x : Flt) : 1 ≤ x.size := by rw [total_inner]; omega
theorem total_len : ∀ xs : List Flt, xs.length ≤ total xs
  | [] => by simp [total]
  | x :: xs => by have := total_len xs; have := size_pos x; simp [total]; omega
theorem inner_ok (x : Flt) (h : x.ok = true) : ∀ y ∈ x.inner, y.ok = true := by
  cases x <;> simp_all [Flt.inner, Flt.ok]
abbrev tupBody (fh fi : Fs) : Ev → Ms := seqM (sPopT (.tup [5, 6]) 3)
    (seqM (sIf (dOr (dCmp eqD (dFn lenD (dCons (dVar 4) (dNil))) (dVar 2)) (dNot (dTru (dCl 2 fh (dCons (dVar 5) (dCons (dVar 6) (dNil))))))) (sRet (dLit .none)) (sNil))
    (seqM (sApp 4 (dVar 5))
    (sExt 3 (dCl 2 fi (dCons (dVar 5) (dCons (dVar 6) (dNil)))))))
theorem popT_app (v k m : D) (ys : List D) (a b : D) (fo : Slot) (s5 s6 : Slot) : popT (.tup [5, 6]) 3 [.dat v, .dat k, .dat m, .own (.l (ys ++ [.tuple [a, b]])), fo, s5, s6] = some (ys, [a, b]) := by
  simp [popT]
theorem tup_loop {fh fi : Fs} (h1 : SpForm fh) (h2 : SpInner fi) (v k : D) : ∀ (n : Nat) (xs L : List Flt) (s5 s6 : Slot), (∀ x ∈ xs, x.ok = true) → L.length + total xs ≤ 20 → total xs < n →
    ∃ L' t5 t6, whileN (dTru (dVar 3)) (tupBody fh fi) n [.dat v, .dat k, .dat (.int 20), .own (.l (xs.map prF)), .own (.l (L.map Flt.d)), s5, s6] = nxM [.dat v, .dat k, .dat (.int 20), .own (.l []), .own (.l (List.map Flt.d L')), t5, t6] := by
  intro n
  induction n with
  | zero => intro xs L s5 s6 _ _ h; omega
  | succ n ih =>
    intro xs L s5 s6 hok ht hn
    rw [whileN_s]
    by_cases hx : xs = []
    · subst hx
      refine ⟨L, s5, s6, ?_⟩
      simp [truD]
    · obtain ⟨ys, y, rfl⟩ : ∃ ys y, xs = ys ++ [y] := ⟨xs.dropLast, xs.getLast hx, (List.dropLast_concat_getLast hx).symm⟩
      have hy : y.ok = true := hok y (by simp)
      rw [total_app] at ht hn
      have e1 := total_inner y
      simp only [total, Nat.add_zero] at ht hn
      have hlen : ys.length + y.inner.length ≤ sizeLine := by
        have a := total_len ys
        have b := total_len y.inner
        exact size_ok _ (by omega)
      have hL : L.length < sizeLine := Nat.lt_of_lt_of_le (by omega : L.length < 31) (size_ok 31)
      obtain ⟨L', t5, t6, he⟩ := ih (ys ++ y.inner) (L ++ [y]) (.dat y.d) (.dat (.str "filter")) (fun z hz => by
        rcases List.mem_append.mp hz with q | q
        · exact hok z (by simp [q])
        · exact inner_ok y hy z q) (by rw [total_app, List.length_append]; simp; omega) (by rw [total_app]; omega)
      refine ⟨L', t5, t6, ?_⟩
      rw [← he]
      have hne : ¬ ((L.length : Int) = 20) := by omega
      have hp : (ys ++ [y]).map prF = ys.map prF ++ [.tuple [y.d, .str "filter"]] := by simp [prF]
      rw [hp]
      simp [truD, popT_app, lenD, hne, h1 y hy, h2 y, hlen, hL]
abbrev SpTup (f : Fs) : Prop := ∀ x : Flt, x.ok = true → x.size ≤ 20 → ∃ L : List D, f [.dat x.d, .dat (.str "filter"), .dat (.int 20)] = pur (.list L)
theorem tuples_ok {fh fi : Fs} (h1 : SpForm fh) (h2 : SpInner fi) : SpTup (dFun 3 7 (d_tuples_of fh fi)) := by
  intro x hok hx
  obtain ⟨L', t5, t6, he⟩ := tup_loop h1 h2 x.d (.str "filter") 64 [x] [] .hid .hid (by simpa using hok) (by simpa [total] using hx) (by simp [total]; omega)
  refine ⟨L'.map Flt.d, ?_⟩
  rw [dFun_eq]
  simp only [d_tuples_of]
  simp only [List.map_cons, List.map_nil, prF] at he
  simp [he]
abbrev SpIsFilter (f : Fs) : Prop := ∀ x : Flt, x.ok = true → x.size ≤ 20 → f [.dat x.d] = pur (.bool true)
theorem isn_list (ds : List D) : isnD (.list ds) .none = some true := rfl
theorem is_filter {ft : Fs} (h1 : SpTup ft) : SpIsFilter (dFun 1 1 (d_is_filter ft)) := by
  intro x hx hs
  obtain ⟨L, e⟩ := h1 x hx hs
  simp [dFun_eq, d_is_filter, c_MOST_TUPLES, e, isn_list]
end PW
namespace PW
open PySem PySem.Spec PyProof.Rows L2 DL LW
abbrev SpVo (f : Fs) : Prop := ∀ x : Vl, f [.dat x.d] = pur (.int x.ord)
theorem vo : SpVo (dFun 1 1 d_value_order) := by
  intro x
  cases x with
  | nul => exact vo_n
  | int i => exact vo_i i
end PW
namespace PW
open PySem PySem.Spec PyProof.Rows L2 DL LW
def ords (r : LW.Row) : List Int := r.map Vl.ord
def ordD (r : LW.Row) : D := .tuple ((ords r).map .int)
theorem rk_ord (v : Vl) : v.rk = v.ord + 1 := by cases v <;> simp [Vl.rk, Vl.ord]
theorem ords_lt : ∀ r s : LW.Row, (ords r < ords s) ↔ (rnk r < rnk s)
  | [], [] => by simp [ords, rnk]
  | [], _ :: _ => by simp [ords, rnk]
  | _ :: _, [] => by simp [ords, rnk]
  | u :: r, v :: s => by
    have ih := ords_lt r s
    unfold ords rnk at ih ⊢
    simp only [List.map_cons, List.cons_lt_cons_iff, rk_ord, ih]
    constructor
    · rintro (h | ⟨h1, h2⟩)
      · exact .inl (by omega)
      · exact .inr ⟨by omega, h2⟩
    · rintro (h | ⟨h1, h2⟩)
      · exact .inl (by omega)
      · exact .inr ⟨by omega, h2⟩
abbrev SpOrd (f : Fs) : Prop := ∀ r : LW.Row, r.length ≤ lim → f [.dat (rowD r)] = pur (ordD r)
theorem row_ord {f : Fs} (hf : SpVo f) : SpOrd (dFun 1 2 (d_row_order f)) := by
  intro r hr
  have core : ∀ x, compGo (.name 1) dYes (dCl 1 f (dCons (dVar 1) (dNil))) [.dat x, .hid] (r.map Vl.d) = pur ((ords r).map .int) := by
    intro x
    have e : (ords r).map PyData.int = r.map fun v => PyData.int v.ord := by rw [ords, List.map_map]; rfl
    rw [e]
    exact compGo_all Vl.d (fun v => PyData.int v.ord) r fun v hv => ⟨_, rfl, by simp [hf v]⟩
  have hl : (ords r).length ≤ sizeLine := big_ok (by simpa [ords] using hr)
  simp [dFun_eq, d_row_order, rowD, itmD, core, hl, tupleD, ordD]
/-- rows of some values, not too many -/
def fair (rs : List LW.Row) : Prop := ∀ r ∈ rs, r ≠ [] ∧ r.length ≤ lim
end PW
namespace PW
open PySem PySem.Spec PyProof.Rows L2 DL LW
def valK (kv : List Kc) (k : List Leaf) : Int := (getKv kv k).getD 0
end PW
namespace PW
open PySem PySem.Spec PyProof.Rows L2 DL LW
end PW
namespace PW
open PySem PySem.Spec PyProof.Rows L2 DL LW
theorem once_mem : ∀ (rs acc : List LW.Row), acc.Nodup → (onceGo acc rs).Nodup ∧ ∀ r, r ∈ onceGo acc rs ↔ r ∈ acc ∨ r ∈ rs
  | [], acc, h => ⟨h, fun r => by simp [onceGo]⟩
  | s :: rs, acc, h => by
    have nd : (acc ++ if s ∈ acc then [] else [s]).Nodup := by
      split
      · simpa using h
      · rename_i hn
        rw [List.nodup_append]
        exact ⟨h, by simp, fun x hx y hy z => hn (by rw [List.mem_singleton.mp hy] at z; rw [← z]; exact hx)⟩
    obtain ⟨a, b⟩ := once_mem rs _ nd
    refine ⟨a, fun r => ?_⟩
    show r ∈ onceGo (acc ++ if s ∈ acc then [] else [s]) rs ↔ _
    rw [b r]
    by_cases hs : s ∈ acc
    · simp only [hs, if_true, List.append_nil, List.mem_cons]
      constructor
      · rintro (h | h)
        · exact .inl h
        · exact .inr (.inr h)
      · rintro (h | rfl | h)
        · exact .inl h
        · exact .inl hs
        · exact .inr h
    · simp only [hs, if_false, List.mem_append, List.mem_singleton, List.mem_cons, List.not_mem_nil, or_false]
      constructor
      · rintro ((h | h) | h)
        · exact .inl h
        · exact .inr (.inl h)
        · exact .inr (.inr h)
      · rintro (h | h | h)
        · exact .inl (.inl h)
        · exact .inl (.inr h)
        · exact .inr h
theorem count_nd {us : List LW.Row} (h : us.Nodup) (r : LW.Row) : us.count r = if r ∈ us then 1 else 0 := by
  split
  · rename_i hm
    exact Nat.le_antisymm (List.nodup_iff_count.mp h r) (List.count_pos_iff.mpr hm)
  · rename_i hm
    exact List.count_eq_zero.mpr hm
theorem srt_once {rs us : List LW.Row} (hn : ∀ r ∈ rs, nnR r) (nd : us.Nodup) (mem : ∀ r, r ∈ us ↔ r ∈ rs) : srtR us = srtR (onceR rs) := by
  obtain ⟨a, b⟩ := once_mem rs [] List.nodup_nil
  have hb : ∀ r, r ∈ onceR rs ↔ r ∈ rs := fun r => (b r).trans (by simp)
  refine srt_count (fun r hr => hn r ((hb r).mp hr)) (fun r => ?_) (srt_sorted us)
  rw [(srt_perm us).count_eq, count_nd nd, count_nd (show (onceR rs).Nodup from a)]
  by_cases h : r ∈ rs
  · rw [if_pos ((hb r).mpr h), if_pos ((mem r).mpr h)]
  · rw [if_neg fun z => h ((hb r).mp z), if_neg fun z => h ((mem r).mp z)]
/-- rows as they come: of some values, each a value of the document -/
structure Fair (rs : List LW.Row) : Prop where
  fair : fair rs
  nn : ∀ r ∈ rs, nnR r
end PW
namespace PW
open PySem PySem.Spec PyProof.Rows L2 DL LW
@[simp] theorem dGetK_eq (fo fe ff : Ev → Mn D) (ev : Ev) : dGetK fo fe ff ev = bnd (fo ev) fun x => if isDct x = true then bnd (fe ev) fun y => bnd (ff ev) fun z => lft (getKD x y z) else stk := rfl
end PW
namespace PW
open PySem PySem.Spec PyProof.Rows L2 DL LW
end PW
namespace PW
open PySem PySem.Spec PyProof.Rows L2 DL LW
theorem ok_two {n : N3} {r : LW.Row} (h : okRow n r) : ∃ u v, r = [u, v] := by
  obtain ⟨u, v, e, _⟩ := h
  exact ⟨u, v, e⟩
theorem bools_map {α : Type} (p : α → Bool) : ∀ L : List α, bools (L.map fun a => PyData.bool (p a)) = some (L.map p)
  | [] => rfl
  | a :: L => by
    have ih := bools_map p L
    simp [bools, ih]
end PW
namespace PW
open PySem PySem.Spec PyProof.Rows L2 DL LW
end PW
namespace PW
open PySem PySem.Spec PyProof.Rows L2 DL LW
end PW
namespace PW
open PySem PySem.Spec PyProof.Rows L2 DL LW
theorem fair_join {n : N3} {xs ys : List LW.Row} (hx : ∀ r ∈ xs, okRow n r) (hy : ∀ r ∈ ys, okRow n r) : Fair (joinR n xs ys) := by
  have k : ∀ r ∈ joinR n xs ys, ∃ u v w : Vl, r = [u, v, w] ∧ u.nn = true ∧ v.nn = true ∧ w.nn = true := fun r hr => by
    obtain ⟨p, hp, h2⟩ := List.mem_flatMap.mp hr
    obtain ⟨s, hs, rfl⟩ := List.mem_map.mp h2
    obtain ⟨u, v, rfl, hu, hv⟩ := hx p hp
    obtain ⟨u', v', rfl, hu', hv'⟩ := hy s (List.mem_filter.mp hs).1
    exact ⟨u, v, v', rfl, okU_nn hu, okU_nn hv, okU_nn hv'⟩
  refine ⟨fun r hr => ?_, fun r hr z hz => ?_⟩
  · obtain ⟨u, v, w, rfl, _⟩ := k r hr
    exact ⟨by simp, by rw [lim_eq]; simp⟩
  · obtain ⟨u, v, w, rfl, h1, h2, h3⟩ := k r hr
    simp only [List.mem_cons, List.not_mem_nil, or_false] at hz
    rcases hz with rfl | rfl | rfl <;> assumption
end PW
namespace PW
open PySem PySem.Spec PyProof.Rows L2 DL LW
theorem lt_ordD (r s : LW.Row) : PySem.W.dataLt (ordD s) (ordD r) = decide (ords s < ords r) := by
  unfold ordD
  rw [PySem.W.dataLt_tuple]
  exact PySem.W.dataLt_ints _ _
theorem depth_ord (r : LW.Row) : (ordD r).depth ≤ 1 := by
  simp only [ordD, PyData.depth, PySem.W.depth_ints]
  omega
theorem plain_ord (r : LW.Row) : (ordD r).plain = true := by simp only [ordD, PyData.plain, plain_ints]
theorem okLt_ord (r s : LW.Row) : okLt (ordD r) (ordD s) = true := by
  have h1 := depth_ord r
  have h2 : PySem.W.alike (ordD r) (ordD s) = true := by
    simp only [ordD, PySem.W.alike]
    exact PySem.W.alike_ints _ _
  have h3 : nnD (ordD r) = true := rfl
  have h4 : min (ordD r).depth (ordD s).depth ≤ 60 := by omega
  simp [okLt, h2, h3, h4, plain_ord]
theorem gt_ord {r s : LW.Row} (h : leR r s = true) : gtxD (ordD r) (ordD s) = some false := by
  unfold gtxD
  rw [if_pos (okLt_ord r s), lt_ordD]
  have : ¬ ords s < ords r := fun z => by
    have h2 : rnk r ≤ rnk s := by simpa [leR] using h
    exact h2 ((ords_lt s r).mp z)
  simp [this]
theorem lay_ints : ∀ is : List Int, PyData.canLayAll0 (is.map PyData.int) = true
  | [] => rfl
  | i :: is => by simp [PyData.canLayAll0, PyData.canLay0, lay_ints is]
theorem eq_ordD (r s : LW.Row) : eqD (ordD r) (ordD s) = some (decide (ords r = ords s)) := by
  unfold eqD
  rw [if_pos ⟨by simp [SeqAt.shaped, ordD, PyData.canLay0, PyData.depth, lay_ints, PySem.W.depth_ints], by simp [SeqAt.shaped, ordD, PyData.canLay0, PyData.depth, lay_ints, PySem.W.depth_ints]⟩]
  simp only [ordD, PyData.eqv, eqv_ints]
theorem ords_rnk (r : LW.Row) : rnk r = (ords r).map (· + 1) := by
  unfold rnk ords
  rw [List.map_map]
  exact List.map_congr_left fun v _ => rk_ord v
abbrev ascB : Ev → Ms := pIf (dOr (dCmp gtxD (dVar 3) (dVar 4)) (dAnd (dCmp eqD (dVar 3) (dVar 4)) (dNot (dTru (dVar 1))))) (pRet (dLit (.bool false))) (sNil)
theorem asc_loop (x1 x2 x5 : DL.Slot) (bag : Bool) : ∀ (L : List (LW.Row × LW.Row)) (s3 s4 : DL.Slot), (∀ p ∈ L, leR p.1 p.2 = true ∧ (bag = false → ords p.1 ≠ ords p.2)) →
    ∃ s3' s4', forGo (.tup [3, 4]) ascB (L.map fun p => PyData.tuple [ordD p.1, ordD p.2]) [x1, .dat (.bool bag), x2, s3, s4, x5] = nxM [x1, .dat (.bool bag), x2, s3', s4', x5]
  | [], s3, s4, _ => ⟨s3, s4, rfl⟩
  | p :: L, s3, s4, h => by
    obtain ⟨a, b, q⟩ := asc_loop x1 x2 x5 bag L (.dat (ordD p.1)) (.dat (ordD p.2)) fun x hx => h x (List.mem_cons_of_mem _ hx)
    refine ⟨a, b, ?_⟩
    obtain ⟨h1, h2⟩ := h p List.mem_cons_self
    rw [List.map_cons, forGo_cons, ← q]
    have g := gt_ord h1
    have e := eq_ordD p.1 p.2
    cases bag with
    | true => by_cases z : ords p.1 = ords p.2 <;> simp [g, e, z, truD]
    | false => simp [g, e, h2 rfl, truD]
abbrev SpAsc (f : Fs) : Prop := ∀ (rs : List LW.Row) (bag : Bool), rs.length ≤ lim → Fair rs → (rs.Pairwise fun r s => leR r s = true) → (bag = false → rs.Nodup) → f [.dat (rowsT rs), .dat (.bool bag)] = pur (.bool true)
theorem zip_next {rs : List LW.Row} {R : LW.Row → LW.Row → Prop} (h : rs.Pairwise R) : ∀ p ∈ rs.zip (rs.drop 1), R p.1 p.2 := by
  induction rs with
  | nil => intro p hp; cases hp
  | cons r rs ih =>
    intro p hp
    have hc := List.pairwise_cons.mp h
    cases rs with
    | nil => cases hp
    | cons s rs =>
      simp only [List.drop_succ_cons, List.drop_zero, List.zip_cons_cons, List.mem_cons] at hp
      rcases hp with rfl | hp
      · exact hc.1 s List.mem_cons_self
      · exact ih hc.2 p (by simpa using hp)
theorem asc_ok {f : Fs} (hf : SpOrd f) : SpAsc (dFun 2 6 (d__is_ascending f)) := by
  intro rs bag hl hfr hs hnd
  have q := fun w1 w2 w3 w4 w5 => compGo_all (t := .name 5) (e := dCl 1 f (dCons (dVar 5) (dNil))) (ev := [w1, w2, w3, w4, w5, .hid]) rowD ordD rs fun r hr => ⟨_, rfl, by simp [hf r (hfr.fair r hr).2]⟩
  have hz : rs.length ≤ sizeLine := big_ok hl
  have it : itmD (rowsT rs) = some (rs.map rowD) := rfl
  have lo : slLo (.list (rs.map ordD)) (.int 1) = some (.list ((rs.map ordD).drop 1)) := by
    simp
  have zp : zipD [.list (rs.map ordD), .list ((rs.map ordD).drop 1)] = some ((rs.zip (rs.drop 1)).map fun p => PyData.tuple [ordD p.1, ordD p.2]) := by
    show some _ = some _
    rw [← List.map_drop, List.zip_map, List.map_map]
    rfl
  obtain ⟨a, b, lp⟩ := asc_loop (.dat (rowsT rs)) (.dat (.list (rs.map ordD))) .hid bag (rs.zip (rs.drop 1)) .hid .hid fun p hp => ⟨zip_next hs p hp, fun hb e => by
    have hm := List.of_mem_zip (a := p.1) (b := p.2) hp
    have n1 := hfr.nn p.1 hm.1
    have n2 := hfr.nn p.2 (List.mem_of_mem_drop hm.2)
    have e2 : p.1 = p.2 := rnk_inj n1 n2 (by rw [ords_rnk, ords_rnk, e])
    exact zip_next (R := fun r s => r ≠ s) (hnd hb) p hp e2⟩
  simp only [List.drop_one] at lo zp lp
  rw [dFun_eq]
  simp [d__is_ascending, it, q, hz, lo, zp, sFor_f, lp]
end PW
namespace PW
open PySem PySem.Spec PyProof.Rows L2 DL LW
abbrev SpChkS (f : Fs) : Prop := ∀ a b c n e, f [.dat (wayD a b c n e)] = pur .none
theorem chkS {f : Fs} (h : SpSem f) : SpChkS (dFun 1 1 (d_check_semantics f)) := by
  intro a b c n e
  simp [dFun_eq, d_check_semantics, h a b c n e, truD]
theorem fair_ok {n : N3} {rs : List LW.Row} (h : ∀ r ∈ rs, okRow n r) : Fair rs :=
  ⟨fun r hr => by obtain ⟨u, v, rfl, _⟩ := h r hr; exact ⟨by simp, by rw [lim_eq]; simp⟩, fun r hr => okRow.nn (h r hr)⟩
/-- a table of the document, as data -/
structure TabOk (a : Bool) (n : N3) (rs : List LW.Row) : Prop where
  len : rs.length ≤ 12
  ok : ∀ r ∈ rs, okRow n r
  asc : rs.Pairwise fun r s => leR r s = true
  nd : a = false → rs.Nodup
abbrev SpTab (f : Fs) : Prop := ∀ a b c n e (rs : List LW.Row), TabOk a n rs → f [.dat (wayD a b c n e), .dat (rowsT rs)] = pur (.bool true)
theorem nd_vl (v : Vl) : NoDict v.d := by cases v <;> intro kvs h <;> cases h
theorem vu_ok {n : N3} {v : Vl} (h : v.okU n = true) : vunder n v.d = true := by
  cases v with
  | nul => cases n <;> simp_all [Vl.okU, vunder, Vl.d]
  | int i => simpa [Vl.okU, vunder, Vl.d, isIntTo] using h
theorem tab_ok {fc fr fa : Fs} (h1 : SpChkS fc) (h2 : SpRow fr) (h3 : SpAsc fa) : SpTab (dFun 2 3 (d_is_table fc fr fa)) := by
  intro a b c n e rs T
  have hl : rs.length ≤ lim := Nat.le_trans T.len (by rw [lim_eq]; decide)
  have hz : rs.length ≤ sizeLine := big_ok hl
  have q := fun w => compGo_all (t := .name 2) (e := dCl 2 fr (dCons (dVar 0) (dCons (dVar 2) (dNil)))) (ev := [.dat (wayD a b c n e), w, .hid]) rowD (fun _ => PyData.bool true) rs fun r hr => by
    obtain ⟨u, v, rfl, hu, hv⟩ := T.ok r hr
    have z : fr [.dat (wayD a b c n e), .dat (rowD [u, v])] = pur (.bool (vunder n u.d && vunder n v.d)) := h2 a b c n e u.d v.d (nd_vl u) (nd_vl v)
    rw [vu_ok hu, vu_ok hv] at z
    exact ⟨_, rfl, by simp [z]⟩
  have al : allD [PyData.list (rs.map fun _ => PyData.bool true)] = some (.bool true) := by
    show (bools _).map _ = _
    rw [bools_map (fun _ => true) rs]
    simp
  have it : itmD (rowsT rs) = some (rs.map rowD) := rfl
  have is : isA (rowsT rs) .tuple = true := rfl
  have ln : lenD [rowsT rs] = some (.int (rs.length : Nat)) := by show some (PyData.int ((rs.map rowD).length : Nat)) = _; rw [List.length_map]
  have gt : gtD (.int (rs.length : Nat)) (.int 12) = some false := by
    have := T.len
    simp [gtD]
    omega
  have z := h3 rs a hl (fair_ok T.ok) T.asc T.nd
  have eb : eqD (.str (if a then "bag" else "set")) (.str "bag") = some a := by cases a <;> simp
  cases a <;> simp [dFun_eq, d_is_table, h1 _ b c n e, it, q, hz, al, is, ln, gt, c_MOST_ROWS, c_DUPLICATES, way_0, z, truD]
abbrev SpChkT (f : Fs) : Prop := (∀ a b c n e (xs : List LW.Row), TabOk a n xs → f [.dat (wayD a b c n e), .dat (.tuple [rowsT xs])] = pur .none) ∧ ∀ a b c n e (xs ys : List LW.Row), TabOk a n xs → TabOk a n ys → f [.dat (wayD a b c n e), .dat (.tuple [rowsT xs, rowsT ys])] = pur .none
theorem chkT {f : Fs} (h : SpTab f) : SpChkT (dFun 2 4 (d_check_tables f)) := by
  constructor
  · intro a b c n e xs T
    have z := h a b c n e xs T
    have en : enumTD [PyData.tuple [rowsT xs]] = some [PyData.tuple [.int 0, rowsT xs]] := rfl
    simp [dFun_eq, d_check_tables, sFor_f, en, z, truD]
  · intro a b c n e xs ys T U
    have z := h a b c n e xs T
    have z2 := h a b c n e ys U
    have en : enumTD [PyData.tuple [rowsT xs, rowsT ys]] = some [PyData.tuple [.int 0, rowsT xs], PyData.tuple [.int 1, rowsT ys]] := rfl
    simp [dFun_eq, d_check_tables, sFor_f, en, z, z2, truD]
end PW
namespace PT
open PySem PySem.Spec PyProof.Rows L2 DL LW PW
def vlS : Vl → Str
  | .nul => "null"
  | .int i => toString i
def rowS (r : LW.Row) : Str := PySem.Txt.join "," (r.map vlS)
def tabS (rs : List LW.Row) : Str := if rs.isEmpty = true then "-" else PySem.Txt.join "; " (rs.map rowS)
theorem ten {i : Int} (h0 : 0 ≤ i) (h9 : i ≤ 9) : i = 0 ∨ i = 1 ∨ i = 2 ∨ i = 3 ∨ i = 4 ∨ i = 5 ∨ i = 6 ∨ i = 7 ∨ i = 8 ∨ i = 9 := by omega
theorem okU_ten {n : N3} {i : Int} (h : Vl.okU n (.int i) = true) : i = 0 ∨ i = 1 ∨ i = 2 ∨ i = 3 ∨ i = 4 ∨ i = 5 ∨ i = 6 ∨ i = 7 ∨ i = 8 ∨ i = 9 := by
  simp only [Vl.okU, Bool.and_eq_true, decide_eq_true_eq] at h
  exact ten h.1 h.2
abbrev SpVt (f : Fs) : Prop := ∀ n (v : Vl), v.okU n = true → f [.dat v.d] = pur (.str (vlS v))
theorem vt_ok : SpVt (dFun 1 1 d_value_text) := by
  intro n v h
  cases v with
  | nul => rfl
  | int i => rcases okU_ten h with rfl | rfl | rfl | rfl | rfl | rfl | rfl | rfl | rfl | rfl <;> rfl
theorem vlS_len {n : N3} {v : Vl} (h : v.okU n = true) : (vlS v).length ≤ 4 := by
  cases v with
  | nul => decide
  | int i => rcases okU_ten h with rfl | rfl | rfl | rfl | rfl | rfl | rfl | rfl | rfl | rfl <;> decide
theorem rowS_len {n : N3} {r : LW.Row} (h : okRow n r) : (rowS r).length ≤ 9 := by
  obtain ⟨u, v, rfl, hu, hv⟩ := h
  have a := vlS_len hu
  have b := vlS_len hv
  have e : rowS [u, v] = Str.join "," [vlS u, vlS v] := TL.join_eq _ _
  rw [e, TL.len_tl, TL.tl_join]
  rw [TL.len_tl] at a b
  show (TL.tl (vlS u) ++ (TL.tl "," ++ TL.tl (vlS v))).length ≤ 9
  have hc : (TL.tl ",").length = 1 := by decide +kernel
  rw [List.length_append, List.length_append, hc]
  omega
theorem sum_le {l : List Str} {b : Nat} (h : ∀ x ∈ l, x.length ≤ b) : (l.map (·.length)).sum ≤ l.length * b := by
  induction l with
  | nil => simp
  | cons x l ih =>
    have h1 := h x (List.mem_cons_self)
    have h2 := ih fun y hy => h y (List.mem_cons_of_mem _ hy)
    simp only [List.map_cons, List.sum_cons, List.length_cons, Nat.add_mul]
    omega
theorem join_run {sep : Str} {ws : List Str} {b m : Nat} (hs : sep.length ≤ 9) (h : ∀ x ∈ ws, x.length ≤ b) (hm : ws.length ≤ m) (hb : m * b + m * 9 ≤ 16777216) : joinD (.str sep) (.list (ws.map PyData.str)) = some (.str (PySem.Txt.join sep ws)) := by
  rw [joinD_ws, if_pos]
  have := sum_le h
  have h2 : ws.length * b ≤ m * b := Nat.mul_le_mul_right _ hm
  have h3 : ws.length * sep.length ≤ m * 9 := Nat.mul_le_mul hm hs
  omega
abbrev SpWt (f : Fs) : Prop := ∀ a b c n e (rs : List LW.Row), TabOk a n rs → f [.dat (wayD a b c n e), .dat (rowsT rs)] = pur (.str (tabS rs))
theorem row_j {n : N3} {u v : Vl} (hu : u.okU n = true) (hv : v.okU n = true) : joinD (.str ",") (.list [.str (vlS u), .str (vlS v)]) = some (.str (rowS [u, v])) := by
  refine join_run (ws := [vlS u, vlS v]) (b := 4) (m := 2) (by decide) (fun x hx => ?_) (by simp) (by decide)
  simp only [List.mem_cons, List.not_mem_nil, or_false] at hx
  rcases hx with rfl | rfl
  · exact vlS_len hu
  · exact vlS_len hv
theorem wt_ok {fk fv : Fs} (hk : SpChkT fk) (hv : SpVt fv) : SpWt (dFun 2 4 (d_write_table fk fv)) := by
  intro a b c n e rs T
  have q := fun w2 w3 => compGo_all (t := .name 2) (e := dMtS joinD (dLit (.str ",")) (dComp [3] (dItm (dVar 2)) (.name 3) (dYes) (dCl 1 fv (dCons (dVar 3) (dNil))))) (ev := [.dat (wayD a b c n e), w2, w3, .hid]) rowD (fun r => PyData.str (rowS r)) rs fun r hr => by
    obtain ⟨u, v, rfl, hu, hv'⟩ := T.ok r hr
    have it : itmD (rowD [u, v]) = some [u.d, v.d] := rfl
    exact ⟨_, rfl, by simp [it, hv n u hu, hv n v hv', row_j hu hv']⟩
  have it : itmD (rowsT rs) = some (rs.map rowD) := rfl
  have ln : lenD [rowsT rs] = some (.int (rs.length : Nat)) := by simp [lenD, rowsT]
  have hz : rs.length ≤ sizeLine := by have := T.len; rw [sizeLine_eq]; omega
  have jn : joinD (.str "; ") (.list (rs.map fun r => PyData.str (rowS r))) = some (.str (PySem.Txt.join "; " (rs.map rowS))) := by
    have := join_run (sep := "; ") (ws := rs.map rowS) (b := 9) (m := 12) (by decide) (fun x hx => by
      obtain ⟨r, hr, rfl⟩ := List.mem_map.mp hx
      exact rowS_len (T.ok r hr)) (by rw [List.length_map]; exact T.len) (by decide)
    rw [List.map_map] at this
    exact this
  by_cases hrs : rs = []
  · subst hrs
    simp [dFun_eq, d_write_table, hk.1 a b c n e [] T, ln, c_NO_ROW, tabS]
  · have pos : 0 < rs.length := List.length_pos_iff.mpr hrs
    have ts : tabS rs = PySem.Txt.join "; " (rs.map rowS) := by
      unfold tabS
      rw [if_neg]
      simpa using hrs
    rw [ts]
    simp [dFun_eq, d_write_table, hk.1 a b c n e _ T, ln, it, q, hz, jn, hrs]
end PT
namespace PT
open PySem PySem.Spec PyProof.Rows L2 DL LW PW
theorem hi_l (l s : List D) : slHi (.list (l ++ s)) (.int (l.length : Nat)) = some (.list l) := by
  show some (PyData.list (cutL (l ++ s) none (some (l.length : Int)))) = _
  unfold cutL
  rw [HT.sIx_nat, HT.sIx_none, List.length_append, Nat.min_eq_left (by omega)]
  simp
theorem lo_l (l s : List D) : slLo (.list (l ++ s)) (.int (l.length : Nat)) = some (.list s) := by
  show some (PyData.list (cutL (l ++ s) (some (l.length : Int)) none)) = _
  unfold cutL
  rw [HT.sIx_nat, HT.sIx_none, List.length_append, Nat.min_eq_left (by omega)]
  simp
theorem dats_map (l : List D) : dats (l.map Slot.dat) = some l := by
  induction l with
  | nil => rfl
  | cons x l ih => simp [dats, ih]
@[simp] theorem dStar_eq (f : Ev → Mn D) (g : Ev → Mn (List DL.Slot)) (ev : Ev) : dStar f g ev = bnd (f ev) fun x => bnd (lft (itmD x)) fun ds => bnd (g ev) fun ss => pur (ds.map .dat ++ ss) := rfl
abbrev SpNumb (f : Fs) : Prop := ∀ i : Int, 0 ≤ i → i ≤ 9 → f [.dat (.str (toString i))] = pur (.int i)
theorem numb_ok : SpNumb (dFun 1 1 d__number_in) := by
  intro i h0 h9
  rcases ten h0 h9 with rfl | rfl | rfl | rfl | rfl | rfl | rfl | rfl | rfl | rfl <;> rfl
abbrev bodyP (fn : Fs) : Ev → Ms := pIf (dTin PW.t_FORMS (dTup (dCons (dLit (.str "filter")) (dCons (dVar 2) (dNil))))) (seqM (pSet 3 (dFn lenD (dCons (dTget PW.t_FORMS (dTup (dCons (dLit (.str "filter")) (dCons (dVar 2) (dNil))))) (dNil))))
    (pSet 1 (dLst (dCons (dTup (dCons (dVar 2) (dStar (dBin slHi (dVar 1) (dVar 3)) (dNil)))) (dStar (dBin slLo (dVar 1) (dVar 3)) (dNil)))))) (pSet 1 (dLst (dCons (dCl 1 fn (dCons (dVar 2) (dNil))) (dStar (dVar 1) (dNil)))))
theorem itm_l (l : List D) : itmD (.list l) = some l := rfl
theorem step_n {fn : Fs} (hn : SpNumb fn) {i : Int} (h0 : 0 ≤ i) (h9 : i ≤ 9) (rest stk : List D) (w0 s2 s3 : DL.Slot) (hl : stk.length < 1000) :
    forGo (.name 2) (bodyP fn) (.str (toString i) :: rest) [w0, .dat (.list stk), s2, s3] = forGo (.name 2) (bodyP fn) rest [w0, .dat (.list (.int i :: stk)), .dat (.str (toString i)), s3] := by
  have z : tinD PW.t_FORMS (.tuple [.str "filter", .str (toString i)]) = some false := by
    rcases ten h0 h9 with rfl | rfl | rfl | rfl | rfl | rfl | rfl | rfl | rfl | rfl <;> rfl
  have hz : stk.length + 1 ≤ sizeLine := by rw [sizeLine_eq]; omega
  have hi := hn i h0 h9
  generalize (Str.ofString (toString i)) = wd at z hi ⊢
  rw [forGo_cons]
  simp [bodyP, z, hi, itm_l, dats, dats_map, hz]
theorem step_w {fn : Fs} {x : Str} {m : Nat} {ps : List D} (ht : tinD PW.t_FORMS (.tuple [.str "filter", .str x]) = some true) (hg : tgetD PW.t_FORMS (.tuple [.str "filter", .str x]) = some (.tuple ps)) (hm : ps.length = m)
    (l rest stk : List D) (hll : l.length = m) (w0 s2 s3 : DL.Slot) (hl : stk.length < 1000) (hm2 : m ≤ 2) :
    forGo (.name 2) (bodyP fn) (.str x :: rest) [w0, .dat (.list (l ++ stk)), s2, s3] = forGo (.name 2) (bodyP fn) rest [w0, .dat (.list (.tuple (.str x :: l) :: stk)), .dat (.str x), .dat (.int (m : Nat))] := by
  have hz : stk.length + 1 ≤ sizeLine := by rw [sizeLine_eq]; omega
  have hy : l.length + 1 ≤ sizeLine := by rw [sizeLine_eq]; omega
  have ln : lenD [.tuple ps] = some (.int (m : Nat)) := by rw [← hm]; rfl
  have e1 := hi_l l stk
  have e2 := lo_l l stk
  rw [hll] at e1 e2
  rw [forGo_cons]
  simp [bodyP, ht, hg, ln, e1, e2, itm_l, dats, dats_map, hz, hy]
def colS (c : Bool) : Str := Str.ofString (toString (if c then (1 : Int) else 0))
def toks : Flt → List Str
  | .less c n => ["less", colS c, Str.ofString (toString n)]
  | .equal c n => ["equal", colS c, Str.ofString (toString n)]
  | .same => ["same"]
  | .null c => ["null", colS c]
  | .not f => "not" :: toks f
  | .and f g => "and" :: (toks f ++ toks g)
  | .or f g => "or" :: (toks f ++ toks g)
def fltS (x : Flt) : Str := PySem.Txt.join " " (toks x)
theorem toks_len : ∀ x : Flt, (toks x).length ≤ 3 * x.size
  | .less _ _ => Nat.le_refl _
  | .equal _ _ => Nat.le_refl _
  | .same => by decide
  | .null _ => by simp [toks, Flt.size]
  | .not f => by have := toks_len f; simp only [toks, Flt.size, List.length_cons]; omega
  | .and f g => by have := toks_len f; have := toks_len g; simp only [toks, Flt.size, List.length_cons, List.length_append]; omega
  | .or f g => by have := toks_len f; have := toks_len g; simp only [toks, Flt.size, List.length_cons, List.length_append]; omega
theorem toks_ne (x : Flt) : toks x ≠ [] := by cases x <;> simp [toks]
theorem num_free {i : Int} (h0 : 0 ≤ i) (h9 : i ≤ 9) : 32 ∉ TL.tl (Str.ofString (toString i)) ∧ (TL.tl (Str.ofString (toString i))).length ≤ 5 := by
  rcases ten h0 h9 with rfl | rfl | rfl | rfl | rfl | rfl | rfl | rfl | rfl | rfl <;> decide +kernel
theorem col_free (c : Bool) : 32 ∉ TL.tl (colS c) ∧ (TL.tl (colS c)).length ≤ 5 := by cases c <;> decide +kernel
theorem toks_free : ∀ x : Flt, x.ok = true → ∀ w ∈ toks x, 32 ∉ TL.tl w ∧ (TL.tl w).length ≤ 5
  | .less c n, h, w, hw => by
    simp only [Flt.ok, Bool.and_eq_true, decide_eq_true_eq] at h
    simp only [toks, List.mem_cons, List.not_mem_nil, or_false] at hw
    rcases hw with rfl | rfl | rfl
    · decide +kernel
    · exact col_free c
    · exact num_free h.1 h.2
  | .equal c n, h, w, hw => by
    simp only [Flt.ok, Bool.and_eq_true, decide_eq_true_eq] at h
    simp only [toks, List.mem_cons, List.not_mem_nil, or_false] at hw
    rcases hw with rfl | rfl | rfl
    · decide +kernel
    · exact col_free c
    · exact num_free h.1 h.2
  | .same, h, w, hw => by
    simp only [toks, List.mem_cons, List.not_mem_nil, or_false] at hw
    subst hw
    decide +kernel
  | .null c, h, w, hw => by
    simp only [toks, List.mem_cons, List.not_mem_nil, or_false] at hw
    rcases hw with rfl | rfl
    · decide +kernel
    · exact col_free c
  | .not f, h, w, hw => by
    simp only [toks, List.mem_cons] at hw
    rcases hw with rfl | hw
    · decide +kernel
    · exact toks_free f h w hw
  | .and f g, h, w, hw => by
    simp only [Flt.ok, Bool.and_eq_true] at h
    simp only [toks, List.mem_cons, List.mem_append] at hw
    rcases hw with rfl | hw | hw
    · decide +kernel
    · exact toks_free f h.1 w hw
    · exact toks_free g h.2 w hw
  | .or f g, h, w, hw => by
    simp only [Flt.ok, Bool.and_eq_true] at h
    simp only [toks, List.mem_cons, List.mem_append] at hw
    rcases hw with rfl | hw | hw
    · decide +kernel
    · exact toks_free f h.1 w hw
    · exact toks_free g h.2 w hw
theorem parse {fn : Fs} (hn : SpNumb fn) : ∀ x : Flt, x.ok = true → ∀ (rest stk : List D) (w0 s2 s3 : DL.Slot), stk.length + x.size < 900 →
    ∃ t2 t3, forGo (.name 2) (bodyP fn) ((toks x).reverse.map PyData.str ++ rest) [w0, .dat (.list stk), s2, s3] = forGo (.name 2) (bodyP fn) rest [w0, .dat (.list (x.d :: stk)), t2, t3]
  | .less c n, h, rest, stk, w0, s2, s3, hl => by
    simp only [Flt.ok, Bool.and_eq_true, decide_eq_true_eq] at h
    simp only [Flt.size] at hl
    have a := step_n hn h.1 h.2 (.str (colS c) :: .str "less" :: rest) stk w0 s2 s3 (by omega)
    have b := step_n hn (i := if c then 1 else 0) (by split <;> omega) (by split <;> omega) (.str "less" :: rest) (.int n :: stk) w0 (.dat (.str (Str.ofString (toString n)))) s3 (by simp only [List.length_cons]; omega)
    have d := step_w (fn := fn) (x := "less") (m := 2) (by rfl) (by rfl) rfl [colD c, .int n] rest stk rfl w0 (.dat (.str (colS c))) s3 (by omega) (by omega)
    exact ⟨_, _, a.trans (b.trans d)⟩
  | .equal c n, h, rest, stk, w0, s2, s3, hl => by
    simp only [Flt.ok, Bool.and_eq_true, decide_eq_true_eq] at h
    simp only [Flt.size] at hl
    have a := step_n hn h.1 h.2 (.str (colS c) :: .str "equal" :: rest) stk w0 s2 s3 (by omega)
    have b := step_n hn (i := if c then 1 else 0) (by split <;> omega) (by split <;> omega) (.str "equal" :: rest) (.int n :: stk) w0 (.dat (.str (Str.ofString (toString n)))) s3 (by simp only [List.length_cons]; omega)
    have d := step_w (fn := fn) (x := "equal") (m := 2) (by rfl) (by rfl) rfl [colD c, .int n] rest stk rfl w0 (.dat (.str (colS c))) s3 (by omega) (by omega)
    exact ⟨_, _, a.trans (b.trans d)⟩
  | .same, h, rest, stk, w0, s2, s3, hl => by
    have d := step_w (fn := fn) (x := "same") (m := 0) (by rfl) (by rfl) rfl [] rest stk rfl w0 s2 s3 (by omega) (by omega)
    exact ⟨_, _, d⟩
  | .null c, h, rest, stk, w0, s2, s3, hl => by
    simp only [Flt.size] at hl
    have b := step_n hn (i := if c then 1 else 0) (by split <;> omega) (by split <;> omega) (.str "null" :: rest) stk w0 s2 s3 (by omega)
    have d := step_w (fn := fn) (x := "null") (m := 1) (by rfl) (by rfl) rfl [colD c] rest stk rfl w0 (.dat (.str (colS c))) s3 (by omega) (by omega)
    exact ⟨_, _, b.trans d⟩
  | .not f, h, rest, stk, w0, s2, s3, hl => by
    simp only [Flt.size] at hl
    obtain ⟨t2, t3, q⟩ := parse hn f h (.str "not" :: rest) stk w0 s2 s3 (by omega)
    have d := step_w (fn := fn) (x := "not") (m := 1) (by rfl) (by rfl) rfl [f.d] rest stk rfl w0 t2 t3 (by omega) (by omega)
    refine ⟨_, _, Eq.trans ?_ (q.trans d)⟩
    simp [toks]
  | .and f g, h, rest, stk, w0, s2, s3, hl => by
    simp only [Flt.ok, Bool.and_eq_true] at h
    simp only [Flt.size] at hl
    obtain ⟨t2, t3, q⟩ := parse hn g h.2 ((toks f).reverse.map PyData.str ++ (.str "and" :: rest)) stk w0 s2 s3 (by omega)
    obtain ⟨u2, u3, p⟩ := parse hn f h.1 (.str "and" :: rest) (g.d :: stk) w0 t2 t3 (by simp only [List.length_cons]; omega)
    have d := step_w (fn := fn) (x := "and") (m := 2) (by rfl) (by rfl) rfl [f.d, g.d] rest stk rfl w0 u2 u3 (by omega) (by omega)
    refine ⟨_, _, Eq.trans ?_ (q.trans (p.trans d))⟩
    simp [toks]
  | .or f g, h, rest, stk, w0, s2, s3, hl => by
    simp only [Flt.ok, Bool.and_eq_true] at h
    simp only [Flt.size] at hl
    obtain ⟨t2, t3, q⟩ := parse hn g h.2 ((toks f).reverse.map PyData.str ++ (.str "or" :: rest)) stk w0 s2 s3 (by omega)
    obtain ⟨u2, u3, p⟩ := parse hn f h.1 (.str "or" :: rest) (g.d :: stk) w0 t2 t3 (by simp only [List.length_cons]; omega)
    have d := step_w (fn := fn) (x := "or") (m := 2) (by rfl) (by rfl) rfl [f.d, g.d] rest stk rfl w0 u2 u3 (by omega) (by omega)
    refine ⟨_, _, Eq.trans ?_ (q.trans (p.trans d))⟩
    simp [toks]
abbrev SpParts (f : Fs) : Prop := ∀ x : Flt, x.ok = true → x.size ≤ 20 → f [.dat (.list ((toks x).map PyData.str))] = pur (.list [x.d])
theorem parts_ok {fn : Fs} (hn : SpNumb fn) : SpParts (dFun 1 4 (d__parts_in fn)) := by
  intro x ok hs
  obtain ⟨t2, t3, q⟩ := parse hn x ok [] [] (.dat (.list ((toks x).map PyData.str))) .hid .hid (by simp only [List.length_nil]; omega)
  rw [List.append_nil, forGo_nil, List.map_reverse] at q
  have rv : revL (.list ((toks x).map PyData.str)) = some ((toks x).map PyData.str).reverse := rfl
  rw [dFun_eq]
  simp [d__parts_in, sFor_f, rv, q, dats]
end PT
namespace PT
open PySem PySem.Spec PyProof.Rows L2 DL LW PW
theorem joinL_len (S : List Nat) {b : Nat} : ∀ ps : List (List Nat), (∀ p ∈ ps, p.length ≤ b) → (TL.joinL S ps).length ≤ ps.length * (b + S.length)
  | [], _ => Nat.zero_le _
  | [p], h => by
    have := h p (List.mem_singleton_self p)
    show p.length ≤ 1 * (b + S.length)
    omega
  | p :: q :: r, h => by
    have h1 := h p (List.mem_cons_self)
    have h2 := joinL_len S (q :: r) fun x hx => h x (List.mem_cons_of_mem _ hx)
    show (p ++ (S ++ TL.joinL S (q :: r))).length ≤ ((q :: r).length + 1) * (b + S.length)
    rw [List.length_append, List.length_append, Nat.add_mul]
    omega
theorem fltS_len {x : Flt} (h : x.ok = true) (hs : x.size ≤ 20) : (fltS x).length ≤ 360 := by
  have e : fltS x = Str.join " " (toks x) := TL.join_eq _ _
  rw [e, TL.len_tl, TL.tl_join]
  have := joinL_len (TL.tl " ") (b := 5) ((toks x).map TL.tl) fun p hp => by
    obtain ⟨w, hw, rfl⟩ := List.mem_map.mp hp
    exact (toks_free x h w hw).2
  have hc : (TL.tl " ").length = 1 := by decide +kernel
  rw [hc, List.length_map] at this
  have := toks_len x
  omega
theorem split_ok {x : Flt} (h : x.ok = true) (hs : x.size ≤ 20) : splD (.str (fltS x)) (.str " ") = some (.list ((toks x).map PyData.str)) := by
  have sp : PySem.Txt.split (fltS x) " " = toks x := by
    have e : fltS x = Str.join " " (toks x) := TL.join_eq _ _
    unfold fltS
    exact TL.split_join (y := " ") (s := 32) (S := []) (by decide +kernel) (by decide +kernel) (toks_ne x) fun w hw => (toks_free x h w hw).1
  have l := fltS_len h hs
  show (if ((Str.ofString " ").length == 0) = false ∧ (fltS x).length + 2 ≤ sizeLine then some (PyData.list ((PySem.Txt.split (fltS x) " ").map PyData.str)) else none) = _
  rw [sp, if_pos]
  exact ⟨by decide, by rw [sizeLine_eq]; omega⟩
abbrev SpTxt (f : Fs) : Prop := ∀ x : Str, f [.dat (.str x)] = pur .none
theorem txt_ok : SpTxt (dFun 1 1 d_check_text) := fun x => rfl
abbrev SpRf (f : Fs) : Prop := ∀ x : Flt, x.ok = true → x.size ≤ 20 → f [.dat (.str (fltS x))] = pur x.d
theorem rf_ok {ft fp fi : Fs} (ht : SpTxt ft) (hp : SpParts fp) (hi : SpIsFilter fi) : SpRf (dFun 1 3 (d_read_filter ft fp fi)) := by
  intro x ok hs
  have sp := split_ok ok hs
  have tl := toks_len x
  have ln : lenD [.list ((toks x).map PyData.str)] = some (.int ((toks x).length : Nat)) := by simp [lenD]
  have ml : mulxD c_MOST_WORDS_OF_TUPLE PW.c_MOST_TUPLES = some (.int 60) := by
    show mulxD (.int 3) (.int 20) = _
    simp [mulxD]
  have gt : gtD (.int ((toks x).length : Nat)) (.int 60) = some false := by
    simp [gtD]
    omega
  have ix : ixD (.list [x.d]) (.int 0) = some x.d := rfl
  have l1 : lenD [.list [x.d]] = some (.int 1) := rfl
  generalize fltS x = t at sp ⊢
  simp [dFun_eq, d_read_filter, ht t, sp, ln, ml, gt, hp x ok hs, l1, ix, hi x ok hs, truD]
end PT
namespace PT
open PySem PySem.Spec PyProof.Rows L2 DL LW PW
theorem joinL_cons (S p : List Nat) {q : List (List Nat)} (h : q ≠ []) : TL.joinL S (p :: q) = p ++ (S ++ TL.joinL S q) := by
  cases q with
  | nil => exact absurd rfl h
  | cons a r => rfl
theorem joinL_app (S : List Nat) {r : List (List Nat)} (hr : r ≠ []) : ∀ {q : List (List Nat)}, q ≠ [] → TL.joinL S (q ++ r) = TL.joinL S q ++ (S ++ TL.joinL S r)
  | [], h => absurd rfl h
  | [a], _ => joinL_cons S a hr
  | a :: b :: q, _ => by
    rw [List.cons_append, joinL_cons S a (by simp), joinL_app S hr (q := b :: q) (by simp), joinL_cons S a (q := b :: q) (by simp)]
    simp [List.append_assoc]
theorem tl_fltS (x : Flt) : TL.tl (fltS x) = TL.joinL (TL.tl " ") ((toks x).map TL.tl) := by
  have e : fltS x = Str.join " " (toks x) := TL.join_eq _ _
  rw [e, TL.tl_join]
theorem tl_j (ws : List Str) : TL.tl (PySem.Txt.join " " ws) = TL.joinL (TL.tl " ") (ws.map TL.tl) := by rw [TL.join_eq, TL.tl_join]
theorem mt_ne (x : Flt) : (toks x).map TL.tl ≠ [] := by simpa using toks_ne x
theorem fltS_not (f : Flt) : PySem.Txt.join " " ["not", fltS f] = fltS (.not f) := by
  refine TL.ext_tl ?_
  rw [tl_j, tl_fltS]
  simp only [List.map_cons, List.map_nil, toks]
  rw [joinL_cons _ _ (by simp), joinL_cons _ _ (mt_ne f), tl_fltS]
  rfl
theorem fltS_two (w : Str) (f g : Flt) : TL.tl (PySem.Txt.join " " [w, fltS f, fltS g]) = TL.joinL (TL.tl " ") ((w :: (toks f ++ toks g)).map TL.tl) := by
  have e : TL.joinL (TL.tl " ") [TL.tl w, TL.tl (fltS f), TL.tl (fltS g)] = TL.tl w ++ (TL.tl " " ++ (TL.tl (fltS f) ++ (TL.tl " " ++ TL.tl (fltS g)))) := rfl
  have e2 := joinL_cons (TL.tl " ") (TL.tl w) (q := (toks f).map TL.tl ++ (toks g).map TL.tl) (by have := mt_ne f; simp_all)
  rw [tl_j]
  simp only [List.map_cons, List.map_nil, List.map_append]
  rw [e, e2, joinL_app _ (mt_ne g) (mt_ne f), tl_fltS, tl_fltS]
theorem fltS_and (f g : Flt) : PySem.Txt.join " " ["and", fltS f, fltS g] = fltS (.and f g) := TL.ext_tl ((fltS_two _ f g).trans (tl_fltS (.and f g)).symm)
theorem fltS_or (f g : Flt) : PySem.Txt.join " " ["or", fltS f, fltS g] = fltS (.or f g) := TL.ext_tl ((fltS_two _ f g).trans (tl_fltS (.or f g)).symm)
structure SpTx (f : Fs) (m : Nat) : Prop where
  word : 1 ≤ m → ∀ x : Str, f [.dat (.str x)] = pur (.str x)
  num : 1 ≤ m → ∀ i : Int, 0 ≤ i → i ≤ 9 → f [.dat (.int i)] = pur (.str (toString i))
  flt : ∀ x : Flt, x.ok = true → x.size + 1 ≤ m → x.size ≤ 20 → f [.dat x.d] = pur (.str (fltS x))
theorem strX_ten {i : Int} (h0 : 0 ≤ i) (h9 : i ≤ 9) : strX [.int i] = some (.str (toString i)) := by
  rcases ten h0 h9 with rfl | rfl | rfl | rfl | rfl | rfl | rfl | rfl | rfl | rfl <;> rfl
theorem num_len {i : Int} (h0 : 0 ≤ i) (h9 : i ≤ 9) : (Str.ofString (toString i)).length ≤ 400 := by
  rcases ten h0 h9 with rfl | rfl | rfl | rfl | rfl | rfl | rfl | rfl | rfl | rfl <;> decide
theorem isA_int (i : Int) : isA (.int i) Ty.tuple = false := rfl
theorem isA_tup (ds : List D) : isA (.tuple ds) Ty.tuple = true := rfl
theorem tx_tup {f : Fs} {ds : List D} {ws : List Str} (hl : ds.length = ws.length) (h : ∀ p ∈ ds.zip ws, f [.dat p.1] = pur (.str p.2)) (hs : ∀ w ∈ ws, w.length ≤ 400) (h3 : ws.length ≤ 3) : dFun 1 2 (d__text_of f) [.dat (.tuple ds)] = pur (.str (PySem.Txt.join " " ws)) := by
  have go := compGo_all (t := .name 1) (e := dCl 1 f (dCons (dVar 1) (dNil))) (ev := [.dat (.tuple ds), .hid]) (fun p : D × Str => p.1) (fun p => PyData.str p.2) (ds.zip ws) fun p hp => ⟨_, rfl, by simp [h p hp]⟩
  rw [List.map_fst_zip (by omega)] at go
  have e2 : (ds.zip ws).map (fun p => PyData.str p.2) = ws.map PyData.str := by
    have := congrArg (List.map PyData.str) (List.map_snd_zip (l₁ := ds) (l₂ := ws) (by omega))
    rwa [List.map_map] at this
  rw [e2] at go
  have it : itmD (.tuple ds) = some ds := rfl
  have hz : ws.length ≤ sizeLine := by rw [sizeLine_eq]; omega
  have jn := join_run (sep := " ") (ws := ws) (b := 400) (m := 3) (by decide) hs h3 (by decide)
  generalize PySem.Txt.join " " ws = u at jn ⊢
  simp [dFun_eq, d__text_of, isA_tup, it, go, hz, jn, truD]
theorem tx_step {f : Fs} {m : Nat} (h : SpTx f m) : SpTx (dFun 1 2 (d__text_of f)) (m + 1) where
  word := fun _ x => rfl
  num := fun _ i h0 h9 => by
    have e := strX_ten h0 h9
    generalize Str.ofString (toString i) = w at e ⊢
    simp [dFun_eq, d__text_of, e, isA_int, truD]
  flt := fun x ok hs sz => by
    have hp : 1 ≤ x.size := by cases x <;> simp [Flt.size]
    have hw := h.word (by omega)
    have hn := h.num (by omega)
    have hc : ∀ c : Bool, f [.dat (colD c)] = pur (.str (colS c)) := fun c => hn (if c then 1 else 0) (by split <;> omega) (by split <;> omega)
    have lc : ∀ c : Bool, (colS c).length ≤ 400 := fun c => by cases c <;> decide
    have lf : ∀ y : Flt, y.ok = true → y.size ≤ 20 → (fltS y).length ≤ 400 := fun y h1 h2 => Nat.le_trans (fltS_len h1 h2) (by omega)
    cases x with
    | less c i =>
      simp only [Flt.ok, Bool.and_eq_true, decide_eq_true_eq] at ok
      exact tx_tup (ds := [.str "less", colD c, .int i]) (ws := ["less", colS c, Str.ofString (toString i)]) rfl (by simp [hw, hc c, hn i ok.1 ok.2]) (fun w hw => by
        simp only [List.mem_cons, List.not_mem_nil, or_false] at hw
        rcases hw with rfl | rfl | rfl
        · decide
        · exact lc c
        · exact num_len ok.1 ok.2) (by simp)
    | equal c i =>
      simp only [Flt.ok, Bool.and_eq_true, decide_eq_true_eq] at ok
      exact tx_tup (ds := [.str "equal", colD c, .int i]) (ws := ["equal", colS c, Str.ofString (toString i)]) rfl (by simp [hw, hc c, hn i ok.1 ok.2]) (fun w hw => by
        simp only [List.mem_cons, List.not_mem_nil, or_false] at hw
        rcases hw with rfl | rfl | rfl
        · decide
        · exact lc c
        · exact num_len ok.1 ok.2) (by simp)
    | same => exact tx_tup (ds := [.str "same"]) (ws := ["same"]) rfl (by simp [hw]) (by simp; decide) (by simp)
    | null c => exact tx_tup (ds := [.str "null", colD c]) (ws := ["null", colS c]) rfl (by simp [hw, hc c]) (by simp [lc c]; decide) (by simp)
    | not y =>
      simp only [Flt.ok] at ok
      simp only [Flt.size] at hs sz
      rw [← fltS_not]
      exact tx_tup (ds := [.str "not", y.d]) (ws := ["not", fltS y]) rfl (by simp [hw, h.flt y ok (by omega) (by omega)]) (by simp [lf y ok (by omega)]; decide) (by simp)
    | and y z =>
      simp only [Flt.ok, Bool.and_eq_true] at ok
      simp only [Flt.size] at hs sz
      rw [← fltS_and]
      exact tx_tup (ds := [.str "and", y.d, z.d]) (ws := ["and", fltS y, fltS z]) rfl (by simp [hw, h.flt y ok.1 (by omega) (by omega), h.flt z ok.2 (by omega) (by omega)]) (by simp [lf y ok.1 (by omega), lf z ok.2 (by omega)]; decide) (by simp)
    | or y z =>
      simp only [Flt.ok, Bool.and_eq_true] at ok
      simp only [Flt.size] at hs sz
      rw [← fltS_or]
      exact tx_tup (ds := [.str "or", y.d, z.d]) (ws := ["or", fltS y, fltS z]) rfl (by simp [hw, h.flt y ok.1 (by omega) (by omega), h.flt z ok.2 (by omega) (by omega)]) (by simp [lf y ok.1 (by omega), lf z ok.2 (by omega)]; decide) (by simp)
abbrev SpWf (f : Fs) : Prop := ∀ x : Flt, x.ok = true → x.size ≤ 20 → f [.dat x.d] = pur (.str (fltS x))
theorem wf_ok {fc ft : Fs} (hc : ∀ x : Flt, x.ok = true → x.size ≤ 20 → fc [.dat x.d] = pur .none) (ht : SpTx ft 21) : SpWf (dFun 1 1 (d_write_filter fc ft)) := by
  intro x ok sz
  have e := ht.flt x ok (by omega) sz
  generalize fltS x = w at e ⊢
  simp [dFun_eq, d_write_filter, hc x ok sz, e]
end PT
namespace PT
open PySem PySem.Spec PyProof.Rows L2 DL LW PW
theorem joinL_mem (S : List Nat) {c : Nat} : ∀ {ps : List (List Nat)}, c ∈ TL.joinL S ps → c ∈ S ∨ ∃ p ∈ ps, c ∈ p
  | [], h => nomatch h
  | [p], h => .inr ⟨p, List.mem_singleton_self p, h⟩
  | p :: q :: r, h => by
    have h : c ∈ p ++ (S ++ TL.joinL S (q :: r)) := h
    rcases List.mem_append.mp h with h | h
    · exact .inr ⟨p, List.mem_cons_self, h⟩
    · rcases List.mem_append.mp h with h | h
      · exact .inl h
      · rcases joinL_mem S h with h | ⟨x, hx, h⟩
        · exact .inl h
        · exact .inr ⟨x, List.mem_cons_of_mem _ hx, h⟩
theorem tl_jn (y : Str) (ws : List Str) : TL.tl (PySem.Txt.join y ws) = TL.joinL (TL.tl y) (ws.map TL.tl) := by rw [TL.join_eq, TL.tl_join]
theorem strOk_tl {x : Str} (h : ∀ c ∈ TL.tl x, c < 0x110000) : PyData.strOk x = true := by
  unfold PyData.strOk
  rw [Array.all_eq_true_iff_forall_mem]
  intro c hc
  exact decide_eq_true (h c (by simpa [TL.tl] using hc))
theorem vl_sign {n : N3} {v : Vl} (h : v.okU n = true) : ∀ c ∈ TL.tl (vlS v), (48 ≤ c ∧ c ≤ 57) ∨ (97 ≤ c ∧ c < 123) := by
  have k : ((TL.tl (vlS v)).all fun c => decide ((48 ≤ c ∧ c ≤ 57) ∨ (97 ≤ c ∧ c < 123))) = true := by
    cases v with
    | nul => decide +kernel
    | int i => rcases okU_ten h with rfl | rfl | rfl | rfl | rfl | rfl | rfl | rfl | rfl | rfl <;> decide +kernel
  exact fun c hc => of_decide_eq_true (List.all_eq_true.mp k c hc)
theorem row_sign {n : N3} {r : LW.Row} (h : okRow n r) : ∀ c ∈ TL.tl (rowS r), c = 44 ∨ ((48 ≤ c ∧ c ≤ 57) ∨ (97 ≤ c ∧ c < 123)) := fun c hc => by
  obtain ⟨u, v, rfl, hu, hv⟩ := h
  have e : TL.tl (rowS [u, v]) = TL.joinL (TL.tl ",") [TL.tl (vlS u), TL.tl (vlS v)] := tl_jn "," [vlS u, vlS v]
  rw [e] at hc
  rcases joinL_mem _ hc with h | ⟨p, hp, h⟩
  · left
    have : TL.tl "," = [44] := by decide +kernel
    rw [this] at h
    exact List.mem_singleton.mp h
  · right
    simp only [List.mem_cons, List.not_mem_nil, or_false] at hp
    rcases hp with rfl | rfl
    · exact vl_sign hu c h
    · exact vl_sign hv c h
theorem row_split {n : N3} {u v : Vl} (hu : u.okU n = true) (hv : v.okU n = true) : splD (.str (rowS [u, v])) (.str ",") = some (.list [.str (vlS u), .str (vlS v)]) := by
  have sp : PySem.Txt.split (rowS [u, v]) "," = [vlS u, vlS v] := TL.split_join (y := ",") (s := 44) (S := []) (parts := [vlS u, vlS v]) (by decide +kernel) (by decide +kernel) (by simp) fun w hw hc => by
    have q : ∃ x : Vl, x.okU n = true ∧ w = vlS x := by
      simp only [List.mem_cons, List.not_mem_nil, or_false] at hw
      rcases hw with rfl | rfl
      · exact ⟨u, hu, rfl⟩
      · exact ⟨v, hv, rfl⟩
    obtain ⟨x, hx, rfl⟩ := q
    have := vl_sign hx _ hc
    omega
  have l := rowS_len (r := [u, v]) ⟨u, v, rfl, hu, hv⟩
  show (if ((Str.ofString ",").length == 0) = false ∧ (rowS [u, v]).length + 2 ≤ sizeLine then some (PyData.list ((PySem.Txt.split (rowS [u, v]) ",").map PyData.str)) else none) = _
  rw [sp, if_pos]
  · rfl
  · exact ⟨by decide, by rw [sizeLine_eq]; omega⟩
/-- what _row_in does of a word -/
theorem vl_in {fn : Fs} (hn : SpNumb fn) {n : N3} {v : Vl} (h : v.okU n = true) (w : DL.Slot) : dIf (dCmp eqD (dVar 1) (dLit c_NULL)) (dLit .none) (dCl 1 fn (dCons (dVar 1) (dNil))) [w, .dat (.str (vlS v))] = pur v.d := by
  cases v with
  | nul =>
    have e : eqD (.str (vlS .nul)) c_NULL = some true := by kernel_rfl
    simp [e, Vl.d]
  | int i =>
    have e : eqD (.str (vlS (.int i))) c_NULL = some false := by
      rcases okU_ten h with rfl | rfl | rfl | rfl | rfl | rfl | rfl | rfl | rfl | rfl <;> kernel_rfl
    have b : 0 ≤ i ∧ i ≤ 9 := by simpa [Vl.okU] using h
    have q := hn i b.1 b.2
    have q : fn [.dat (.str (vlS (.int i)))] = pur (.int i) := q
    simp [e, q, Vl.d]
abbrev SpRi (f : Fs) : Prop := ∀ n (r : LW.Row), okRow n r → f [.dat (.str (rowS r))] = pur (rowD r)
theorem ri_ok {fn : Fs} (hn : SpNumb fn) : SpRi (dFun 1 2 (d__row_in fn)) := by
  intro n r h
  obtain ⟨u, v, rfl, hu, hv⟩ := h
  have sp := row_split hu hv
  have a1 := vl_in hn hu (.dat (.str (rowS [u, v])))
  have a2 := vl_in hn hv (.dat (.str (rowS [u, v])))
  have go : compGoX (.name 1) (dIf (dCmp eqD (dVar 1) (dLit c_NULL)) (dLit .none) (dCl 1 fn (dCons (dVar 1) (dNil)))) [.dat (.str (rowS [u, v])), .hid] [.str (vlS u), .str (vlS v)] = pur [u.d, v.d] :=
    compGoX_all (t := .name 1) (e := dIf (dCmp eqD (dVar 1) (dLit c_NULL)) (dLit .none) (dCl 1 fn (dCons (dVar 1) (dNil)))) (ev := [.dat (.str (rowS [u, v])), .hid]) (fun x : Vl => PyData.str (vlS x)) Vl.d [u, v] fun x hx => by
      simp only [List.mem_cons, List.not_mem_nil, or_false] at hx
      rcases hx with rfl | rfl
      · exact ⟨_, rfl, a1⟩
      · exact ⟨_, rfl, a2⟩
  have it : itmD (.list [.str (vlS u), .str (vlS v)]) = some [.str (vlS u), .str (vlS v)] := rfl
  have hz : (2 : Nat) ≤ sizeLine := by rw [sizeLine_eq]; omega
  have tt : tupleD [.list [u.d, v.d]] = some (rowD [u, v]) := rfl
  have ls : lstL [] [u.d, v.d] = some (.list [u.d, v.d]) := lstL_nil hz
  have hq : ([.str (vlS u), .str (vlS v)] : List D).length ≤ sizeLine := hz
  generalize rowS [u, v] = w at sp go
  generalize ([.str (vlS u), .str (vlS v)] : List D) = L at sp it go hq
  simp [dFun_eq, d__row_in, sp, it, go, hq, ls, tt]
theorem tab_txt {rs : List LW.Row} (h : rs ≠ []) : tabS rs = PySem.Txt.join "; " (rs.map rowS) := by
  unfold tabS
  rw [if_neg]
  simpa using h
theorem rows_sign {a : Bool} {n : N3} {rs : List LW.Row} (T : PW.TabOk a n rs) : ∀ w ∈ rs.map rowS, ∀ c ∈ TL.tl w, c = 44 ∨ ((48 ≤ c ∧ c ≤ 57) ∨ (97 ≤ c ∧ c < 123)) := fun w hw c hc => by
  obtain ⟨r, hr, rfl⟩ := List.mem_map.mp hw
  exact row_sign (T.ok r hr) c hc
theorem tab_len {a : Bool} {n : N3} {rs : List LW.Row} (T : PW.TabOk a n rs) (h : rs ≠ []) : (tabS rs).length ≤ 200 := by
  rw [tab_txt h, TL.len_tl, tl_jn]
  have := joinL_len (TL.tl "; ") (b := 9) ((rs.map rowS).map TL.tl) fun p hp => by
    obtain ⟨w, hw, rfl⟩ := List.mem_map.mp hp
    obtain ⟨r, hr, rfl⟩ := List.mem_map.mp hw
    rw [← TL.len_tl]
    exact rowS_len (T.ok r hr)
  have hc : (TL.tl "; ").length = 2 := by decide +kernel
  rw [hc, List.length_map, List.length_map] at this
  have := T.len
  omega
theorem tab_sign {a : Bool} {n : N3} {rs : List LW.Row} (T : PW.TabOk a n rs) (h : rs ≠ []) : ∀ c ∈ TL.tl (tabS rs), c = 44 ∨ c = 59 ∨ c = 32 ∨ ((48 ≤ c ∧ c ≤ 57) ∨ (97 ≤ c ∧ c < 123)) := fun c hc => by
  rw [tab_txt h, tl_jn] at hc
  rcases joinL_mem _ hc with q | ⟨p, hp, q⟩
  · have e59 : TL.tl "; " = [59, 32] := by decide +kernel
    rw [e59] at q
    simp only [List.mem_cons, List.not_mem_nil, or_false] at q
    omega
  · obtain ⟨w, hw, rfl⟩ := List.mem_map.mp hp
    have := rows_sign T w hw c q
    omega
theorem tab_split {a : Bool} {n : N3} {rs : List LW.Row} (T : PW.TabOk a n rs) (h : rs ≠ []) : splD (.str (tabS rs)) (.str "; ") = some (.list (rs.map fun r => PyData.str (rowS r))) := by
  have sp : PySem.Txt.split (tabS rs) "; " = rs.map rowS := by
    rw [tab_txt h]
    refine TL.split_join (s := 59) (S := [32]) (by decide +kernel) (by decide +kernel) (by simpa using h) fun w hw hc => ?_
    have q := rows_sign T w hw 59 hc
    exact absurd q (by decide)
  have l := tab_len T h
  show (if ((Str.ofString "; ").length == 0) = false ∧ (tabS rs).length + 2 ≤ sizeLine then some (PyData.list ((PySem.Txt.split (tabS rs) "; ").map PyData.str)) else none) = _
  rw [sp, if_pos ⟨by decide, by rw [sizeLine_eq]; omega⟩, List.map_map]
  rfl
theorem tab_eq {a : Bool} {n : N3} {rs : List LW.Row} (T : PW.TabOk a n rs) (h : rs ≠ []) : eqD (.str (tabS rs)) (.str "-") = some false := by
  have ok : PyData.strOk (tabS rs) = true := strOk_tl fun c hc => by have := tab_sign T h c hc; omega
  have ne : tabS rs ≠ "-" := fun e => by
    have m : (45 : Nat) ∈ TL.tl (tabS rs) := by rw [e]; decide +kernel
    have q := tab_sign T h 45 m
    exact absurd q (by decide)
  have e2 : PyData.eqv (.str (tabS rs)) (.str "-") = false := by
    show (tabS rs == "-") = false
    exact beq_eq_false_iff_ne.mpr ne
  have s1 : SeqAt.shaped (.str (tabS rs)) = true := by
    show (PyData.canLay0 (.str (tabS rs)) && decide (PyData.depth (.str (tabS rs)) ≤ 64)) = true
    simp [PyData.canLay0, PyData.depth, ok]
  unfold eqD
  rw [e2, if_pos ⟨s1, by decide +kernel⟩]
abbrev SpRt (f : Fs) : Prop := ∀ a b c n e (rs : List LW.Row), PW.TabOk a n rs → f [.dat (wayD a b c n e), .dat (.str (tabS rs))] = pur (rowsT rs)
theorem rt_ok {fs ft fr fi : Fs} (hs : SpChkS fs) (ht : SpTxt ft) (hr : SpRi fr) (hi : SpTab fi) : SpRt (dFun 2 4 (d_read_table fs ft fr fi)) := by
  intro a b c n e rs T
  have tb := hi a b c n e rs T
  by_cases h : rs = []
  · subst h
    have e1 : eqD (.str (tabS [])) c_NO_ROW = some true := by kernel_rfl
    have tb : fi [.dat (wayD a b c n e), .dat (.tuple [])] = pur (.bool true) := tb
    have rr : rowsT [] = .tuple [] := rfl
    rw [rr]
    generalize tabS [] = w at e1 ⊢
    simp [dFun_eq, d_read_table, hs a b c n e, ht w, e1, tb, truD, dats]
  · have e1 := tab_eq T h
    have e1 : eqD (.str (tabS rs)) c_NO_ROW = some false := e1
    have sp := tab_split T h
    generalize tabS rs = w at e1 sp ⊢
    have go := compGoX_all (t := .name 3) (e := dCl 1 fr (dCons (dVar 3) (dNil))) (ev := [.dat (wayD a b c n e), .dat (.str w), .hid, .hid]) (fun r : LW.Row => PyData.str (rowS r)) rowD rs fun r hr' => ⟨_, rfl, by simp [hr n r (T.ok r hr')]⟩
    have it : itmD (.list (rs.map fun r => PyData.str (rowS r))) = some (rs.map fun r => PyData.str (rowS r)) := rfl
    have hz : (rs.map rowD).length ≤ sizeLine := by rw [List.length_map, sizeLine_eq]; have := T.len; omega
    have tt : tupleD [.list (rs.map rowD)] = some (rowsT rs) := rfl
    have ls : lstL [] (rs.map rowD) = some (.list (rs.map rowD)) := lstL_nil hz
    have hq : (rs.map fun r => PyData.str (rowS r)).length ≤ sizeLine := by rw [List.length_map] at hz ⊢; exact hz
    generalize (rs.map fun r => PyData.str (rowS r)) = L at sp it go hq
    generalize rs.map rowD = M at go hz tt ls
    simp [dFun_eq, d_read_table, hs a b c n e, ht w, e1, sp, it, go, hq, ls, tt, tb, truD]
end PT
namespace LT
open PySem PySem.Spec PyProof.Rows L2 DL LW PW PT
def d__law_words (f__law_words : List Slot → Mn D) : Ev → Ms :=
    pRet (dMtS joinD (dLit (.str " ")) (dBin addD (dLst (dCons (dBin ixD (dVar 0) (dLit (.int 0))) (dNil))) (dComp [1] (dItm (dBin slLo (dVar 0) (dLit (.int 1)))) (.name 1) (dYes) (dIf (dTru (dIsi [.tuple] (dVar 1))) (dCl 1 f__law_words (dCons (dVar 1) (dNil))) (dFn strX (dCons (dVar 1) (dNil)))))))
theorem ix_0 (d : D) (ds : List D) : ixD (.tuple (d :: ds)) (.int 0) = some d := by simp
theorem lo_1 (d : D) (ds : List D) : slLo (.tuple (d :: ds)) (.int 1) = some (.tuple ds) := by
  show some (PyData.tuple (cutL (d :: ds) (some ((1 : Nat) : Int)) none)) = _
  unfold cutL
  rw [HT.sIx_nat, HT.sIx_none, List.length_cons, Nat.min_eq_left (by omega)]
  simp
/-- what the comprehension does of a part -/
def PartOk (f : Fs) (d : D) (w : Str) : Prop := (isA d Ty.tuple = true ∧ f [.dat d] = pur (.str w)) ∨ (isA d Ty.tuple = false ∧ strX [d] = some (.str w))
theorem lw_tup {f : Fs} {x : Str} {ds : List D} {ws : List Str} (hl : ds.length = ws.length) (h : ∀ p ∈ ds.zip ws, PartOk f p.1 p.2) (hx : x.length ≤ 400) (hs : ∀ w ∈ ws, w.length ≤ 400) (h3 : ws.length ≤ 2) : dFun 1 2 (d__law_words f) [.dat (.tuple (.str x :: ds))] = pur (.str (PySem.Txt.join " " (x :: ws))) := by
  have go := compGo_all (t := .name 1) (e := dIf (dTru (dIsi [.tuple] (dVar 1))) (dCl 1 f (dCons (dVar 1) (dNil))) (dFn strX (dCons (dVar 1) (dNil)))) (ev := [.dat (.tuple (.str x :: ds)), .hid]) (fun p : D × Str => p.1) (fun p => PyData.str p.2) (ds.zip ws) fun p hp => by
    refine ⟨_, rfl, ?_⟩
    rcases h p hp with ⟨h1, h2⟩ | ⟨h1, h2⟩
    · simp [h1, h2, truD]
    · simp [h1, h2, truD]
  rw [List.map_fst_zip (by omega)] at go
  have e2 : (ds.zip ws).map (fun p => PyData.str p.2) = ws.map PyData.str := by
    have := congrArg (List.map PyData.str) (List.map_snd_zip (l₁ := ds) (l₂ := ws) (by omega))
    rwa [List.map_map] at this
  rw [e2] at go
  have it : itmD (.tuple ds) = some ds := rfl
  have hz : (ws.map PyData.str).length ≤ sizeLine := by rw [List.length_map, sizeLine_eq]; omega
  have ad : addD (.list [.str x]) (.list (ws.map PyData.str)) = some (.list ((x :: ws).map PyData.str)) := by
    show (if [PyData.str x].length + (ws.map PyData.str).length ≤ sizeLine then some (PyData.list ([PyData.str x] ++ ws.map PyData.str)) else none) = _
    rw [if_pos]
    · rfl
    · rw [List.length_map, sizeLine_eq]; simp; omega
  have jn := join_run (sep := " ") (ws := x :: ws) (b := 400) (m := 3) (by decide) (fun w hw => by
    rcases List.mem_cons.mp hw with rfl | hw
    · exact hx
    · exact hs w hw) (by simp; omega) (by decide)
  have i0 := ix_0 (.str x) ds
  have l1 := lo_1 (.str x) ds
  have o1 : (1 : Nat) ≤ sizeLine := by rw [sizeLine_eq]; omega
  generalize PySem.Txt.join " " (x :: ws) = u at jn ⊢
  generalize (x :: ws).map PyData.str = W at jn ad
  generalize ws.map PyData.str = L at ad go hz
  generalize PyData.tuple (.str x :: ds) = T at i0 l1 go ⊢
  simp [dFun_eq, d__law_words, i0, l1, it, go, hz, ad, jn, dats, o1]
abbrev SpLw (f : Fs) (m : Nat) : Prop := ∀ x : Flt, x.ok = true → x.size ≤ m → x.size ≤ 20 → f [.dat x.d] = pur (.str (fltS x))
theorem lw_step {f : Fs} {m : Nat} (h : SpLw f m) : SpLw (dFun 1 2 (d__law_words f)) (m + 1) := by
  intro x ok hs sz
  have lc : ∀ c : Bool, (colS c).length ≤ 400 := fun c => by cases c <;> decide
  have lf : ∀ y : Flt, y.ok = true → y.size ≤ 20 → (fltS y).length ≤ 400 := fun y h1 h2 => Nat.le_trans (fltS_len h1 h2) (by omega)
  have pc : ∀ c : Bool, PartOk f (colD c) (colS c) := fun c => .inr ⟨rfl, by cases c <;> rfl⟩
  have pn : ∀ i : Int, 0 ≤ i → i ≤ 9 → PartOk f (.int i) (Str.ofString (toString i)) := fun i h0 h9 => .inr ⟨rfl, strX_ten h0 h9⟩
  have pf : ∀ y : Flt, y.ok = true → y.size ≤ m → y.size ≤ 20 → PartOk f y.d (fltS y) := fun y h1 h2 h3 => .inl ⟨by cases y <;> rfl, h y h1 h2 h3⟩
  cases x with
  | less c i =>
    simp only [Flt.ok, Bool.and_eq_true, decide_eq_true_eq] at ok
    exact lw_tup (x := "less") (ds := [colD c, .int i]) (ws := [colS c, Str.ofString (toString i)]) rfl (by
      intro p hp
      rcases List.mem_cons.mp hp with rfl | hp
      · exact pc c
      · rw [List.mem_singleton.mp hp]; exact pn i ok.1 ok.2) (by decide) (fun w hw => by
      rcases List.mem_cons.mp hw with rfl | hw
      · exact lc c
      · rw [List.mem_singleton.mp hw]; exact num_len ok.1 ok.2) (by simp)
  | equal c i =>
    simp only [Flt.ok, Bool.and_eq_true, decide_eq_true_eq] at ok
    exact lw_tup (x := "equal") (ds := [colD c, .int i]) (ws := [colS c, Str.ofString (toString i)]) rfl (by
      intro p hp
      rcases List.mem_cons.mp hp with rfl | hp
      · exact pc c
      · rw [List.mem_singleton.mp hp]; exact pn i ok.1 ok.2) (by decide) (fun w hw => by
      rcases List.mem_cons.mp hw with rfl | hw
      · exact lc c
      · rw [List.mem_singleton.mp hw]; exact num_len ok.1 ok.2) (by simp)
  | same => exact lw_tup (x := "same") (ds := []) (ws := []) rfl (by intro p hp; cases hp) (by decide) (by intro w hw; cases hw) (by simp)
  | null c => exact lw_tup (x := "null") (ds := [colD c]) (ws := [colS c]) rfl (by intro p hp; rw [List.mem_singleton.mp hp]; exact pc c) (by decide) (fun w hw => by rw [List.mem_singleton.mp hw]; exact lc c) (by simp)
  | not y =>
    simp only [Flt.ok] at ok
    simp only [Flt.size] at hs sz
    rw [← fltS_not]
    exact lw_tup (x := "not") (ds := [y.d]) (ws := [fltS y]) rfl (by intro p hp; rw [List.mem_singleton.mp hp]; exact pf y ok (by omega) (by omega)) (by decide) (fun w hw => by rw [List.mem_singleton.mp hw]; exact lf y ok (by omega)) (by simp)
  | and y z =>
    simp only [Flt.ok, Bool.and_eq_true] at ok
    simp only [Flt.size] at hs sz
    rw [← fltS_and]
    exact lw_tup (x := "and") (ds := [y.d, z.d]) (ws := [fltS y, fltS z]) rfl (by
      intro p hp
      rcases List.mem_cons.mp hp with rfl | hp
      · exact pf y ok.1 (by omega) (by omega)
      · rw [List.mem_singleton.mp hp]; exact pf z ok.2 (by omega) (by omega)) (by decide) (fun w hw => by
      rcases List.mem_cons.mp hw with rfl | hw
      · exact lf y ok.1 (by omega)
      · rw [List.mem_singleton.mp hw]; exact lf z ok.2 (by omega)) (by simp)
  | or y z =>
    simp only [Flt.ok, Bool.and_eq_true] at ok
    simp only [Flt.size] at hs sz
    rw [← fltS_or]
    exact lw_tup (x := "or") (ds := [y.d, z.d]) (ws := [fltS y, fltS z]) rfl (by
      intro p hp
      rcases List.mem_cons.mp hp with rfl | hp
      · exact pf y ok.1 (by omega) (by omega)
      · rw [List.mem_singleton.mp hp]; exact pf z ok.2 (by omega) (by omega)) (by decide) (fun w hw => by
      rcases List.mem_cons.mp hw with rfl | hw
      · exact lf y ok.1 (by omega)
      · rw [List.mem_singleton.mp hw]; exact lf z ok.2 (by omega)) (by simp)
end LT
namespace DL
open PySem PySem.Spec PyProof.Rows L2
def repS (n : Nat) (x : Str) : Str := ⟨(List.replicate n x.cps).foldl (· ++ ·) #[]⟩
theorem repS_len (n : Nat) (x : Str) : (repS n x).length = n * x.length := by
  have go : ∀ (m : Nat) (a : Array Nat), ((List.replicate m x.cps).foldl (· ++ ·) a).size = a.size + m * x.cps.size := by
    intro m
    induction m with
    | zero => intro a; simp
    | succ m ih =>
      intro a
      rw [List.replicate_succ, List.foldl_cons, ih, Array.size_append, Nat.add_mul]
      omega
  have := go n #[]
  show ((List.replicate n x.cps).foldl (· ++ ·) #[]).size = _
  rw [this]
  simp [Str.length]
theorem op_repS {X : Cx} : OpR X (binaryOp .Mult) (fun x y H Q => ∃ (i : Str) (n : Int), x = .str i ∧ y = .int n ∧ 2 ≤ n ∧ n ≤ 1000 ∧ 1 ≤ i.length ∧ i.length ≤ 1000 ∧ Q (.str (repS n.toNat i)) H) := by
  intro pins s σ H x y v u Q I rx ry h
  obtain ⟨i, n, rfl, rfl, h1, h2, h3, h4, q⟩ := h
  obtain ⟨t, rfl⟩ := rx
  obtain ⟨t', rfl⟩ := ry
  have c0 : (decide (n < -(2 ^ 63 : Int)) || decide (n ≥ 2 ^ 63)) = false := by
    rw [decide_eq_false (by omega), decide_eq_false (by omega)] <;> rfl
  have hm : i.length * n.toNat ≤ 1000000 := by
    have a1 : i.length * n.toNat ≤ 1000 * 1000 := Nat.mul_le_mul h4 (by omega)
    omega
  have tl : PySem.Builtin.Str.tooLong (i.length * n.toNat) = false := by
    unfold PySem.Builtin.Str.tooLong
    rw [sizeLine_eq]
    exact decide_eq_false (by omega)
  refine P.mul_str c0 (fun _ _ => ?_) (fun _ _ => tl) ?_
  · have : (2 ^ 63 - 1) / n ≥ 1000 := by
      rw [ge_iff_le, Int.le_ediv_iff_mul_le (by omega)]
      omega
    omega
  · rw [if_neg (by omega), if_neg]
    · show _ ∧ _
      refine ⟨?_, .str (repS n.toNat i), H, I.tok _, ⟨_, rfl⟩, q⟩
      have e := repS_len n.toNat i
      show (repS n.toNat i).length ≤ _
      rw [e, Nat.mul_comm]
      first
        | (rw [sizeLine_eq]; omega)
        | omega
    · rw [Bool.or_eq_true]
      rintro (z | z)
      · have := eq_of_beq z; omega
      · have := eq_of_beq z; omega
def mulS : D → D → Option D
  | .str x, .int n => if 2 ≤ n ∧ n ≤ 1000 ∧ 1 ≤ x.length ∧ x.length ≤ 1000 then some (.str (repS n.toNat x)) else none
  | _, _ => none
section
variable {G : Gm} {k : Nat} {sc : Sx} {N : List Str}
theorem e_mulS {a b : Expr} {fa fb : Ev → Mn D} {p : Pos} (ha : SE G k sc N a fa) (hb : SE G k sc N b fb) : SE G k sc N (.BinOp a .Mult b p) (dBin mulS fa fb) := by
  refine e_bin ha hb (fun X ta tb g h1 h2 => pe_op op_repS h1 h2) fun X M H x y dx dy d Q g ml hx hy e hq => ?_
  cases hx with
  | str i =>
    cases hy with
    | int j =>
      have e : (if 2 ≤ j ∧ j ≤ 1000 ∧ 1 ≤ i.length ∧ i.length ≤ 1000 then some (PyData.str (repS j.toNat i)) else none) = some d := e
      split at e
      · rename_i hl; cases e; exact ⟨i, j, rfl, rfl, hl.1, hl.2.1, hl.2.2.1, hl.2.2.2, hq _ H (.refl _) (.str _)⟩
      · cases e
    | _ => cases e
  | _ => cases e
end
end DL
noncomputable section
namespace K10
open PySem PySem.Spec PyProof.Rows L2 DL
structure Tp (G : Gm) : Prop where
  b_all : Mg0 G "all"
  b_bool : Mg0 G "bool"
  b_enumerate : Mg0 G "enumerate"
  b_int : Mg0 G "int"
  b_isinstance : Mg0 G "isinstance"
  b_len : Mg0 G "len"
  b_list : Mg0 G "list"
  b_range : Mg0 G "range"
  b_reversed : Mg0 G "reversed"
  b_sorted : Mg0 G "sorted"
  b_str : Mg0 G "str"
  b_tuple : Mg0 G "tuple"
  b_zip : Mg0 G "zip"
  c_DIGITS : GlD G "DIGITS" PT.c_DIGITS
  c_DUPLICATES : GlD G "DUPLICATES" PW.c_DUPLICATES
  c_GREATEST_VALUE : GlD G "GREATEST_VALUE" PW.c_GREATEST_VALUE
  c_MOST_ROWS : GlD G "MOST_ROWS" PW.c_MOST_ROWS
  c_MOST_TUPLES : GlD G "MOST_TUPLES" PW.c_MOST_TUPLES
  c_MOST_WORDS_OF_TUPLE : GlD G "MOST_WORDS_OF_TUPLE" PT.c_MOST_WORDS_OF_TUPLE
  c_NO_ROW : GlD G "NO_ROW" PT.c_NO_ROW
  c_NULL : GlD G "NULL" PT.c_NULL
  c_NULLS : GlD G "NULLS" PW.c_NULLS
  c_ROW_LENGTH : GlD G "ROW_LENGTH" PW.c_ROW_LENGTH
  c_WORDS : GlD G "WORDS" PW.c_WORDS
  k_GREATEST : GlK G "GREATEST" PW.k_GREATEST
  t_FORMS : GlT G "FORMS" PW.t_FORMS
  x_BadFilter : ExcF G "BadFilter"
  x_BadSemantics : ExcF G "BadSemantics"
  x_InvalidText : ExcF G "InvalidText"
  x_NotText : ExcF G "NotText"
  z_DIGITS : GlTz G "DIGITS"
theorem sc_is_semantics : FnScope N_is_semantics P_is_semantics (defScope st_is_semantics) := ⟨rfl, rfl, rfl, by decide +kernel, rfl, by decide +kernel, by decide +kernel⟩
theorem s_is_semantics {G : Gm} {k : Nat} (B : Tp G)  (hk : 1 ≤ k) : SB G k ⟨defScope st_is_semantics, fun _ => true⟩ N_is_semantics (defBody st_is_semantics) (PW.d_is_semantics) :=
    s_cons (P_if (t_w (w_or (t_not (t_val (e_isi1 .tuple (e_var 0) PyProof.Rows.boot_tuple B.b_isinstance B.b_tuple))) (w_or1 (T_cmp c_ne (e_len (a_cons (e_var 0) (a_nil)) B.b_len) (e_len (a_cons (e_glob B.c_WORDS) (a_nil)) B.b_len))))) (s_one (P_ret (e_bl))) (s_nil))
    (s_one (P_ret (e_all (a_cons (e_lc [("part", 1), ("words", 2)] (i_zip (a_cons (e_var 0) (a_cons (e_glob B.c_WORDS) (a_nil))) B.b_zip) (g_tup [1, 2] (.cons (by rfl) (by rfl) (.cons (by rfl) (by rfl) (.nil)))) (p_nil) (E_cmp (c_in hk) (e_var 1) (e_var 2))) (a_nil)) B.b_all)))
theorem sc_check_semantics : FnScope N_check_semantics P_check_semantics (defScope st_check_semantics) := ⟨rfl, rfl, rfl, by decide +kernel, rfl, by decide +kernel, by decide +kernel⟩
theorem s_check_semantics {G : Gm} {k : Nat} (B : Tp G) {j_is_semantics : Nat} {f_is_semantics : List Slot → Mn D} (F_is_semantics : FO G j_is_semantics "is_semantics" 1 f_is_semantics) (h_is_semantics : j_is_semantics ≤ k) : SB G k ⟨defScope st_check_semantics, fun _ => true⟩ N_check_semantics (defBody st_check_semantics) (PW.d_check_semantics f_is_semantics) :=
    s_one (P_if (t_not (t_val (e_call F_is_semantics (a_cons (e_var 0) (a_nil)) h_is_semantics))) (s_one (s_raise B.x_BadSemantics)) (s_nil))
theorem sc_is_integer_to : FnScope N_is_integer_to P_is_integer_to (defScope st_is_integer_to) := ⟨rfl, rfl, rfl, by decide +kernel, rfl, by decide +kernel, by decide +kernel⟩
theorem s_is_integer_to {G : Gm} {k : Nat} (B : Tp G)  : SB G k ⟨defScope st_is_integer_to, fun _ => true⟩ N_is_integer_to (defBody st_is_integer_to) (PW.d_is_integer_to) :=
    s_cons (P_if (t_w (w_or (t_not (t_val (e_isi1 .int (e_var 0) PyProof.Rows.boot_int B.b_isinstance B.b_int))) (w_or1 (t_val (e_isi1 .bool (e_var 0) PyProof.Rows.boot_bool B.b_isinstance B.b_bool))))) (s_one (P_ret (e_bl))) (s_nil))
    (s_one (P_ret (e_chain c_le c_le (e_int) (e_var 0) (e_var 1))))
theorem sc_is_row : FnScope N_is_row P_is_row (defScope st_is_row) := ⟨rfl, rfl, rfl, by decide +kernel, rfl, by decide +kernel, by decide +kernel⟩
theorem s_is_row {G : Gm} {k : Nat} (B : Tp G) {j__is_value_under : Nat} {f__is_value_under : List Slot → Mn D} (F__is_value_under : FO G j__is_value_under "_is_value_under" 2 f__is_value_under) (h__is_value_under : j__is_value_under ≤ k) : SB G k ⟨defScope st_is_row, fun _ => true⟩ N_is_row (defBody st_is_row) (PW.d_is_row f__is_value_under) :=
    s_cons (P_if (t_w (w_or (t_not (t_val (e_isi1 .tuple (e_var 1) PyProof.Rows.boot_tuple B.b_isinstance B.b_tuple))) (w_or1 (T_cmp c_ne (e_len (a_cons (e_var 1) (a_nil)) B.b_len) (e_glob B.c_ROW_LENGTH))))) (s_one (P_ret (e_bl))) (s_nil))
    (s_one (P_ret (e_all (a_cons (e_lc [("part", 2)] (i_seq (e_var 1)) (g_name 2) (p_nil) (e_call F__is_value_under (a_cons (e_var 0) (a_cons (e_var 2) (a_nil))) h__is_value_under)) (a_nil)) B.b_all)))
theorem sc__is_value_under : FnScope N__is_value_under P__is_value_under (defScope st__is_value_under) := ⟨rfl, rfl, rfl, by decide +kernel, rfl, by decide +kernel, by decide +kernel⟩
theorem s__is_value_under {G : Gm} {k : Nat} (B : Tp G) {j_is_integer_to : Nat} {f_is_integer_to : List Slot → Mn D} (F_is_integer_to : FO G j_is_integer_to "is_integer_to" 2 f_is_integer_to) (h_is_integer_to : j_is_integer_to ≤ k) : SB G k ⟨defScope st__is_value_under, fun _ => true⟩ N__is_value_under (defBody st__is_value_under) (PW.d__is_value_under f_is_integer_to) :=
    s_cons (P_if (T_cmp c_is (e_var 1) (e_non)) (s_one (P_ret (E_cmp c_ne (E_ix (e_var 0) (e_glob B.c_NULLS)) (e_str)))) (s_nil))
    (s_one (P_ret (e_call F_is_integer_to (a_cons (e_var 1) (a_cons (e_glob B.c_GREATEST_VALUE) (a_nil))) h_is_integer_to)))
theorem sc_value_order : FnScope N_value_order P_value_order (defScope st_value_order) := ⟨rfl, rfl, rfl, by decide +kernel, rfl, by decide +kernel, by decide +kernel⟩
theorem s_value_order {G : Gm} {k : Nat}  : SB G k ⟨defScope st_value_order, fun _ => true⟩ N_value_order (defBody st_value_order) (PW.d_value_order) :=
    s_one (P_ret (e_if (T_cmp c_is (e_var 0) (e_non)) (E_neg (e_int)) (e_var 0)))
theorem sc_row_order : FnScope N_row_order P_row_order (defScope st_row_order) := ⟨rfl, rfl, rfl, by decide +kernel, rfl, by decide +kernel, by decide +kernel⟩
theorem s_row_order {G : Gm} {k : Nat} (B : Tp G) {j_value_order : Nat} {f_value_order : List Slot → Mn D} (F_value_order : FO G j_value_order "value_order" 1 f_value_order) (h_value_order : j_value_order ≤ k) : SB G k ⟨defScope st_row_order, fun _ => true⟩ N_row_order (defBody st_row_order) (PW.d_row_order f_value_order) :=
    s_one (P_ret (e_tuple (a_cons (e_lc [("value", 1)] (i_seq (e_var 0)) (g_name 1) (p_nil) (e_call F_value_order (a_cons (e_var 1) (a_nil)) h_value_order)) (a_nil)) B.b_tuple))
theorem sc_is_table : FnScope N_is_table P_is_table (defScope st_is_table) := ⟨rfl, rfl, rfl, by decide +kernel, rfl, by decide +kernel, by decide +kernel⟩
theorem s_is_table {G : Gm} {k : Nat} (B : Tp G) {j_check_semantics : Nat} {f_check_semantics : List Slot → Mn D} (F_check_semantics : FO G j_check_semantics "check_semantics" 1 f_check_semantics) (h_check_semantics : j_check_semantics ≤ k) {j_is_row : Nat} {f_is_row : List Slot → Mn D} (F_is_row : FO G j_is_row "is_row" 2 f_is_row) (h_is_row : j_is_row ≤ k) {j__is_ascending : Nat} {f__is_ascending : List Slot → Mn D} (F__is_ascending : FO G j__is_ascending "_is_ascending" 2 f__is_ascending) (h__is_ascending : j__is_ascending ≤ k) : SB G k ⟨defScope st_is_table, fun _ => true⟩ N_is_table (defBody st_is_table) (PW.d_is_table f_check_semantics f_is_row f__is_ascending) :=
    s_cons (P_expr (e_call F_check_semantics (a_cons (e_var 0) (a_nil)) h_check_semantics))
    (s_cons (P_if (t_w (w_or (t_not (t_val (e_isi1 .tuple (e_var 1) PyProof.Rows.boot_tuple B.b_isinstance B.b_tuple))) (w_or1 (T_cmp c_gt (e_len (a_cons (e_var 1) (a_nil)) B.b_len) (e_glob B.c_MOST_ROWS))))) (s_one (P_ret (e_bl))) (s_nil))
    (s_cons (P_if (t_not (t_val (e_all (a_cons (e_lc [("row", 2)] (i_seq (e_var 1)) (g_name 2) (p_nil) (e_call F_is_row (a_cons (e_var 0) (a_cons (e_var 2) (a_nil))) h_is_row)) (a_nil)) B.b_all))) (s_one (P_ret (e_bl))) (s_nil))
    (s_one (P_ret (e_call F__is_ascending (a_cons (e_var 1) (a_cons (E_cmp c_eq (E_ix (e_var 0) (e_glob B.c_DUPLICATES)) (e_str)) (a_nil))) h__is_ascending)))))
theorem sc__is_ascending : FnScope N__is_ascending P__is_ascending (defScope st__is_ascending) := ⟨rfl, rfl, rfl, by decide +kernel, rfl, by decide +kernel, by decide +kernel⟩
theorem s__is_ascending {G : Gm} {k : Nat} (B : Tp G) {j_row_order : Nat} {f_row_order : List Slot → Mn D} (F_row_order : FO G j_row_order "row_order" 1 f_row_order) (h_row_order : j_row_order ≤ k) (hk : 1 ≤ k) : SB G k ⟨defScope st__is_ascending, fun _ => true⟩ N__is_ascending (defBody st__is_ascending) (PW.d__is_ascending f_row_order) :=
    s_cons (P_setLc 2 [("row", 5)] (i_seq (e_var 0)) (g_name 5) (p_nil) (e_call F_row_order (a_cons (e_var 5) (a_nil)) h_row_order))
    (s_cons (s_for false (i_zip (a_cons (e_var 2) (a_cons (E_slLo (e_var 2) (e_int)) (a_nil))) B.b_zip) (g_tup [3, 4] (.cons (by rfl) (by rfl) (.cons (by rfl) (by rfl) (.nil)))) (s_one (P_if (t_w (w_or (T_cmp (c_gtx hk) (e_var 3) (e_var 4)) (w_or1 (t_w (w_and (T_cmp c_eq (e_var 3) (e_var 4)) (w_and1 (t_not (t_val (e_var 1))))))))) (s_one (P_ret (e_bl))) (s_nil))))
    (s_one (P_ret (e_bl))))
theorem sc_check_tables : FnScope N_check_tables P_check_tables (defScope st_check_tables) := ⟨rfl, rfl, rfl, by decide +kernel, rfl, by decide +kernel, by decide +kernel⟩
theorem s_check_tables {G : Gm} {k : Nat} (B : Tp G) {j_is_table : Nat} {f_is_table : List Slot → Mn D} (F_is_table : FO G j_is_table "is_table" 2 f_is_table) (h_is_table : j_is_table ≤ k) : SB G k ⟨defScope st_check_tables, fun _ => true⟩ N_check_tables (defBody st_check_tables) (PW.d_check_tables f_is_table) :=
    s_one (s_for false (i_enumT (a_cons (e_var 1) (a_nil)) B.b_enumerate) (g_tup [2, 3] (.cons (by rfl) (by rfl) (.cons (by rfl) (by rfl) (.nil)))) (s_one (P_if (t_not (t_val (e_call F_is_table (a_cons (e_var 0) (a_cons (e_var 3) (a_nil))) h_is_table))) (s_one (s_stuck)) (s_nil))))
theorem sc_tuples_of : FnScope N_tuples_of P_tuples_of (defScope st_tuples_of) := ⟨rfl, rfl, rfl, by decide +kernel, rfl, by decide +kernel, by decide +kernel⟩
theorem s_tuples_of {G : Gm} {k : Nat} (B : Tp G) {j__has_form : Nat} {f__has_form : List Slot → Mn D} (F__has_form : FO G j__has_form "_has_form" 2 f__has_form) (h__has_form : j__has_form ≤ k) {j__inner_tuples : Nat} {f__inner_tuples : List Slot → Mn D} (F__inner_tuples : FO G j__inner_tuples "_inner_tuples" 2 f__inner_tuples) (h__inner_tuples : j__inner_tuples ≤ k) : SB G k ⟨defScope st_tuples_of, fun _ => true⟩ N_tuples_of (defBody st_tuples_of) (PW.d_tuples_of f__has_form f__inner_tuples) :=
    s_cons (s_own 3 (a_cons (e_tup (a_cons (e_var 0) (a_cons (e_var 1) (a_nil)))) (a_nil)))
    (s_cons (s_own 4 (a_nil))
    (s_cons (s_while 64 (t_val (e_var 3)) (s_cons (s_popT (.tup [5, 6]) 3 (g_tup [5, 6] (.cons (by rfl) (by rfl) (.cons (by rfl) (by rfl) (.nil)))))
    (s_cons (s_if (t_w (w_or (T_cmp c_eq (e_len (a_cons (e_var 4) (a_nil)) B.b_len) (e_var 2)) (w_or1 (t_not (t_val (e_call F__has_form (a_cons (e_var 5) (a_cons (e_var 6) (a_nil))) h__has_form)))))) (s_one (s_ret (e_non))) (s_nil))
    (s_cons (s_app 4 (e_var 5))
    (s_one (s_ext 3 (e_call F__inner_tuples (a_cons (e_var 5) (a_cons (e_var 6) (a_nil))) h__inner_tuples)))))))
    (s_one (s_ret (e_var 4)))))
theorem sc__has_form : FnScope N__has_form P__has_form (defScope st__has_form) := ⟨rfl, rfl, rfl, by decide +kernel, rfl, by decide +kernel, by decide +kernel⟩
theorem s__has_form {G : Gm} {k : Nat} (B : Tp G) {j__fits : Nat} {f__fits : List Slot → Mn D} (F__fits : FO G j__fits "_fits" 2 f__fits) (h__fits : j__fits ≤ k) : SB G k ⟨defScope st__has_form, fun _ => true⟩ N__has_form (defBody st__has_form) (PW.d__has_form f__fits) :=
    s_cons (P_if (t_w (w_or (t_not (t_val (e_isi1 .tuple (e_var 0) PyProof.Rows.boot_tuple B.b_isinstance B.b_tuple))) (w_or1 (T_cmp c_eq (e_len (a_cons (e_var 0) (a_nil)) B.b_len) (e_int))))) (s_one (P_ret (e_bl))) (s_nil))
    (s_cons (P_if (t_w (w_or (t_not (t_val (e_isi1 .str (E_ix (e_var 0) (e_int)) PyProof.Rows.boot_str B.b_isinstance B.b_str))) (w_or1 (T_tnin B.t_FORMS (e_tup (a_cons (e_var 1) (a_cons (E_ix (e_var 0) (e_int)) (a_nil)))))))) (s_one (P_ret (e_bl))) (s_nil))
    (s_cons (P_set 2 (E_tget B.t_FORMS (e_tup (a_cons (e_var 1) (a_cons (E_ix (e_var 0) (e_int)) (a_nil))))))
    (s_cons (P_if (T_cmp c_ne (e_len (a_cons (e_var 0) (a_nil)) B.b_len) (E_add (e_int) (e_len (a_cons (e_var 2) (a_nil)) B.b_len))) (s_one (P_ret (e_bl))) (s_nil))
    (s_one (P_ret (e_all (a_cons (e_lc [("part", 3), ("part_kind", 4)] (i_zip (a_cons (E_slLo (e_var 0) (e_int)) (a_cons (e_var 2) (a_nil))) B.b_zip) (g_tup [3, 4] (.cons (by rfl) (by rfl) (.cons (by rfl) (by rfl) (.nil)))) (p_nil) (e_call F__fits (a_cons (e_var 3) (a_cons (e_var 4) (a_nil))) h__fits)) (a_nil)) B.b_all))))))
theorem sc__fits : FnScope N__fits P__fits (defScope st__fits) := ⟨rfl, rfl, rfl, by decide +kernel, rfl, by decide +kernel, by decide +kernel⟩
theorem s__fits {G : Gm} {k : Nat} (B : Tp G) {j_is_integer_to : Nat} {f_is_integer_to : List Slot → Mn D} (F_is_integer_to : FO G j_is_integer_to "is_integer_to" 2 f_is_integer_to) (h_is_integer_to : j_is_integer_to ≤ k) : SB G k ⟨defScope st__fits, fun _ => true⟩ N__fits (defBody st__fits) (PW.d__fits f_is_integer_to) :=
    s_cons (P_if (T_kin B.k_GREATEST (e_var 1)) (s_one (P_ret (e_call F_is_integer_to (a_cons (e_var 0) (a_cons (E_kget B.k_GREATEST (e_var 1)) (a_nil))) h_is_integer_to))) (s_nil))
    (s_one (P_ret (e_bl)))
theorem sc__inner_tuples : FnScope N__inner_tuples P__inner_tuples (defScope st__inner_tuples) := ⟨rfl, rfl, rfl, by decide +kernel, rfl, by decide +kernel, by decide +kernel⟩
theorem s__inner_tuples {G : Gm} {k : Nat} (B : Tp G)  : SB G k ⟨defScope st__inner_tuples, fun _ => true⟩ N__inner_tuples (defBody st__inner_tuples) (PW.d__inner_tuples) :=
    s_cons (P_set 2 (E_tget B.t_FORMS (e_tup (a_cons (e_var 1) (a_cons (E_ix (e_var 0) (e_int)) (a_nil))))))
    (s_one (P_ret (e_lc [("part", 3), ("part_kind", 4)] (i_zip (a_cons (E_slLo (e_var 0) (e_int)) (a_cons (e_var 2) (a_nil))) B.b_zip) (g_tup [3, 4] (.cons (by rfl) (by rfl) (.cons (by rfl) (by rfl) (.nil)))) (p_one (T_knin B.k_GREATEST (e_var 4))) (e_tup (a_cons (e_var 3) (a_cons (e_var 4) (a_nil)))))))
theorem sc_is_filter : FnScope N_is_filter P_is_filter (defScope st_is_filter) := ⟨rfl, rfl, rfl, by decide +kernel, rfl, by decide +kernel, by decide +kernel⟩
theorem s_is_filter {G : Gm} {k : Nat} (B : Tp G) {j_tuples_of : Nat} {f_tuples_of : List Slot → Mn D} (F_tuples_of : FO G j_tuples_of "tuples_of" 3 f_tuples_of) (h_tuples_of : j_tuples_of ≤ k) : SB G k ⟨defScope st_is_filter, fun _ => true⟩ N_is_filter (defBody st_is_filter) (PW.d_is_filter f_tuples_of) :=
    s_one (P_ret (E_cmp c_isn (e_call F_tuples_of (a_cons (e_var 0) (a_cons (e_str) (a_cons (e_glob B.c_MOST_TUPLES) (a_nil)))) h_tuples_of) (e_non)))
theorem sc_check_filter : FnScope N_check_filter P_check_filter (defScope st_check_filter) := ⟨rfl, rfl, rfl, by decide +kernel, rfl, by decide +kernel, by decide +kernel⟩
theorem s_check_filter {G : Gm} {k : Nat} (B : Tp G) {j_is_filter : Nat} {f_is_filter : List Slot → Mn D} (F_is_filter : FO G j_is_filter "is_filter" 1 f_is_filter) (h_is_filter : j_is_filter ≤ k) : SB G k ⟨defScope st_check_filter, fun _ => true⟩ N_check_filter (defBody st_check_filter) (PW.d_check_filter f_is_filter) :=
    s_one (P_if (t_not (t_val (e_call F_is_filter (a_cons (e_var 0) (a_nil)) h_is_filter))) (s_one (s_raise B.x_BadFilter)) (s_nil))
theorem sc_check_text : FnScope N_check_text P_check_text (defScope st_check_text) := ⟨rfl, rfl, rfl, by decide +kernel, rfl, by decide +kernel, by decide +kernel⟩
theorem s_check_text {G : Gm} {k : Nat} (B : Tp G)  : SB G k ⟨defScope st_check_text, fun _ => true⟩ N_check_text (defBody st_check_text) (PT.d_check_text) :=
    s_one (P_if (t_not (t_val (e_isi1 .str (e_var 0) PyProof.Rows.boot_str B.b_isinstance B.b_str))) (s_one (s_raise B.x_NotText)) (s_nil))
theorem sc_value_text : FnScope N_value_text P_value_text (defScope st_value_text) := ⟨rfl, rfl, rfl, by decide +kernel, rfl, by decide +kernel, by decide +kernel⟩
theorem s_value_text {G : Gm} {k : Nat} (B : Tp G)  : SB G k ⟨defScope st_value_text, fun _ => true⟩ N_value_text (defBody st_value_text) (PT.d_value_text) :=
    s_one (P_ret (e_if (T_cmp c_is (e_var 0) (e_non)) (e_glob B.c_NULL) (e_strX (a_cons (e_var 0) (a_nil)) B.b_str)))
theorem sc_write_table : FnScope N_write_table P_write_table (defScope st_write_table) := ⟨rfl, rfl, rfl, by decide +kernel, rfl, by decide +kernel, by decide +kernel⟩
theorem s_write_table {G : Gm} {k : Nat} (B : Tp G) {j_check_tables : Nat} {f_check_tables : List Slot → Mn D} (F_check_tables : FO G j_check_tables "check_tables" 2 f_check_tables) (h_check_tables : j_check_tables ≤ k) {j_value_text : Nat} {f_value_text : List Slot → Mn D} (F_value_text : FO G j_value_text "value_text" 1 f_value_text) (h_value_text : j_value_text ≤ k) : SB G k ⟨defScope st_write_table, fun _ => true⟩ N_write_table (defBody st_write_table) (PT.d_write_table f_check_tables f_value_text) :=
    s_cons (P_expr (e_call F_check_tables (a_cons (e_var 0) (a_cons (e_tup (a_cons (e_var 1) (a_nil))) (a_nil))) h_check_tables))
    (s_cons (P_if (T_cmp c_eq (e_len (a_cons (e_var 1) (a_nil)) B.b_len) (e_int)) (s_one (P_ret (e_glob B.c_NO_ROW))) (s_nil))
    (s_one (P_ret (e_join (e_str) (e_lc [("row", 2)] (i_seq (e_var 1)) (g_name 2) (p_nil) (e_join (e_str) (e_lc [("value", 3)] (i_seq (e_var 2)) (g_name 3) (p_nil) (e_call F_value_text (a_cons (e_var 3) (a_nil)) h_value_text))))))))
theorem sc_read_table : FnScope N_read_table P_read_table (defScope st_read_table) := ⟨rfl, rfl, rfl, by decide +kernel, rfl, by decide +kernel, by decide +kernel⟩
theorem s_read_table {G : Gm} {k : Nat} (B : Tp G) {j_check_semantics : Nat} {f_check_semantics : List Slot → Mn D} (F_check_semantics : FO G j_check_semantics "check_semantics" 1 f_check_semantics) (h_check_semantics : j_check_semantics ≤ k) {j_check_text : Nat} {f_check_text : List Slot → Mn D} (F_check_text : FO G j_check_text "check_text" 1 f_check_text) (h_check_text : j_check_text ≤ k) {j__row_in : Nat} {f__row_in : List Slot → Mn D} (F__row_in : FO G j__row_in "_row_in" 1 f__row_in) (h__row_in : j__row_in ≤ k) {j_is_table : Nat} {f_is_table : List Slot → Mn D} (F_is_table : FO G j_is_table "is_table" 2 f_is_table) (h_is_table : j_is_table ≤ k) : SB G k ⟨defScope st_read_table, fun _ => true⟩ N_read_table (defBody st_read_table) (PT.d_read_table f_check_semantics f_check_text f__row_in f_is_table) :=
    s_cons (P_expr (e_call F_check_semantics (a_cons (e_var 0) (a_nil)) h_check_semantics))
    (s_cons (P_expr (e_call F_check_text (a_cons (e_var 1) (a_nil)) h_check_text))
    (s_cons (P_set 2 (e_if (T_cmp c_eq (e_var 1) (e_glob B.c_NO_ROW)) (e_tup (a_nil)) (e_tuple (a_cons (e_lcX [("part", 3)] (i_seq (e_split (e_var 1) (e_str))) (g_name 3) (e_call F__row_in (a_cons (e_var 3) (a_nil)) h__row_in)) (a_nil)) B.b_tuple)))
    (s_cons (P_if (t_not (t_val (e_call F_is_table (a_cons (e_var 0) (a_cons (e_var 2) (a_nil))) h_is_table))) (s_one (s_raise B.x_InvalidText)) (s_nil))
    (s_one (P_ret (e_var 2))))))
theorem sc__row_in : FnScope N__row_in P__row_in (defScope st__row_in) := ⟨rfl, rfl, rfl, by decide +kernel, rfl, by decide +kernel, by decide +kernel⟩
theorem s__row_in {G : Gm} {k : Nat} (B : Tp G) {j__number_in : Nat} {f__number_in : List Slot → Mn D} (F__number_in : FO G j__number_in "_number_in" 1 f__number_in) (h__number_in : j__number_in ≤ k) : SB G k ⟨defScope st__row_in, fun _ => true⟩ N__row_in (defBody st__row_in) (PT.d__row_in f__number_in) :=
    s_one (P_ret (e_tuple (a_cons (e_lcX [("word", 1)] (i_seq (e_split (e_var 0) (e_str))) (g_name 1) (e_if (T_cmp c_eq (e_var 1) (e_glob B.c_NULL)) (e_non) (e_call F__number_in (a_cons (e_var 1) (a_nil)) h__number_in))) (a_nil)) B.b_tuple))
theorem sc__number_in : FnScope N__number_in P__number_in (defScope st__number_in) := ⟨rfl, rfl, rfl, by decide +kernel, rfl, by decide +kernel, by decide +kernel⟩
theorem s__number_in {G : Gm} {k : Nat} (B : Tp G)  (hk : 1 ≤ k) : SB G k ⟨defScope st__number_in, fun _ => true⟩ N__number_in (defBody st__number_in) (PT.d__number_in) :=
    s_cons (P_if (T_cmp (c_nin hk) (e_var 0) (e_glob B.c_DIGITS)) (s_one (s_raise B.x_InvalidText)) (s_nil))
    (s_one (P_ret (e_tidx (ds := l_DIGITS) B.c_DIGITS B.z_DIGITS (e_var 0))))
theorem sc_write_filter : FnScope N_write_filter P_write_filter (defScope st_write_filter) := ⟨rfl, rfl, rfl, by decide +kernel, rfl, by decide +kernel, by decide +kernel⟩
theorem s_write_filter {G : Gm} {k : Nat} {j_check_filter : Nat} {f_check_filter : List Slot → Mn D} (F_check_filter : FO G j_check_filter "check_filter" 1 f_check_filter) (h_check_filter : j_check_filter ≤ k) {j__text_of : Nat} {f__text_of : List Slot → Mn D} (F__text_of : FO G j__text_of "_text_of" 1 f__text_of) (h__text_of : j__text_of ≤ k) : SB G k ⟨defScope st_write_filter, fun _ => true⟩ N_write_filter (defBody st_write_filter) (PT.d_write_filter f_check_filter f__text_of) :=
    s_cons (P_expr (e_call F_check_filter (a_cons (e_var 0) (a_nil)) h_check_filter))
    (s_one (P_ret (e_call F__text_of (a_cons (e_var 0) (a_nil)) h__text_of)))
theorem sc__text_of : FnScope N__text_of P__text_of (defScope st__text_of) := ⟨rfl, rfl, rfl, by decide +kernel, rfl, by decide +kernel, by decide +kernel⟩
theorem s__text_of {G : Gm} {k : Nat} (B : Tp G) {j__text_of : Nat} {f__text_of : List Slot → Mn D} (F__text_of : FO G j__text_of "_text_of" 1 f__text_of) (h__text_of : j__text_of ≤ k) : SB G k ⟨defScope st__text_of, fun _ => true⟩ N__text_of (defBody st__text_of) (PT.d__text_of f__text_of) :=
    s_cons (P_if (t_val (e_isi1 .tuple (e_var 0) PyProof.Rows.boot_tuple B.b_isinstance B.b_tuple)) (s_one (P_ret (e_join (e_str) (e_lc [("inner", 1)] (i_seq (e_var 0)) (g_name 1) (p_nil) (e_call F__text_of (a_cons (e_var 1) (a_nil)) h__text_of))))) (s_nil))
    (s_one (P_ret (e_strX (a_cons (e_var 0) (a_nil)) B.b_str)))
theorem sc_read_filter : FnScope N_read_filter P_read_filter (defScope st_read_filter) := ⟨rfl, rfl, rfl, by decide +kernel, rfl, by decide +kernel, by decide +kernel⟩
theorem s_read_filter {G : Gm} {k : Nat} (B : Tp G) {j_check_text : Nat} {f_check_text : List Slot → Mn D} (F_check_text : FO G j_check_text "check_text" 1 f_check_text) (h_check_text : j_check_text ≤ k) {j__parts_in : Nat} {f__parts_in : List Slot → Mn D} (F__parts_in : FO G j__parts_in "_parts_in" 1 f__parts_in) (h__parts_in : j__parts_in ≤ k) {j_is_filter : Nat} {f_is_filter : List Slot → Mn D} (F_is_filter : FO G j_is_filter "is_filter" 1 f_is_filter) (h_is_filter : j_is_filter ≤ k) : SB G k ⟨defScope st_read_filter, fun _ => true⟩ N_read_filter (defBody st_read_filter) (PT.d_read_filter f_check_text f__parts_in f_is_filter) :=
    s_cons (P_expr (e_call F_check_text (a_cons (e_var 0) (a_nil)) h_check_text))
    (s_cons (P_set 1 (e_split (e_var 0) (e_str)))
    (s_cons (P_if (T_cmp c_gt (e_len (a_cons (e_var 1) (a_nil)) B.b_len) (e_mulx (e_glob B.c_MOST_WORDS_OF_TUPLE) (e_glob B.c_MOST_TUPLES))) (s_one (s_raise B.x_InvalidText)) (s_nil))
    (s_cons (P_set 2 (e_call F__parts_in (a_cons (e_var 1) (a_nil)) h__parts_in))
    (s_cons (P_if (t_w (w_or (T_cmp c_ne (e_len (a_cons (e_var 2) (a_nil)) B.b_len) (e_int)) (w_or1 (t_not (t_val (e_call F_is_filter (a_cons (E_ix (e_var 2) (e_int)) (a_nil)) h_is_filter)))))) (s_one (s_raise B.x_InvalidText)) (s_nil))
    (s_one (P_ret (E_ix (e_var 2) (e_int))))))))
theorem sc__parts_in : FnScope N__parts_in P__parts_in (defScope st__parts_in) := ⟨rfl, rfl, rfl, by decide +kernel, rfl, by decide +kernel, by decide +kernel⟩
theorem s__parts_in {G : Gm} {k : Nat} (B : Tp G) {j__number_in : Nat} {f__number_in : List Slot → Mn D} (F__number_in : FO G j__number_in "_number_in" 1 f__number_in) (h__number_in : j__number_in ≤ k) : SB G k ⟨defScope st__parts_in, fun _ => true⟩ N__parts_in (defBody st__parts_in) (PT.d__parts_in f__number_in) :=
    s_cons (P_set 1 (e_lst (a_nil)))
    (s_cons (s_for false (i_rev (e_var 0) B.b_reversed) (g_name 2) (s_one (P_if (T_tin B.t_FORMS (e_tup (a_cons (e_str) (a_cons (e_var 2) (a_nil))))) (s_cons (P_set 3 (e_len (a_cons (E_tget B.t_FORMS (e_tup (a_cons (e_str) (a_cons (e_var 2) (a_nil))))) (a_nil)) B.b_len))
    (s_one (P_set 1 (e_lst (a_cons (e_tup (a_cons (e_var 2) (a_star (E_slHi (e_var 1) (e_var 3)) (a_nil)))) (a_star (E_slLo (e_var 1) (e_var 3)) (a_nil))))))) (s_one (P_set 1 (e_lst (a_cons (e_call F__number_in (a_cons (e_var 2) (a_nil)) h__number_in) (a_star (e_var 1) (a_nil)))))))))
    (s_one (P_ret (e_var 1))))
theorem sc__law_taken : FnScope N__law_taken P__law_taken (defScope st__law_taken) := ⟨rfl, rfl, rfl, by decide +kernel, rfl, by decide +kernel, by decide +kernel⟩
theorem sc__law_pick : FnScope N__law_pick P__law_pick (defScope st__law_pick) := ⟨rfl, rfl, rfl, by decide +kernel, rfl, by decide +kernel, by decide +kernel⟩
theorem s__law_pick {G : Gm} {k : Nat} (B : Tp G) {j__law_taken : Nat} {f__law_taken : List Slot → Mn D} (F__law_taken : FO G j__law_taken "_law_taken" 2 f__law_taken) (h__law_taken : j__law_taken ≤ k) : SB G k ⟨defScope st__law_pick, fun _ => true⟩ N__law_pick (defBody st__law_pick) (LW.d__law_pick f__law_taken) :=
    s_one (P_ret (E_ix (e_var 1) (e_call F__law_taken (a_row 0 (a_cons (e_len (a_cons (e_var 1) (a_nil)) B.b_len) (a_nil))) h__law_taken)))
theorem sc__law_alike : FnScope N__law_alike P__law_alike (defScope st__law_alike) := ⟨rfl, rfl, rfl, by decide +kernel, rfl, by decide +kernel, by decide +kernel⟩
theorem s__law_alike {G : Gm} {k : Nat} (B : Tp G) {j__law_alike : Nat} {f__law_alike : List Slot → Mn D} (F__law_alike : FO G j__law_alike "_law_alike" 2 f__law_alike) (h__law_alike : j__law_alike ≤ k) : SB G k ⟨defScope st__law_alike, fun _ => true⟩ N__law_alike (defBody st__law_alike) (LW.d__law_alike f__law_alike) :=
    s_cons (P_if (t_val (e_isi2 .tuple .list (e_var 1) PyProof.Rows.boot_tuple PyProof.Rows.boot_list B.b_isinstance B.b_tuple B.b_list)) (s_cons (P_if (t_w (w_or (t_not (t_val (e_isi2 .tuple .list (e_var 0) PyProof.Rows.boot_tuple PyProof.Rows.boot_list B.b_isinstance B.b_tuple B.b_list))) (w_or1 (T_cmp c_ne (e_isi1 .list (e_var 0) PyProof.Rows.boot_list B.b_isinstance B.b_list) (e_isi1 .list (e_var 1) PyProof.Rows.boot_list B.b_isinstance B.b_list))))) (s_one (P_ret (e_bl))) (s_nil))
    (s_cons (P_if (T_cmp c_ne (e_len (a_cons (e_var 0) (a_nil)) B.b_len) (e_len (a_cons (e_var 1) (a_nil)) B.b_len)) (s_one (P_ret (e_bl))) (s_nil))
    (s_one (P_ret (E_cmp c_eq (e_lc [("k", 2)] (i_range1 (a_cons (e_len (a_cons (e_var 1) (a_nil)) B.b_len) (a_nil)) B.b_range) (g_name 2) (p_one (t_not (t_val (e_call F__law_alike (a_cons (E_ix (e_var 0) (e_var 2)) (a_cons (E_ix (e_var 1) (e_var 2)) (a_nil))) h__law_alike)))) (e_var 2)) (e_lst (a_nil))))))) (s_nil))
    (s_cons (P_if (t_w (w_or (T_cmp c_is (e_var 1) (e_non)) (w_or1 (t_val (e_isi1 .str (e_var 1) PyProof.Rows.boot_str B.b_isinstance B.b_str))))) (s_one (P_ret (e_and (E_cmp c_eq (e_var 0) (e_var 1)) (e_or1 (E_cmp c_eq (e_isi1 .str (e_var 0) PyProof.Rows.boot_str B.b_isinstance B.b_str) (e_isi1 .str (e_var 1) PyProof.Rows.boot_str B.b_isinstance B.b_str)))))) (s_nil))
    (s_one (P_ret (e_and (e_isi1 .int (e_var 0) PyProof.Rows.boot_int B.b_isinstance B.b_int) (e_and (E_cmp c_eq (e_isi1 .bool (e_var 0) PyProof.Rows.boot_bool B.b_isinstance B.b_bool) (e_isi1 .bool (e_var 1) PyProof.Rows.boot_bool B.b_isinstance B.b_bool)) (e_or1 (E_cmp c_eq (e_var 0) (e_var 1))))))))
theorem sc__law_semantics : FnScope N__law_semantics P__law_semantics (defScope st__law_semantics) := ⟨rfl, rfl, rfl, by decide +kernel, rfl, by decide +kernel, by decide +kernel⟩
theorem s__law_semantics {G : Gm} {k : Nat} {j__law_pick : Nat} {f__law_pick : List Slot → Mn D} (F__law_pick : FO G j__law_pick "_law_pick" 2 f__law_pick) (h__law_pick : j__law_pick ≤ k) : SB G k ⟨defScope st__law_semantics, fun _ => true⟩ N__law_semantics (defBody st__law_semantics) (LW.d__law_semantics f__law_pick) :=
    s_cons (P_par 1 2 (a_cons (e_call F__law_pick (a_row 0 (a_cons (e_lst (a_cons (e_str) (a_cons (e_str) (a_cons (e_str) (a_nil))))) (a_nil))) h__law_pick) (a_cons (e_call F__law_pick (a_row 0 (a_cons (e_lst (a_cons (e_str) (a_cons (e_str) (a_nil)))) (a_nil))) h__law_pick) (a_nil))))
    (s_cons (P_par 3 4 (a_cons (e_call F__law_pick (a_row 0 (a_cons (e_lst (a_cons (e_str) (a_cons (e_str) (a_nil)))) (a_nil))) h__law_pick) (a_cons (e_call F__law_pick (a_row 0 (a_cons (e_lst (a_cons (e_str) (a_cons (e_str) (a_cons (e_str) (a_cons (e_str) (a_nil)))))) (a_nil))) h__law_pick) (a_nil))))
    (s_one (P_ret (e_tup (a_cons (e_var 1) (a_cons (e_var 2) (a_cons (e_var 3) (a_cons (e_var 4) (a_cons (e_call F__law_pick (a_row 0 (a_cons (e_lst (a_cons (e_str) (a_cons (e_str) (a_nil)))) (a_nil))) h__law_pick) (a_nil))))))))))
theorem sc__law_rank : FnScope N__law_rank P__law_rank (defScope st__law_rank) := ⟨rfl, rfl, rfl, by decide +kernel, rfl, by decide +kernel, by decide +kernel⟩
theorem s__law_rank {G : Gm} {k : Nat}  : SB G k ⟨defScope st__law_rank, fun _ => true⟩ N__law_rank (defBody st__law_rank) (LW.d__law_rank) :=
    s_one (P_ret (e_lc [("value", 1)] (i_seq (e_var 0)) (g_name 1) (p_nil) (e_if (T_cmp c_is (e_var 1) (e_non)) (e_int) (E_add (e_var 1) (e_int)))))
theorem sc__law_sorted : FnScope N__law_sorted P__law_sorted (defScope st__law_sorted) := ⟨rfl, rfl, rfl, by decide +kernel, rfl, by decide +kernel, by decide +kernel⟩
theorem s__law_sorted {G : Gm} {k : Nat} (B : Tp G) {j__law_rank : Nat} {f__law_rank : List Slot → Mn D} (F__law_rank : FO G j__law_rank "_law_rank" 1 f__law_rank) (h__law_rank : j__law_rank ≤ k) (hk : 1 ≤ k) : SB G k ⟨defScope st__law_sorted, fun _ => true⟩ N__law_sorted (defBody st__law_sorted) (LW.d__law_sorted f__law_rank) :=
    s_cons (s_own 1 (a_nil))
    (s_cons (s_for false (i_seq (e_sorted hk (a_cons (e_lc [("k", 4), ("line", 3)] (i_enum (a_cons (e_var 0) (a_nil)) B.b_enumerate) (g_tup [4, 3] (.cons (by rfl) (by rfl) (.cons (by rfl) (by rfl) (.nil)))) (p_nil) (e_tup (a_cons (e_call F__law_rank (a_cons (e_var 3) (a_nil)) h__law_rank) (a_cons (e_var 4) (a_nil))))) (a_nil)) B.b_sorted)) (g_tup [2, 3] (.cons (by rfl) (by rfl) (.cons (by rfl) (by rfl) (.nil)))) (s_one (s_app 1 (E_ix (e_var 0) (e_var 3)))))
    (s_one (s_ret (e_tuple (a_cons (e_var 1) (a_nil)) B.b_tuple))))
theorem sc__law_value : FnScope N__law_value P__law_value (defScope st__law_value) := ⟨rfl, rfl, rfl, by decide +kernel, rfl, by decide +kernel, by decide +kernel⟩
theorem s__law_value {G : Gm} {k : Nat} {j__law_taken : Nat} {f__law_taken : List Slot → Mn D} (F__law_taken : FO G j__law_taken "_law_taken" 2 f__law_taken) (h__law_taken : j__law_taken ≤ k) {j__law_pick : Nat} {f__law_pick : List Slot → Mn D} (F__law_pick : FO G j__law_pick "_law_pick" 2 f__law_pick) (h__law_pick : j__law_pick ≤ k) : SB G k ⟨defScope st__law_value, fun _ => true⟩ N__law_value (defBody st__law_value) (LW.d__law_value f__law_taken f__law_pick) :=
    s_cons (P_if (t_w (w_and (T_cmp c_ne (E_ix (e_var 1) (e_int)) (e_str)) (w_and1 (T_cmp c_eq (e_call F__law_taken (a_row 0 (a_cons (e_int) (a_nil))) h__law_taken) (e_int))))) (s_one (P_ret (e_non))) (s_nil))
    (s_one (P_ret (e_call F__law_pick (a_row 0 (a_cons (e_lst (a_cons (e_int) (a_cons (e_int) (a_cons (e_int) (a_cons (e_int) (a_cons (e_int) (a_cons (e_call F__law_taken (a_row 0 (a_cons (e_int) (a_nil))) h__law_taken) (a_nil)))))))) (a_nil))) h__law_pick)))
theorem sc__law_table : FnScope N__law_table P__law_table (defScope st__law_table) := ⟨rfl, rfl, rfl, by decide +kernel, rfl, by decide +kernel, by decide +kernel⟩
theorem s__law_table {G : Gm} {k : Nat} (B : Tp G) {j__law_taken : Nat} {f__law_taken : List Slot → Mn D} (F__law_taken : FO G j__law_taken "_law_taken" 2 f__law_taken) (h__law_taken : j__law_taken ≤ k) {j__law_pick : Nat} {f__law_pick : List Slot → Mn D} (F__law_pick : FO G j__law_pick "_law_pick" 2 f__law_pick) (h__law_pick : j__law_pick ≤ k) {j__law_value : Nat} {f__law_value : List Slot → Mn D} (F__law_value : FO G j__law_value "_law_value" 2 f__law_value) (h__law_value : j__law_value ≤ k) {j__law_sorted : Nat} {f__law_sorted : List Slot → Mn D} (F__law_sorted : FO G j__law_sorted "_law_sorted" 1 f__law_sorted) (h__law_sorted : j__law_sorted ≤ k) (hk : 1 ≤ k) : SB G k ⟨defScope st__law_table, fun _ => true⟩ N__law_table (defBody st__law_table) (LW.d__law_table f__law_taken f__law_pick f__law_value f__law_sorted) :=
    s_cons (s_own 3 (a_nil))
    (s_cons (s_for false (i_range1 (a_cons (e_call F__law_taken (a_row 0 (a_cons (E_add (e_var 2) (e_int)) (a_nil))) h__law_taken) (a_nil)) B.b_range) (g_name 4) (s_cons (s_set 5 (e_if (t_w (w_and (T_cmp c_ne (e_var 3) (e_lst (a_nil))) (w_and1 (T_cmp c_eq (e_call F__law_taken (a_row 0 (a_cons (e_int) (a_nil))) h__law_taken) (e_int))))) (e_call F__law_pick (a_row 0 (a_cons (e_var 3) (a_nil))) h__law_pick) (e_tup (a_cons (e_call F__law_value (a_row 0 (a_cons (e_var 1) (a_nil))) h__law_value) (a_cons (e_call F__law_value (a_row 0 (a_cons (e_var 1) (a_nil))) h__law_value) (a_nil))))))
    (s_one (s_if (t_w (w_or (T_cmp c_eq (E_ix (e_var 1) (e_int)) (e_str)) (w_or1 (T_cmp (c_nin hk) (e_var 5) (e_var 3))))) (s_one (s_app 3 (e_var 5))) (s_nil)))))
    (s_one (s_ret (e_call F__law_sorted (a_cons (e_var 3) (a_nil)) h__law_sorted))))
theorem sc__law_filter : FnScope N__law_filter P__law_filter (defScope st__law_filter) := ⟨rfl, rfl, rfl, by decide +kernel, rfl, by decide +kernel, by decide +kernel⟩
theorem s__law_filter {G : Gm} {k : Nat} (B : Tp G) {j__law_taken : Nat} {f__law_taken : List Slot → Mn D} (F__law_taken : FO G j__law_taken "_law_taken" 2 f__law_taken) (h__law_taken : j__law_taken ≤ k) {j__law_pick : Nat} {f__law_pick : List Slot → Mn D} (F__law_pick : FO G j__law_pick "_law_pick" 2 f__law_pick) (h__law_pick : j__law_pick ≤ k) {j__law_filter : Nat} {f__law_filter : List Slot → Mn D} (F__law_filter : FO G j__law_filter "_law_filter" 2 f__law_filter) (h__law_filter : j__law_filter ≤ k) : SB G k ⟨defScope st__law_filter, fun _ => true⟩ N__law_filter (defBody st__law_filter) (LW.d__law_filter f__law_taken f__law_pick f__law_filter) :=
    s_cons (P_set 2 (e_call F__law_taken (a_row 0 (a_cons (E_add (e_int) (e_mulx (e_int) (e_intc (a_cons (E_cmp c_gt (e_var 1) (e_int)) (a_nil)) B.b_int))) (a_nil))) h__law_taken))
    (s_cons (P_if (T_cmp c_lt (e_var 2) (e_int)) (s_cons (P_set 3 (e_call F__law_pick (a_row 0 (a_cons (e_lst (a_cons (e_str) (a_cons (e_str) (a_nil)))) (a_nil))) h__law_pick))
    (s_one (P_ret (E_ix (e_lst (a_cons (e_tup (a_cons (e_var 3) (a_cons (e_call F__law_taken (a_row 0 (a_cons (e_int) (a_nil))) h__law_taken) (a_cons (e_call F__law_taken (a_row 0 (a_cons (e_int) (a_nil))) h__law_taken) (a_nil))))) (a_cons (e_tup (a_cons (e_var 3) (a_cons (e_call F__law_taken (a_row 0 (a_cons (e_int) (a_nil))) h__law_taken) (a_cons (e_int) (a_nil))))) (a_cons (e_tup (a_cons (e_str) (a_nil))) (a_cons (e_tup (a_cons (e_str) (a_cons (e_call F__law_taken (a_row 0 (a_cons (e_int) (a_nil))) h__law_taken) (a_nil)))) (a_nil)))))) (e_var 2))))) (s_nil))
    (s_cons (P_if (T_cmp c_eq (e_var 2) (e_int)) (s_one (P_ret (e_tup (a_cons (e_str) (a_cons (e_int) (a_cons (e_int) (a_nil))))))) (s_nil))
    (s_cons (P_if (T_cmp c_eq (e_var 2) (e_int)) (s_one (P_ret (e_tup (a_cons (e_str) (a_cons (e_call F__law_filter (a_row 0 (a_cons (E_sub (e_var 1) (e_int)) (a_nil))) h__law_filter) (a_nil)))))) (s_nil))
    (s_one (P_ret (e_tup (a_cons (e_call F__law_pick (a_row 0 (a_cons (e_lst (a_cons (e_str) (a_cons (e_str) (a_nil)))) (a_nil))) h__law_pick) (a_cons (e_call F__law_filter (a_row 0 (a_cons (E_sub (e_var 1) (e_int)) (a_nil))) h__law_filter) (a_cons (e_call F__law_filter (a_row 0 (a_cons (E_sub (e_var 1) (e_int)) (a_nil))) h__law_filter) (a_nil))))))))))
theorem sc__law_words : FnScope N__law_words P__law_words (defScope st__law_words) := ⟨rfl, rfl, rfl, by decide +kernel, rfl, by decide +kernel, by decide +kernel⟩
theorem s__law_words {G : Gm} {k : Nat} (B : Tp G) {j__law_words : Nat} {f__law_words : List Slot → Mn D} (F__law_words : FO G j__law_words "_law_words" 1 f__law_words) (h__law_words : j__law_words ≤ k) : SB G k ⟨defScope st__law_words, fun _ => true⟩ N__law_words (defBody st__law_words) (LT.d__law_words f__law_words) :=
    s_one (P_ret (e_join (e_str) (E_add (e_lst (a_cons (E_ix (e_var 0) (e_int)) (a_nil))) (e_lc [("part", 1)] (i_seq (E_slLo (e_var 0) (e_int))) (g_name 1) (p_nil) (e_if (t_val (e_isi1 .tuple (e_var 1) PyProof.Rows.boot_tuple B.b_isinstance B.b_tuple)) (e_call F__law_words (a_cons (e_var 1) (a_nil)) h__law_words) (e_strX (a_cons (e_var 1) (a_nil)) B.b_str))))))
theorem sc_law : FnScope N_law P_law (defScope st_law) := ⟨rfl, rfl, rfl, by decide +kernel, rfl, by decide +kernel, by decide +kernel⟩
end K10
namespace PT
open PySem PySem.Spec PyProof.Rows L2 DL LW PW
abbrev fInt : Fs := dFun 2 2 PW.d_is_integer_to
abbrev fVu : Fs := dFun 2 2 (PW.d__is_value_under fInt)
abbrev fRow : Fs := dFun 2 3 (PW.d_is_row fVu)
abbrev fSem : Fs := dFun 1 3 PW.d_is_semantics
abbrev fChkS : Fs := dFun 1 1 (PW.d_check_semantics fSem)
abbrev fVo : Fs := dFun 1 1 PW.d_value_order
abbrev fOrd : Fs := dFun 1 2 (PW.d_row_order fVo)
abbrev fAsc : Fs := dFun 2 6 (PW.d__is_ascending fOrd)
abbrev fTab : Fs := dFun 2 3 (PW.d_is_table fChkS fRow fAsc)
abbrev fTxt : Fs := dFun 1 1 d_check_text
abbrev fNum : Fs := dFun 1 1 d__number_in
abbrev fRin : Fs := dFun 1 2 (d__row_in fNum)
abbrev fRt : Fs := dFun 2 4 (d_read_table fChkS fTxt fRin fTab)
abbrev fFits : Fs := dFun 2 2 (PW.d__fits fInt)
abbrev fForm : Fs := dFun 2 5 (PW.d__has_form fFits)
abbrev fInn : Fs := dFun 2 5 PW.d__inner_tuples
abbrev fTup : Fs := dFun 3 7 (PW.d_tuples_of fForm fInn)
abbrev fIsF : Fs := dFun 1 1 (PW.d_is_filter fTup)
abbrev fPar : Fs := dFun 1 4 (d__parts_in fNum)
abbrev fRf : Fs := dFun 1 3 (d_read_filter fTxt fPar fIsF)
def exN (x : Str) : Mn D := fun rs => some (.exc x none, rs)
def badT : List Str := ["", "--", "0", "0,", ",0", "0,0;1,1", "0,0; ", "0,0 ; 1,1", "10,0", "-1,0", "0,0,0", "Null,0", "1,0; 0,1", " 0,0", "0, 0", "0,0;  1,1", "00,1", "0,0; -", "x,0", "None,0"]
def badF : List Str := ["", "less", "less 0", "less 0 10", "less 2 0", "less 0 1 2", "same 0", "not", "not same same", "and same", "or same same same", "null", "null 2", "null null", "Same", "same "]
def badF2 : List Str := ([" same", "less  0 1", "p", "equal 0 null", "not not", "and same less 0", "less 00 1", "same same"] : List Str) ++ [repS 20 "not " ++ "same"]
theorem rt_all (a b c : Bool) (n : N3) (e : Bool) (rs : RS) : badT.map (fun w => fRt [.dat (wayD a b c n e), .dat (.str w)] rs) = badT.map fun _ => some (.exc "InvalidText" none, rs) := by
  cases a <;> cases b <;> cases c <;> cases n <;> cases e <;> kernel_rfl
theorem rt_bad (a b c : Bool) (n : N3) (e : Bool) (w : Str) (h : w ∈ badT) : fRt [.dat (wayD a b c n e), .dat (.str w)] = exN "InvalidText" := funext fun rs => List.map_inj_left.mp (rt_all a b c n e rs) w h
theorem rt_null (a b c e : Bool) : fRt [.dat (wayD a b c .none e), .dat (.str "null,0")] = exN "InvalidText" := funext fun rs => by
  cases a <;> cases b <;> cases c <;> cases e <;> kernel_rfl
theorem rt_twice (b c : Bool) (n : N3) (e : Bool) : fRt [.dat (wayD false b c n e), .dat (.str "0,0; 0,0")] = exN "InvalidText" := funext fun rs => by
  cases b <;> cases c <;> cases n <;> cases e <;> kernel_rfl
theorem rf_all (rs : RS) : (badF ++ badF2).map (fun w => fRf [.dat (.str w)] rs) = (badF ++ badF2).map fun _ => some (.exc "InvalidText" none, rs) := by kernel_rfl
theorem rf_bad (w : Str) (h : w ∈ badF ++ badF2) : fRf [.dat (.str w)] = exN "InvalidText" := funext fun rs => List.map_inj_left.mp (rf_all rs) w h
end PT
noncomputable section
namespace K10
open PySem PySem.Spec PyProof.Rows L2 DL LL LamX
abbrev lawAt (j : Nat) : Stmt := (defBody st_law).getD j (.Pass ⟨0, 0, 0, 0⟩)
abbrev sxL : Sx := ⟨defScope st_law, fun _ => true⟩
theorem scbad : FnScope Nbad ["work"] (defScope st__law_wrong) := ⟨rfl, rfl, rfl, by decide +kernel, rfl, by decide +kernel, by decide +kernel⟩
theorem gvbad {G : Gm} {CS CI CT : Addr} (B : Tp G) (F : WrF G CS CI CT) (X : Cx) (g : Addr) (cdg : Value) (q : Str) (hK : X.K = G.K) (hmg : X.mg = G.mg) : GivesTo X Nbad "_law_wrong" (defScope st__law_wrong) g cdg (defBody st__law_wrong) "work" q (TTw CI CT) :=
  wrong_gives hK hmg F B.b_isinstance scbad rfl rfl rfl rfl rfl
def lamC : Expr → Expr
  | .Call _ [.Lambda _ b _ _] _ _ => b
  | _ => .Constant .none 0 ⟨0, 0, 0, 0⟩
def lamSc : Expr → Scope
  | .Call _ [.Lambda _ _ s _] _ _ => s
  | _ => defScope st_law
/-- the call of _law_wrong that a statement holds -/
def wrongOf : Stmt → Expr
  | .If (.Compare a _ _ _) _ _ _ => a
  | .If (.BoolOp _ [_, .Compare a _ _ _] _) _ _ _ => a
  | .Return (some (.Compare a _ _ _)) _ => a
  | _ => .Constant .none 0 ⟨0, 0, 0, 0⟩
def c1 (f__law_filter f__law_semantics f__law_table f__law_alike f_read_table f_write_table f_read_filter f__law_words f_write_filter : LW.Fs) : Ev → Ms :=
    sFor false (dRng rng1 (dCons (dLit (.int 4)) (dNil))) (.name 2) (seqM (pTgt (.tup [5, 6]) (dTup (dCons (dCl 1 f__law_semantics (dRow 1 (dNil))) (dCons (dCl 2 f__law_filter (dRow 1 (dCons (dLit (.int 3)) (dNil)))) (dNil)))))
    (seqM (pSet 7 (dCl 3 f__law_table (dRow 1 (dCons (dVar 5) (dCons (dLit (.int 6)) (dNil))))))
    (seqM (pSet 8 (dMtS joinD (dLit (.str "; ")) (dComp [9] (dItm (dVar 7)) (.name 9) (dYes) (dBin addD (dBin addD (dIf (dCmp isD (dBin ixD (dVar 9) (dLit (.int 0))) (dLit .none)) (dLit (.str "null")) (dFn strX (dCons (dBin ixD (dVar 9) (dLit (.int 0))) (dNil)))) (dLit (.str ","))) (dIf (dCmp isD (dBin ixD (dVar 9) (dLit (.int 1))) (dLit .none)) (dLit (.str "null")) (dFn strX (dCons (dBin ixD (dVar 9) (dLit (.int 1))) (dNil))))))))
    (seqM (pSet 8 (dIf (dCmp neD (dVar 7) (dTup (dNil))) (dVar 8) (dLit (.str "-"))))
    (seqM (pIf (dOr (dNot (dTru (dCl 2 f__law_alike (dCons (dCl 2 f_write_table (dCons (dVar 5) (dCons (dVar 7) (dNil)))) (dCons (dVar 8) (dNil)))))) (dNot (dTru (dCl 2 f__law_alike (dCons (dCl 2 f_read_table (dCons (dVar 5) (dCons (dVar 8) (dNil)))) (dCons (dVar 7) (dNil))))))) (pRet (dLit (.bool false))) (sNil))
    (pIf (dOr (dNot (dTru (dCl 2 f__law_alike (dCons (dCl 1 f_write_filter (dCons (dVar 6) (dNil))) (dCons (dCl 1 f__law_words (dCons (dVar 6) (dNil))) (dNil)))))) (dNot (dTru (dCl 2 f__law_alike (dCons (dCl 1 f_read_filter (dCons (dCl 1 f__law_words (dCons (dVar 6) (dNil))) (dNil))) (dCons (dVar 6) (dNil))))))) (pRet (dLit (.bool false))) (sNil)))))))
theorem s_1 {G : Gm} {k : Nat} (B : Tp G) (hk : 1 ≤ k) {j__law_filter : Nat} {f__law_filter : List Slot → Mn D} (F__law_filter : FO G j__law_filter "_law_filter" 2 f__law_filter) (h__law_filter : j__law_filter ≤ k) {j__law_semantics : Nat} {f__law_semantics : List Slot → Mn D} (F__law_semantics : FO G j__law_semantics "_law_semantics" 1 f__law_semantics) (h__law_semantics : j__law_semantics ≤ k) {j__law_table : Nat} {f__law_table : List Slot → Mn D} (F__law_table : FO G j__law_table "_law_table" 3 f__law_table) (h__law_table : j__law_table ≤ k) {j__law_alike : Nat} {f__law_alike : List Slot → Mn D} (F__law_alike : FO G j__law_alike "_law_alike" 2 f__law_alike) (h__law_alike : j__law_alike ≤ k) {j_read_table : Nat} {f_read_table : List Slot → Mn D} (F_read_table : FO G j_read_table "read_table" 2 f_read_table) (h_read_table : j_read_table ≤ k) {j_write_table : Nat} {f_write_table : List Slot → Mn D} (F_write_table : FO G j_write_table "write_table" 2 f_write_table) (h_write_table : j_write_table ≤ k) {j_read_filter : Nat} {f_read_filter : List Slot → Mn D} (F_read_filter : FO G j_read_filter "read_filter" 1 f_read_filter) (h_read_filter : j_read_filter ≤ k) {j__law_words : Nat} {f__law_words : List Slot → Mn D} (F__law_words : FO G j__law_words "_law_words" 1 f__law_words) (h__law_words : j__law_words ≤ k) {j_write_filter : Nat} {f_write_filter : List Slot → Mn D} (F_write_filter : FO G j_write_filter "write_filter" 1 f_write_filter) (h_write_filter : j_write_filter ≤ k) : SS G k sxL N_law (lawAt 1) (c1 f__law_filter f__law_semantics f__law_table f__law_alike f_read_table f_write_table f_read_filter f__law_words f_write_filter) :=
    s_for false (i_range1 (a_cons (e_int) (a_nil)) B.b_range) (g_name 2) (s_cons (P_tgt (e_tup (a_cons (e_call F__law_semantics (a_row 1 (a_nil)) h__law_semantics) (a_cons (e_call F__law_filter (a_row 1 (a_cons (e_int) (a_nil))) h__law_filter) (a_nil)))) (g_tup [5, 6] (.cons (by rfl) (by rfl) (.cons (by rfl) (by rfl) (.nil)))))
    (s_cons (P_set 7 (e_call F__law_table (a_row 1 (a_cons (e_var 5) (a_cons (e_int) (a_nil)))) h__law_table))
    (s_cons (P_set 8 (e_join (e_str) (e_lc [("line", 9)] (i_seq (e_var 7)) (g_name 9) (p_nil) (E_add (E_add (e_if (T_cmp c_is (E_ix (e_var 9) (e_int)) (e_non)) (e_str) (e_strX (a_cons (E_ix (e_var 9) (e_int)) (a_nil)) B.b_str)) (e_str)) (e_if (T_cmp c_is (E_ix (e_var 9) (e_int)) (e_non)) (e_str) (e_strX (a_cons (E_ix (e_var 9) (e_int)) (a_nil)) B.b_str))))))
    (s_cons (P_set 8 (e_if (T_cmp c_ne (e_var 7) (e_tup (a_nil))) (e_var 8) (e_str)))
    (s_cons (P_if (t_w (w_or (t_not (t_val (e_call F__law_alike (a_cons (e_call F_write_table (a_cons (e_var 5) (a_cons (e_var 7) (a_nil))) h_write_table) (a_cons (e_var 8) (a_nil))) h__law_alike))) (w_or1 (t_not (t_val (e_call F__law_alike (a_cons (e_call F_read_table (a_cons (e_var 5) (a_cons (e_var 8) (a_nil))) h_read_table) (a_cons (e_var 7) (a_nil))) h__law_alike)))))) (s_one (P_ret (e_bl))) (s_nil))
    (s_one (P_if (t_w (w_or (t_not (t_val (e_call F__law_alike (a_cons (e_call F_write_filter (a_cons (e_var 6) (a_nil)) h_write_filter) (a_cons (e_call F__law_words (a_cons (e_var 6) (a_nil)) h__law_words) (a_nil))) h__law_alike))) (w_or1 (t_not (t_val (e_call F__law_alike (a_cons (e_call F_read_filter (a_cons (e_call F__law_words (a_cons (e_var 6) (a_nil)) h__law_words) (a_nil)) h_read_filter) (a_cons (e_var 6) (a_nil))) h__law_alike)))))) (s_one (P_ret (e_bl))) (s_nil))))))))
def c2 : Ev → Ms :=
    pSet 3 (dLst (dCons (dLit (.str "")) (dCons (dLit (.str "--")) (dCons (dLit (.str "0")) (dCons (dLit (.str "0,")) (dCons (dLit (.str ",0")) (dCons (dLit (.str "0,0;1,1")) (dCons (dLit (.str "0,0; ")) (dCons (dLit (.str "0,0 ; 1,1")) (dCons (dLit (.str "10,0")) (dCons (dLit (.str "-1,0")) (dCons (dLit (.str "0,0,0")) (dCons (dLit (.str "Null,0")) (dCons (dLit (.str "1,0; 0,1")) (dCons (dLit (.str " 0,0")) (dCons (dLit (.str "0, 0")) (dCons (dLit (.str "0,0;  1,1")) (dCons (dLit (.str "00,1")) (dCons (dLit (.str "0,0; -")) (dCons (dLit (.str "x,0")) (dCons (dLit (.str "None,0")) (dNil))))))))))))))))))))))
theorem s_2 {G : Gm} {k : Nat} (B : Tp G) (hk : 1 ≤ k)  : SS G k sxL N_law (lawAt 2) (c2 ) :=
    P_set 3 (e_lst (a_cons (e_str) (a_cons (e_str) (a_cons (e_str) (a_cons (e_str) (a_cons (e_str) (a_cons (e_str) (a_cons (e_str) (a_cons (e_str) (a_cons (e_str) (a_cons (e_str) (a_cons (e_str) (a_cons (e_str) (a_cons (e_str) (a_cons (e_str) (a_cons (e_str) (a_cons (e_str) (a_cons (e_str) (a_cons (e_str) (a_cons (e_str) (a_cons (e_str) (a_nil))))))))))))))))))))))
def l3 (f_read_table f__law_taken : LW.Fs) : Ev → Mn D := dCl 2 f_read_table (dCons (dVar 5) (dCons (dBin ixD (dVar 3) (dCl 2 f__law_taken (dRow 1 (dCons (dLit (.int 20)) (dNil))))) (dNil)))
theorem e_l3 {G : Gm} {k : Nat} (B : Tp G) {j_read_table : Nat} {f_read_table : List Slot → Mn D} (F_read_table : FO G j_read_table "read_table" 2 f_read_table) (h_read_table : j_read_table ≤ k) {j__law_taken : Nat} {f__law_taken : List Slot → Mn D} (F__law_taken : FO G j__law_taken "_law_taken" 2 f__law_taken) (h__law_taken : j__law_taken ≤ k) : SE G k ⟨lamSc (wrongOf (lawAt 3)), fun _ => false⟩ N_law (lamC (wrongOf (lawAt 3))) (l3 f_read_table f__law_taken) :=
    e_call F_read_table (a_cons (e_var 5) (a_cons (E_ix (e_var 3) (e_call F__law_taken (a_row 1 (a_cons (e_int) (a_nil))) h__law_taken)) (a_nil))) h_read_table
def c3 (f_read_table f__law_taken : LW.Fs) : Ev → ML Unit RsL :=
    ifL (tcL neD (dWr (l3 f_read_table f__law_taken)) (dLit (.str "invalid"))) (upS (pRet (dLit (.bool false)))) nilL
theorem s_3 {G : Gm} {E : Ex Unit} {k : Nat} {CS CI CT : Addr} (B : Tp G) (F : WrF G CS CI CT) (W : FnW G "_law_wrong" st__law_wrong) {j_read_table : Nat} {f_read_table : List Slot → Mn D} (F_read_table : FO G j_read_table "read_table" 2 f_read_table) (h_read_table : j_read_table ≤ k) {j__law_taken : Nat} {f__law_taken : List Slot → Mn D} (F__law_taken : FO G j__law_taken "_law_taken" 2 f__law_taken) (h__law_taken : j__law_taken ≤ k) : SSL G E (k + 2) sxL N_law (lawAt 3) (c3 f_read_table f__law_taken) :=
    s_ifL (T_cmpL c_ne (e_lamW F W scbad (.inl rfl) (fun X g cdg q hK hmg => gvbad B F X g cdg q hK hmg) (lamS_by rfl) (e_l3 B F_read_table h_read_table F__law_taken h__law_taken)) e_str) (s_oneL (sL (P_ret e_bl))) s_nilL
def l4 (f_read_table : LW.Fs) : Ev → Mn D := dCl 2 f_read_table (dCons (dVar 5) (dCons (dLit (.str "null,0")) (dNil)))
theorem e_l4 {G : Gm} {k : Nat} (B : Tp G) {j_read_table : Nat} {f_read_table : List Slot → Mn D} (F_read_table : FO G j_read_table "read_table" 2 f_read_table) (h_read_table : j_read_table ≤ k) : SE G k ⟨lamSc (wrongOf (lawAt 4)), fun _ => false⟩ N_law (lamC (wrongOf (lawAt 4))) (l4 f_read_table) :=
    e_call F_read_table (a_cons (e_var 5) (a_cons (e_str) (a_nil))) h_read_table
def c4 (f_read_table : LW.Fs) : Ev → ML Unit RsL :=
    ifL (andL (upT (dCmp eqD (dBin ixD (dVar 5) (dLit (.int 3))) (dLit (.str "none")))) (tcL neD (dWr (l4 f_read_table)) (dLit (.str "invalid")))) (upS (pRet (dLit (.bool false)))) nilL
theorem s_4 {G : Gm} {E : Ex Unit} {k : Nat} {CS CI CT : Addr} (B : Tp G) (F : WrF G CS CI CT) (W : FnW G "_law_wrong" st__law_wrong) {j_read_table : Nat} {f_read_table : List Slot → Mn D} (F_read_table : FO G j_read_table "read_table" 2 f_read_table) (h_read_table : j_read_table ≤ k) : SSL G E (k + 2) sxL N_law (lawAt 4) (c4 f_read_table) :=
    s_ifL (t_wL (w_andL (tL (T_cmp c_eq (E_ix (e_var 5) (e_int)) (e_str))) (w_andL1 (T_cmpL c_ne (e_lamW F W scbad (.inl rfl) (fun X g cdg q hK hmg => gvbad B F X g cdg q hK hmg) (lamS_by rfl) (e_l4 B F_read_table h_read_table)) e_str)))) (s_oneL (sL (P_ret e_bl))) s_nilL
def l5 (f_read_table : LW.Fs) : Ev → Mn D := dCl 2 f_read_table (dCons (dVar 5) (dCons (dLit (.str "0,0; 0,0")) (dNil)))
theorem e_l5 {G : Gm} {k : Nat} (B : Tp G) {j_read_table : Nat} {f_read_table : List Slot → Mn D} (F_read_table : FO G j_read_table "read_table" 2 f_read_table) (h_read_table : j_read_table ≤ k) : SE G k ⟨lamSc (wrongOf (lawAt 5)), fun _ => false⟩ N_law (lamC (wrongOf (lawAt 5))) (l5 f_read_table) :=
    e_call F_read_table (a_cons (e_var 5) (a_cons (e_str) (a_nil))) h_read_table
def c5 (f_read_table : LW.Fs) : Ev → ML Unit RsL :=
    ifL (andL (upT (dCmp eqD (dBin ixD (dVar 5) (dLit (.int 0))) (dLit (.str "set")))) (tcL neD (dWr (l5 f_read_table)) (dLit (.str "invalid")))) (upS (pRet (dLit (.bool false)))) nilL
theorem s_5 {G : Gm} {E : Ex Unit} {k : Nat} {CS CI CT : Addr} (B : Tp G) (F : WrF G CS CI CT) (W : FnW G "_law_wrong" st__law_wrong) {j_read_table : Nat} {f_read_table : List Slot → Mn D} (F_read_table : FO G j_read_table "read_table" 2 f_read_table) (h_read_table : j_read_table ≤ k) : SSL G E (k + 2) sxL N_law (lawAt 5) (c5 f_read_table) :=
    s_ifL (t_wL (w_andL (tL (T_cmp c_eq (E_ix (e_var 5) (e_int)) (e_str))) (w_andL1 (T_cmpL c_ne (e_lamW F W scbad (.inl rfl) (fun X g cdg q hK hmg => gvbad B F X g cdg q hK hmg) (lamS_by rfl) (e_l5 B F_read_table h_read_table)) e_str)))) (s_oneL (sL (P_ret e_bl))) s_nilL
def c6 : Ev → Ms :=
    pSet 3 (dLst (dCons (dLit (.str "")) (dCons (dLit (.str "less")) (dCons (dLit (.str "less 0")) (dCons (dLit (.str "less 0 10")) (dCons (dLit (.str "less 2 0")) (dCons (dLit (.str "less 0 1 2")) (dCons (dLit (.str "same 0")) (dCons (dLit (.str "not")) (dCons (dLit (.str "not same same")) (dCons (dLit (.str "and same")) (dCons (dLit (.str "or same same same")) (dCons (dLit (.str "null")) (dCons (dLit (.str "null 2")) (dCons (dLit (.str "null null")) (dCons (dLit (.str "Same")) (dCons (dLit (.str "same ")) (dNil))))))))))))))))))
theorem s_6 {G : Gm} {k : Nat} (B : Tp G) (hk : 1 ≤ k)  : SS G k sxL N_law (lawAt 6) (c6 ) :=
    P_set 3 (e_lst (a_cons (e_str) (a_cons (e_str) (a_cons (e_str) (a_cons (e_str) (a_cons (e_str) (a_cons (e_str) (a_cons (e_str) (a_cons (e_str) (a_cons (e_str) (a_cons (e_str) (a_cons (e_str) (a_cons (e_str) (a_cons (e_str) (a_cons (e_str) (a_cons (e_str) (a_cons (e_str) (a_nil))))))))))))))))))
def c7 : Ev → Ms :=
    pSet 3 (dBin addD (dVar 3) (dLst (dCons (dLit (.str " same")) (dCons (dLit (.str "less  0 1")) (dCons (dLit (.str "p")) (dCons (dLit (.str "equal 0 null")) (dCons (dLit (.str "not not")) (dCons (dLit (.str "and same less 0")) (dCons (dLit (.str "less 00 1")) (dCons (dLit (.str "same same")) (dCons (dBin addD (dBin mulS (dLit (.str "not ")) (dLit (.int 20))) (dLit (.str "same"))) (dNil))))))))))))
theorem s_7 {G : Gm} {k : Nat} (B : Tp G) (hk : 1 ≤ k)  : SS G k sxL N_law (lawAt 7) (c7 ) :=
    P_set 3 (E_add (e_var 3) (e_lst (a_cons (e_str) (a_cons (e_str) (a_cons (e_str) (a_cons (e_str) (a_cons (e_str) (a_cons (e_str) (a_cons (e_str) (a_cons (e_str) (a_cons (E_add (e_mulS (e_str) (e_int)) (e_str)) (a_nil))))))))))))
def l8 (f_read_filter f__law_taken : LW.Fs) : Ev → Mn D := dCl 1 f_read_filter (dCons (dBin ixD (dVar 3) (dCl 2 f__law_taken (dRow 1 (dCons (dLit (.int 25)) (dNil))))) (dNil))
theorem e_l8 {G : Gm} {k : Nat} (B : Tp G) {j_read_filter : Nat} {f_read_filter : List Slot → Mn D} (F_read_filter : FO G j_read_filter "read_filter" 1 f_read_filter) (h_read_filter : j_read_filter ≤ k) {j__law_taken : Nat} {f__law_taken : List Slot → Mn D} (F__law_taken : FO G j__law_taken "_law_taken" 2 f__law_taken) (h__law_taken : j__law_taken ≤ k) : SE G k ⟨lamSc (wrongOf (lawAt 8)), fun _ => false⟩ N_law (lamC (wrongOf (lawAt 8))) (l8 f_read_filter f__law_taken) :=
    e_call F_read_filter (a_cons (E_ix (e_var 3) (e_call F__law_taken (a_row 1 (a_cons (e_int) (a_nil))) h__law_taken)) (a_nil)) h_read_filter
def c8 (f_read_filter f__law_taken : LW.Fs) : Ev → ML Unit RsL :=
    ifL (tcL neD (dWr (l8 f_read_filter f__law_taken)) (dLit (.str "invalid"))) (upS (pRet (dLit (.bool false)))) nilL
theorem s_8 {G : Gm} {E : Ex Unit} {k : Nat} {CS CI CT : Addr} (B : Tp G) (F : WrF G CS CI CT) (W : FnW G "_law_wrong" st__law_wrong) {j_read_filter : Nat} {f_read_filter : List Slot → Mn D} (F_read_filter : FO G j_read_filter "read_filter" 1 f_read_filter) (h_read_filter : j_read_filter ≤ k) {j__law_taken : Nat} {f__law_taken : List Slot → Mn D} (F__law_taken : FO G j__law_taken "_law_taken" 2 f__law_taken) (h__law_taken : j__law_taken ≤ k) : SSL G E (k + 2) sxL N_law (lawAt 8) (c8 f_read_filter f__law_taken) :=
    s_ifL (T_cmpL c_ne (e_lamW F W scbad (.inl rfl) (fun X g cdg q hK hmg => gvbad B F X g cdg q hK hmg) (lamS_by rfl) (e_l8 B F_read_filter h_read_filter F__law_taken h__law_taken)) e_str) (s_oneL (sL (P_ret e_bl))) s_nilL
def c9 (f__law_pick : LW.Fs) : Ev → Ms :=
    pSet 4 (dCl 2 f__law_pick (dRow 1 (dCons (dLst (dCons (dLit .none) (dCons (dLit (.int 5)) (dCons (dVar 7) (dCons (dLst (dCons (dLit (.str "same")) (dNil))) (dCons (dLit (.bool true)) (dNil))))))) (dNil))))
theorem s_9 {G : Gm} {k : Nat} (B : Tp G) (hk : 1 ≤ k) {j__law_pick : Nat} {f__law_pick : List Slot → Mn D} (F__law_pick : FO G j__law_pick "_law_pick" 2 f__law_pick) (h__law_pick : j__law_pick ≤ k) : SS G k sxL N_law (lawAt 9) (c9 f__law_pick) :=
    P_set 4 (e_call F__law_pick (a_row 1 (a_cons (e_lst (a_cons (e_non) (a_cons (e_int) (a_cons (e_var 7) (a_cons (e_lst (a_cons (e_str) (a_nil))) (a_cons (e_bl) (a_nil))))))) (a_nil))) h__law_pick)
def l10 (f_read_filter : LW.Fs) : Ev → Mn D := dCl 1 f_read_filter (dCons (dVar 4) (dNil))
theorem e_l10 {G : Gm} {k : Nat} (B : Tp G) {j_read_filter : Nat} {f_read_filter : List Slot → Mn D} (F_read_filter : FO G j_read_filter "read_filter" 1 f_read_filter) (h_read_filter : j_read_filter ≤ k) : SE G k ⟨lamSc (wrongOf (lawAt 10)), fun _ => false⟩ N_law (lamC (wrongOf (lawAt 10))) (l10 f_read_filter) :=
    e_call F_read_filter (a_cons (e_var 4) (a_nil)) h_read_filter
def c10 (f_read_filter : LW.Fs) : Ev → ML Unit RsL :=
    ifL (tcL neD (dWr (l10 f_read_filter)) (dLit (.str "text"))) (upS (pRet (dLit (.bool false)))) nilL
theorem s_10 {G : Gm} {E : Ex Unit} {k : Nat} {CS CI CT : Addr} (B : Tp G) (F : WrF G CS CI CT) (W : FnW G "_law_wrong" st__law_wrong) {j_read_filter : Nat} {f_read_filter : List Slot → Mn D} (F_read_filter : FO G j_read_filter "read_filter" 1 f_read_filter) (h_read_filter : j_read_filter ≤ k) : SSL G E (k + 2) sxL N_law (lawAt 10) (c10 f_read_filter) :=
    s_ifL (T_cmpL c_ne (e_lamW F W scbad (.inl rfl) (fun X g cdg q hK hmg => gvbad B F X g cdg q hK hmg) (lamS_by rfl) (e_l10 B F_read_filter h_read_filter)) e_str) (s_oneL (sL (P_ret e_bl))) s_nilL
def l11 (f_read_table : LW.Fs) : Ev → Mn D := dCl 2 f_read_table (dCons (dVar 5) (dCons (dVar 4) (dNil)))
theorem e_l11 {G : Gm} {k : Nat} (B : Tp G) {j_read_table : Nat} {f_read_table : List Slot → Mn D} (F_read_table : FO G j_read_table "read_table" 2 f_read_table) (h_read_table : j_read_table ≤ k) : SE G k ⟨lamSc (wrongOf (lawAt 11)), fun _ => false⟩ N_law (lamC (wrongOf (lawAt 11))) (l11 f_read_table) :=
    e_call F_read_table (a_cons (e_var 5) (a_cons (e_var 4) (a_nil))) h_read_table
def c11 (f_read_table : LW.Fs) : Ev → ML Unit RsL :=
    retL fun ev rs x => (tcL eqD (dWr (l11 f_read_table)) (dLit (.str "text")) ev rs x).map fun q => (.bool q.1, q.2)
theorem s_11 {G : Gm} {E : Ex Unit} {k : Nat} {CS CI CT : Addr} (B : Tp G) (F : WrF G CS CI CT) (W : FnW G "_law_wrong" st__law_wrong) {j_read_table : Nat} {f_read_table : List Slot → Mn D} (F_read_table : FO G j_read_table "read_table" 2 f_read_table) (h_read_table : j_read_table ≤ k) : SSL G E (k + 2) sxL N_law (lawAt 11) (c11 f_read_table) :=
    s_retL (E_cmpL c_eq (e_lamW F W scbad (.inl rfl) (fun X g cdg q hK hmg => gvbad B F X g cdg q hK hmg) (lamS_by rfl) (e_l11 B F_read_table h_read_table)) e_str)
end K10
noncomputable section
namespace K10
open PySem PySem.Spec PyProof.Rows L2 DL LW PW PT LL
def t1 (f__law_filter f__law_semantics : LW.Fs) : Ev → Ms :=
    pTgt (.tup [5, 6]) (dTup (dCons (dCl 1 f__law_semantics (dRow 1 (dNil))) (dCons (dCl 2 f__law_filter (dRow 1 (dCons (dLit (.int 3)) (dNil)))) (dNil))))
def t2 (f__law_table : LW.Fs) : Ev → Ms :=
    pSet 7 (dCl 3 f__law_table (dRow 1 (dCons (dVar 5) (dCons (dLit (.int 6)) (dNil)))))
def t3 : Ev → Ms :=
    pSet 8 (dMtS joinD (dLit (.str "; ")) (dComp [9] (dItm (dVar 7)) (.name 9) (dYes) (dBin addD (dBin addD (dIf (dCmp isD (dBin ixD (dVar 9) (dLit (.int 0))) (dLit .none)) (dLit (.str "null")) (dFn strX (dCons (dBin ixD (dVar 9) (dLit (.int 0))) (dNil)))) (dLit (.str ","))) (dIf (dCmp isD (dBin ixD (dVar 9) (dLit (.int 1))) (dLit .none)) (dLit (.str "null")) (dFn strX (dCons (dBin ixD (dVar 9) (dLit (.int 1))) (dNil)))))))
def t4 : Ev → Ms :=
    pSet 8 (dIf (dCmp neD (dVar 7) (dTup (dNil))) (dVar 8) (dLit (.str "-")))
def t5 (f__law_alike f_read_table f_write_table : LW.Fs) : Ev → Ms :=
    pIf (dOr (dNot (dTru (dCl 2 f__law_alike (dCons (dCl 2 f_write_table (dCons (dVar 5) (dCons (dVar 7) (dNil)))) (dCons (dVar 8) (dNil)))))) (dNot (dTru (dCl 2 f__law_alike (dCons (dCl 2 f_read_table (dCons (dVar 5) (dCons (dVar 8) (dNil)))) (dCons (dVar 7) (dNil))))))) (pRet (dLit (.bool false))) (sNil)
def t6 (f__law_alike f_read_filter f__law_words f_write_filter : LW.Fs) : Ev → Ms :=
    pIf (dOr (dNot (dTru (dCl 2 f__law_alike (dCons (dCl 1 f_write_filter (dCons (dVar 6) (dNil))) (dCons (dCl 1 f__law_words (dCons (dVar 6) (dNil))) (dNil)))))) (dNot (dTru (dCl 2 f__law_alike (dCons (dCl 1 f_read_filter (dCons (dCl 1 f__law_words (dCons (dVar 6) (dNil))) (dNil))) (dCons (dVar 6) (dNil))))))) (pRet (dLit (.bool false))) (sNil)
def turnB (f__law_filter f__law_semantics f__law_table f__law_alike f_read_table f_write_table f_read_filter f__law_words f_write_filter : LW.Fs) : Ev → Ms :=
    seqM (t1 f__law_filter f__law_semantics) (seqM (t2 f__law_table) (seqM (t3) (seqM (t4) (seqM (t5 f__law_alike f_read_table f_write_table) (t6 f__law_alike f_read_filter f__law_words f_write_filter)))))
end K10
namespace PX
open PySem PySem.Spec PyProof.Rows L2 DL LW
inductive Nd where
  | c (x : Cnd)
  | e (x : Ex)
def Nd.d : Nd → D
  | .c x => x.d
  | .e x => x.d
def Nd.kind : Nd → String
  | .c _ => "condition"
  | .e _ => "expression"
def Nd.inner : Nd → List Nd
  | .c (.not k) => [.c k]
  | .c (.and k l) => [.c k, .c l]
  | .c (.or k l) => [.c k, .c l]
  | .c .p => []
  | .c .q => []
  | .e (.tab _) => []
  | .e (.op _ a b) => [.e a, .e b]
  | .e (.flt k a) => [.c k, .e a]
def Nd.size : Nd → Nat
  | .c x => x.size
  | .e x => x.size
@[simp] theorem gi_e : kinD PW.k_GREATEST (.str "expression") = some false := by simp [kinD, PW.k_GREATEST, List.lookup]
@[simp] theorem gi_c : kinD PW.k_GREATEST (.str "condition") = some false := by simp [kinD, PW.k_GREATEST, List.lookup]
@[simp] theorem gi_p : kinD PW.k_GREATEST (.str "place") = some true := by simp [kinD, PW.k_GREATEST, List.lookup]
@[simp] theorem gg_p : kgetD PW.k_GREATEST (.str "place") = some (.int 1) := by simp [kgetD, PW.k_GREATEST, List.lookup]
theorem fget {k w : String} {d : D} (h : List.lookup [Str.ofString k, Str.ofString w] PW.t_FORMS = some d) : tgetD PW.t_FORMS (.tuple [.str (Str.ofString k), .str (Str.ofString w)]) = some d := by
  show List.lookup [Str.ofString k, Str.ofString w] PW.t_FORMS = some d
  exact h
theorem fnin {k w : String} {d : D} (h : List.lookup [Str.ofString k, Str.ofString w] PW.t_FORMS = some d) : tninD PW.t_FORMS (.tuple [.str (Str.ofString k), .str (Str.ofString w)]) = some false := by
  show some (!(List.lookup [Str.ofString k, Str.ofString w] PW.t_FORMS).isSome) = some false
  rw [h]; rfl
theorem lk_c_p : List.lookup [Str.ofString "condition", Str.ofString "p"] PW.t_FORMS = some (.tuple []) := by simp [PW.t_FORMS, List.lookup]
@[simp] theorem fg_c_p : tgetD PW.t_FORMS (.tuple [.str "condition", .str "p"]) = some (.tuple []) := fget lk_c_p
@[simp] theorem fn_c_p : tninD PW.t_FORMS (.tuple [.str "condition", .str "p"]) = some false := fnin lk_c_p
theorem lk_c_q : List.lookup [Str.ofString "condition", Str.ofString "q"] PW.t_FORMS = some (.tuple []) := by simp [PW.t_FORMS, List.lookup]
@[simp] theorem fg_c_q : tgetD PW.t_FORMS (.tuple [.str "condition", .str "q"]) = some (.tuple []) := fget lk_c_q
@[simp] theorem fn_c_q : tninD PW.t_FORMS (.tuple [.str "condition", .str "q"]) = some false := fnin lk_c_q
theorem lk_c_not : List.lookup [Str.ofString "condition", Str.ofString "not"] PW.t_FORMS = some (.tuple [.str "condition"]) := by simp [PW.t_FORMS, List.lookup]
@[simp] theorem fg_c_not : tgetD PW.t_FORMS (.tuple [.str "condition", .str "not"]) = some (.tuple [.str "condition"]) := fget lk_c_not
@[simp] theorem fn_c_not : tninD PW.t_FORMS (.tuple [.str "condition", .str "not"]) = some false := fnin lk_c_not
theorem lk_c_and : List.lookup [Str.ofString "condition", Str.ofString "and"] PW.t_FORMS = some (.tuple [.str "condition", .str "condition"]) := by simp [PW.t_FORMS, List.lookup]
@[simp] theorem fg_c_and : tgetD PW.t_FORMS (.tuple [.str "condition", .str "and"]) = some (.tuple [.str "condition", .str "condition"]) := fget lk_c_and
@[simp] theorem fn_c_and : tninD PW.t_FORMS (.tuple [.str "condition", .str "and"]) = some false := fnin lk_c_and
theorem lk_c_or : List.lookup [Str.ofString "condition", Str.ofString "or"] PW.t_FORMS = some (.tuple [.str "condition", .str "condition"]) := by simp [PW.t_FORMS, List.lookup]
@[simp] theorem fg_c_or : tgetD PW.t_FORMS (.tuple [.str "condition", .str "or"]) = some (.tuple [.str "condition", .str "condition"]) := fget lk_c_or
@[simp] theorem fn_c_or : tninD PW.t_FORMS (.tuple [.str "condition", .str "or"]) = some false := fnin lk_c_or
theorem lk_e_table : List.lookup [Str.ofString "expression", Str.ofString "table"] PW.t_FORMS = some (.tuple [.str "place"]) := by simp [PW.t_FORMS, List.lookup]
@[simp] theorem fg_e_table : tgetD PW.t_FORMS (.tuple [.str "expression", .str "table"]) = some (.tuple [.str "place"]) := fget lk_e_table
@[simp] theorem fn_e_table : tninD PW.t_FORMS (.tuple [.str "expression", .str "table"]) = some false := fnin lk_e_table
theorem lk_e_union : List.lookup [Str.ofString "expression", Str.ofString "union"] PW.t_FORMS = some (.tuple [.str "expression", .str "expression"]) := by simp [PW.t_FORMS, List.lookup]
@[simp] theorem fg_e_union : tgetD PW.t_FORMS (.tuple [.str "expression", .str "union"]) = some (.tuple [.str "expression", .str "expression"]) := fget lk_e_union
@[simp] theorem fn_e_union : tninD PW.t_FORMS (.tuple [.str "expression", .str "union"]) = some false := fnin lk_e_union
theorem lk_e_intersection : List.lookup [Str.ofString "expression", Str.ofString "intersection"] PW.t_FORMS = some (.tuple [.str "expression", .str "expression"]) := by simp [PW.t_FORMS, List.lookup]
@[simp] theorem fg_e_intersection : tgetD PW.t_FORMS (.tuple [.str "expression", .str "intersection"]) = some (.tuple [.str "expression", .str "expression"]) := fget lk_e_intersection
@[simp] theorem fn_e_intersection : tninD PW.t_FORMS (.tuple [.str "expression", .str "intersection"]) = some false := fnin lk_e_intersection
theorem lk_e_difference : List.lookup [Str.ofString "expression", Str.ofString "difference"] PW.t_FORMS = some (.tuple [.str "expression", .str "expression"]) := by simp [PW.t_FORMS, List.lookup]
@[simp] theorem fg_e_difference : tgetD PW.t_FORMS (.tuple [.str "expression", .str "difference"]) = some (.tuple [.str "expression", .str "expression"]) := fget lk_e_difference
@[simp] theorem fn_e_difference : tninD PW.t_FORMS (.tuple [.str "expression", .str "difference"]) = some false := fnin lk_e_difference
theorem lk_e_filter : List.lookup [Str.ofString "expression", Str.ofString "filter"] PW.t_FORMS = some (.tuple [.str "condition", .str "expression"]) := by simp [PW.t_FORMS, List.lookup]
@[simp] theorem fg_e_filter : tgetD PW.t_FORMS (.tuple [.str "expression", .str "filter"]) = some (.tuple [.str "condition", .str "expression"]) := fget lk_e_filter
@[simp] theorem fn_e_filter : tninD PW.t_FORMS (.tuple [.str "expression", .str "filter"]) = some false := fnin lk_e_filter
end PX
namespace PX
open PySem PySem.Spec PyProof.Rows L2 DL LW
def Nd.word : Nd → String
  | .c .p => "p"
  | .c .q => "q"
  | .c (.not _) => "not"
  | .c (.and _ _) => "and"
  | .c (.or _ _) => "or"
  | .e (.tab _) => "table"
  | .e (.op w _ _) => w.s
  | .e (.flt _ _) => "filter"
end PX
namespace LZ
open PySem PySem.Spec PyProof.Rows L2 DL
end LZ
namespace PW
open PySem PySem.Spec PyProof.Rows L2 DL LW
theorem TabOk.lim {a : Bool} {n : N3} {rs : List LW.Row} (T : TabOk a n rs) : rs.length ≤ LW.lim := Nat.le_trans T.len (by rw [lim_eq]; decide)
theorem TabOk.sq {a : Bool} {n : N3} {xs ys : List LW.Row} (T : TabOk a n xs) (U : TabOk a n ys) : (xs.length + ys.length) * (xs.length + ys.length) ≤ LW.lim := by
  have h : xs.length + ys.length ≤ 24 := by have := T.len; have := U.len; omega
  exact Nat.le_trans (Nat.mul_le_mul h h) (by rw [lim_eq]; decide)
theorem TabOk.two {a : Bool} {n : N3} {xs : List LW.Row} (T : TabOk a n xs) : LW.two xs := fun r hr => ok_two (T.ok r hr)
theorem chkF {f : Fs} (h : SpIsFilter f) : ∀ x : Flt, x.ok = true → x.size ≤ 20 → dFun 1 1 (d_check_filter f) [.dat x.d] = pur .none := by
  intro x h1 h2
  simp [dFun_eq, d_check_filter, h x h1 h2, truD]
end PW
namespace PW
open PySem PySem.Spec PyProof.Rows L2 DL LW
theorem mtch_eq {n : N3} {k l : Vl} (h : isT (mtch n k l) = true) : k = l := by
  cases k with
  | nul =>
    cases l with
    | nul => rfl
    | int j => cases n <;> simp [mtch, Vl.isN, N3.unk, isT] at h
  | int i =>
    cases l with
    | nul => cases n <;> simp [mtch, Vl.isN, N3.unk, isT] at h
    | int j =>
      by_cases e : i = j
      · rw [e]
      · cases n <;> simp [mtch, Vl.isN, N3.unk, isT, e] at h
theorem join_nodup {n : N3} {xs ys : List LW.Row} (hx : ∀ r ∈ xs, okRow n r) (hy : ∀ r ∈ ys, okRow n r) (nx : xs.Nodup) (ny : ys.Nodup) : (joinR n xs ys).Nodup := by
  unfold joinR
  refine List.pairwise_flatMap.mpr ⟨fun r hr => ?_, ?_⟩
  · unfold joinOne
    rw [List.pairwise_map]
    refine List.Pairwise.imp_of_mem (fun {s t} hs ht ne => ?_) (List.Pairwise.filter _ ny)
    intro e
    obtain ⟨u, v, rfl, _⟩ := hx r hr
    obtain ⟨hs1, hs2⟩ := List.mem_filter.mp hs
    obtain ⟨ht1, ht2⟩ := List.mem_filter.mp ht
    obtain ⟨a, b, rfl, _⟩ := hy s hs1
    obtain ⟨c, d, rfl, _⟩ := hy t ht1
    have e1 : u = a := mtch_eq hs2
    have e2 : u = c := mtch_eq ht2
    have e3 : b = d := by simpa using e
    exact ne (by rw [← e1, ← e2, e3])
  · refine List.Pairwise.imp_of_mem (fun {p q} hp hq ne => ?_) nx
    intro x h1 y h2 e
    obtain ⟨s, _, rfl⟩ := List.mem_map.mp h1
    obtain ⟨t, _, rfl⟩ := List.mem_map.mp h2
    obtain ⟨u, v, rfl, _⟩ := hx p hp
    obtain ⟨u', v', rfl, _⟩ := hx q hq
    exact ne (List.append_inj e rfl).1
/-- the value of a drawn table -/
theorem tab_of {a : Bool} {n : N3} {most : Nat} {rs : List LW.Row} (h : IsTab a n most rs) (hm : most ≤ 12) : TabOk a n (srtR rs) := by
  obtain ⟨h1, h2, h3⟩ := h
  exact ⟨by rw [(srt_perm rs).length_eq]; omega, fun r hr => h2 r ((srt_perm rs).mem_iff.mp hr), srt_sorted rs, fun ha => (srt_perm rs).nodup_iff.mpr (h3 ha)⟩
theorem TabOk.short {a : Bool} {n : N3} {rs : List LW.Row} (T : TabOk a n rs) : ∀ r ∈ rs, r.length ≤ LW.lim := fun r hr => by
  obtain ⟨u, v, rfl, _⟩ := T.ok r hr
  rw [lim_eq]
  simp
end PW
namespace PW
open PySem PySem.Spec PyProof.Rows L2 DL LW
structure Rw (w : Nat) (a : Bool) (n : N3) (rs : List LW.Row) : Prop where
  row : ∀ r ∈ rs, r.length = w ∧ ∀ v ∈ r, Vl.okU n v = true
  nd : a = false → rs.Nodup
section
variable {w : Nat} {a b c : Bool} {n : N3} {rs xs ys : List LW.Row}
theorem Rw.fair (h : Rw w a n rs) (h0 : 0 < w) (h3 : w ≤ 3) : Fair rs :=
  ⟨fun r hr => ⟨fun e => by have := (h.row r hr).1; rw [e] at this; simp at this; omega, by rw [(h.row r hr).1, lim_eq]; omega⟩, fun r hr v hv => okU_nn ((h.row r hr).2 v hv)⟩
theorem Rw.ok2 (h : Rw 2 a n rs) : ∀ r ∈ rs, okRow n r := fun r hr => by
  obtain ⟨h1, h2⟩ := h.row r hr
  rcases r with _ | ⟨u, _ | ⟨v, _ | ⟨x, t⟩⟩⟩
  · simp at h1
  · simp at h1
  · exact ⟨u, v, rfl, h2 u (by simp), h2 v (by simp)⟩
  · simp at h1
theorem Rw.of2 (h : ∀ r ∈ rs, okRow n r) (nd : a = false → rs.Nodup) : Rw 2 a n rs := ⟨fun r hr => by
  obtain ⟨u, v, rfl, hu, hv⟩ := h r hr
  refine ⟨rfl, fun x hx => ?_⟩
  simp only [List.mem_cons, List.not_mem_nil, or_false] at hx
  rcases hx with rfl | rfl <;> assumption, nd⟩
theorem Rw.two (h : Rw 2 a n rs) : LW.two rs := fun r hr => ok_two (h.ok2 r hr)
theorem Rw.sub (h : Rw w a n rs) {ss : List LW.Row} (s : ss.Sublist rs) : Rw w a n ss := ⟨fun r hr => h.row r (s.subset hr), fun e => (h.nd e).sublist s⟩
theorem Rw.srt (h : Rw w a n rs) : Rw w a n (srtR rs) := ⟨fun r hr => h.row r ((srt_perm rs).mem_iff.mp hr), fun e => (srt_perm rs).nodup_iff.mpr (h.nd e)⟩
theorem Rw.once (h : Rw w a n rs) : Rw w a n (srtR (onceR rs)) := Rw.srt ⟨fun r hr => h.row r ((once_sub _ [] r hr).resolve_left (by simp)), fun _ => (once_mem rs [] List.nodup_nil).1⟩
theorem join_rows (hx : Rw 2 a n xs) (hy : Rw 2 a n ys) : Rw 3 a n (joinR n xs ys) := by
  refine ⟨fun r hr => ?_, fun e => join_nodup hx.ok2 hy.ok2 (hx.nd e) (hy.nd e)⟩
  obtain ⟨s, hs, h⟩ := List.mem_flatMap.mp hr
  obtain ⟨t, ht, rfl⟩ := List.mem_map.mp h
  obtain ⟨u, v, rfl, hu, hv⟩ := hx.ok2 s hs
  obtain ⟨x, y, rfl, hx', hy'⟩ := hy.ok2 t (List.mem_filter.mp ht).1
  refine ⟨rfl, fun z hz => ?_⟩
  simp only [List.drop_succ_cons, List.drop_zero, List.cons_append, List.nil_append, List.mem_cons, List.not_mem_nil, or_false] at hz
  rcases hz with rfl | rfl | rfl <;> assumption
/-- a join of sets has no doubles -/
theorem join_same (hx : Rw 2 a n xs) (hy : Rw 2 a n ys) : srtR (if a = true then joinR n xs ys else onceR (joinR n xs ys)) = srtR (joinR n xs ys) := by
  cases a with
  | true => rfl
  | false =>
    have f := fair_join hx.ok2 hy.ok2
    exact (srt_once f.nn (join_nodup hx.ok2 hy.ok2 (hx.nd rfl) (hy.nd rfl)) fun r => Iff.rfl).symm
theorem Rw.join (hx : Rw 2 a n xs) (hy : Rw 2 a n ys) : Rw 3 a n (srtR (if a = true then joinR n xs ys else onceR (joinR n xs ys))) := by
  rw [join_same hx hy]
  exact (join_rows hx hy).srt
theorem TabOk.rw {rs : List LW.Row} (T : TabOk a n rs) : Rw 2 a n rs := Rw.of2 T.ok T.nd
end
end PW
namespace PW
open PySem PySem.Spec PyProof.Rows L2 DL LW
inductive Wd where
  | uni | int | dif | sel | prj | prs | jn | semi | anti | notin | tot | cnt | dis | pls | no | et | vel
  deriving DecidableEq
def Wd.s : Wd → String
  | .uni => "union" | .int => "intersection" | .dif => "difference" | .sel => "select" | .prj => "project" | .prs => "pairs" | .jn => "join"
  | .semi => "semijoin" | .anti => "antijoin" | .notin => "not_in" | .tot => "total" | .cnt => "count" | .dis => "distinct" | .pls => "plus"
  | .no => "not" | .et => "and" | .vel => "or"
inductive Sd where
  | v (s : String)
  | u (w : Wd) (x : Sd)
  | b (w : Wd) (x y : Sd)
def Sd.d : Sd → D
  | .v s => .str (Str.ofString s)
  | .u w x => .tuple [.str (Str.ofString w.s), x.d]
  | .b w x y => .tuple [.str (Str.ofString w.s), x.d, y.d]
inductive Va where
  | T (w l : Nat) (rs : List LW.Row)
  | F (k : Nat) (x : Flt)
  | N (i : Option Int)
def Va.d : Va → D
  | .T _ _ rs => rowsT rs
  | .F _ x => x.d
  | .N i => oiD i
def Va.Ok (a : Bool) (n : N3) : Va → Prop
  | .T w l rs => Rw w a n rs ∧ rs.length ≤ l ∧ 0 < w ∧ w ≤ 3 ∧ l ≤ 900
  | .F k x => x.size ≤ k
  | .N _ => True
def plusO : Option Int → Option Int → Option Int
  | some i, some j => some (i + j)
  | _, _ => none
def cutS (a : Bool) (m : Nat) (rs : List LW.Row) : List LW.Row := srtR (if a = true then cutR m rs else onceR (cutR m rs))
def bothS (a b c : Bool) (o : Op3) (xs ys : List LW.Row) : List LW.Row := srtR (bothR a b c o xs ys)
def joinS (n : N3) (xs ys : List LW.Row) : List LW.Row := srtR (joinR n xs ys)
def onceS (xs : List LW.Row) : List LW.Row := srtR (onceR xs)
section
variable (a b c : Bool) (n : N3) (e : Bool)
def appO (o : Op3) : Va → Va → Option Va
  | .T w l xs, .T w' m ys => if w = w' ∧ l + m ≤ 900 then some (.T w (l + m) (bothS a b c o xs ys)) else none
  | _, _ => none
def appK (o : Kp3) : Va → Va → Option Va
  | .T w l xs, .T w' m ys => if w = 2 ∧ w' = 2 then some (.T 2 l (keptR n o xs ys)) else none
  | _, _ => none
def app1 : Wd → Va → Option Va
  | .prj, .T w l rs => if w = 2 then some (.T 1 l (cutS a 1 rs)) else none
  | .prs, .T w l rs => if w = 3 then some (.T 2 l (cutS a 2 rs)) else none
  | .tot, .T w l rs => if w = 2 then some (.N (totR e rs)) else none
  | .cnt, .T w l rs => some (.N (some ((rs.length : Nat) : Int)))
  | .dis, .T w l rs => some (.T w l (onceS rs))
  | .no, .F k x => if k ≤ 19 then some (.F (k + 1) (.not x)) else none
  | _, _ => none
def app2 : Wd → Va → Va → Option Va
  | .uni, x, y => appO a b c .uni x y
  | .int, x, y => appO a b c .int x y
  | .dif, x, y => appO a b c .dif x y
  | .semi, x, y => appK n .semi x y
  | .anti, x, y => appK n .anti x y
  | .notin, x, y => appK n .notin x y
  | .sel, .T w l xs, .F k x => if w = 2 ∧ k ≤ 20 then some (.T 2 l (selR n x xs)) else none
  | .jn, .T w l xs, .T w' m ys => if w = 2 ∧ w' = 2 ∧ l * m ≤ 900 then some (.T 3 (l * m) (joinS n xs ys)) else none
  | .pls, .N i, .N j => some (.N (plusO i j))
  | .et, .F k x, .F l y => if k + l ≤ 19 then some (.F (k + l + 1) (.and x y)) else none
  | .vel, .F k x, .F l y => if k + l ≤ 19 then some (.F (k + l + 1) (.or x y)) else none
  | _, _, _ => none
def Sd.val (env : List (String × Va)) : Sd → Option Va
  | .v s => env.lookup s
  | .u w x => (x.val env).bind fun p => app1 a e w p
  | .b w x y => (x.val env).bind fun p => (y.val env).bind fun q => app2 a b c n w p q
end
section
variable {a b c : Bool} {n : N3} {e : Bool}
theorem sq_ok {l m : Nat} (h : l + m ≤ 900) : (l + m) * (l + m) ≤ lim := Nat.le_trans (Nat.mul_le_mul h h) (by rw [lim_eq]; decide)
end
end PW
namespace PW
open PySem PySem.Spec PyProof.Rows L2 DL LW
theorem lim900 {m : Nat} (h : m ≤ 900) : m ≤ lim := by rw [lim_eq]; omega
section
end
end PW
namespace PW
open PySem PySem.Spec PyProof.Rows L2 DL LW
structure Idn where
  name : String
  l : Sd
  r : Sd
def Sd.nms : Sd → List String
  | .v s => [s]
  | .u _ x => x.nms
  | .b _ x y => x.nms ++ y.nms
def Idn.names (i : Idn) : List String := ["A", "B", "C", "p", "q"].filter fun s => decide (s ∈ i.l.nms ++ i.r.nms)
def wordOf (s : String) : String := if s ∈ ["A", "B", "C"] then "table" else "filter"
end PW
namespace PW
open PySem PySem.Spec PyProof.Rows L2 DL LW
end PW
namespace PW
open PySem PySem.Spec PyProof.Rows L2 DL LW
structure Ar where
  xs : List LW.Row
  ys : List LW.Row
  zs : List LW.Row
  p : Flt
  q : Flt
def Ar.at (A : Ar) (s : String) : Va := if s = "A" then .T 2 12 A.xs else if s = "B" then .T 2 12 A.ys else if s = "C" then .T 2 12 A.zs else if s = "p" then .F 3 A.p else .F 3 A.q
structure Ar.Ok (A : Ar) (a : Bool) (n : N3) : Prop where
  x : TabOk a n A.xs
  y : TabOk a n A.ys
  z : TabOk a n A.zs
  p1 : A.p.ok = true
  p2 : A.p.size ≤ 3
  q1 : A.q.ok = true
  q2 : A.q.size ≤ 3
def Ar.env (A : Ar) (l : List String) : List (String × Va) := l.map fun s => (s, A.at s)
def Ar.tup (A : Ar) (l : List String) : D := .tuple (l.map fun s => (A.at s).d)
end PW
namespace PW
open PySem PySem.Spec PyProof.Rows L2 DL LW
section
variable {a b c : Bool} {n : N3} {e : Bool} {f : Fs}
theorem ok_lim {w l : Nat} {xs : List LW.Row} (h : (Va.T w l xs).Ok a n) : xs.length ≤ 900 := Nat.le_trans h.2.1 h.2.2.2.2
theorem ok_row {w l : Nat} {xs : List LW.Row} (h : (Va.T w l xs).Ok a n) : ∀ r ∈ xs, r.length ≤ lim := fun r hr => by
  have := (h.1.row r hr).1
  have := h.2.2.2.1
  rw [lim_eq]; omega
theorem lb (h : SpBoth f) (o : Op3) {w l m : Nat} {us vs : List LW.Row} (hu : (Va.T w l us).Ok a n) (hv : (Va.T w m vs).Ok a n) (g : l + m ≤ 900) : f [.dat (wayD a b c n e), .dat (.str (Str.ofString o.s)), .dat (rowsT us), .dat (rowsT vs)] = pur (rowsT (bothS a b c o us vs)) :=
  h a b c n e o us vs (sq_ok (by have := hu.2.1; have := hv.2.1; omega)) (ok_row hu) (ok_row hv)
theorem lk (h : SpKept f) (o : Kp3) {l m : Nat} {us vs : List LW.Row} (hu : (Va.T 2 l us).Ok a n) (hv : (Va.T 2 m vs).Ok a n) : f [.dat (wayD a b c n e), .dat (rowsT us), .dat (rowsT vs), .dat (.str (Str.ofString o.s))] = pur (rowsT (keptR n o us vs)) :=
  h a b c n e us vs o (lim900 (ok_lim hu)) (lim900 (ok_lim hv)) hu.1.two hv.1.two
theorem lc (h : SpCut f) (k : Nat) {w l : Nat} {us : List LW.Row} (hu : (Va.T w l us).Ok a n) : f [.dat (wayD a b c n e), .dat (rowsT us), .dat (.int (k : Nat))] = pur (rowsT (cutS a k us)) :=
  h a b c n e us k (lim900 (ok_lim hu)) (ok_row hu)
theorem lo (h : SpOnce f) {w l : Nat} {us : List LW.Row} (hu : (Va.T w l us).Ok a n) : f [.dat (rowsT us)] = pur (rowsT (onceS us)) := (h us (lim900 (ok_lim hu)) (ok_row hu)).2
theorem lt (h : SpTotal f) {l : Nat} {us : List LW.Row} (hu : (Va.T 2 l us).Ok a n) : f [.dat (wayD a b c n e), .dat (rowsT us)] = pur (oiD (totR e us)) := h a b c n e us (lim900 (ok_lim hu)) hu.1.two
theorem rw_good {us : List LW.Row} (h : Rw 2 a n us) : LW.good us := fun r hr => by
  obtain ⟨u, v, e, hu, hv⟩ := h.ok2 r hr
  exact ⟨u, v, e, okU_nn hu, okU_nn hv⟩
theorem ls (h : SpSelect f 20) {l : Nat} {us : List LW.Row} (hu : (Va.T 2 l us).Ok a n) (x : Flt) (d : D) (h1 : x.ok = true) (h2 : x.size ≤ 20) (hd : x.d = d) : f [.dat (wayD a b c n e), .dat (rowsT us), .dat d] = pur (rowsT (selR n x us)) := by
  subst hd
  exact h a b c n e us x (lim900 (ok_lim hu)) (rw_good hu.1) h1 h2
end
end PW
namespace PW
open PySem PySem.Spec PyProof.Rows L2 DL LW
section
end
def GoodA (a : Bool) (n : N3) (s : String) (d : D) : Prop := if wordOf s = "table" then ∃ xs, TabOk a n xs ∧ d = rowsT xs else ∃ x : Flt, d = x.d ∧ x.ok = true ∧ x.size ≤ 3
def GoodL (a : Bool) (n : N3) : List String → List D → Prop
  | [], [] => True
  | s :: l, d :: ds => GoodA a n s d ∧ GoodL a n l ds
  | _, _ => False
theorem GoodL.len {a : Bool} {n : N3} : ∀ {l : List String} {ds : List D}, GoodL a n l ds → ds.length = l.length
  | [], [], _ => rfl
  | t :: l, e :: ds, g => by simp [GoodL.len g.2]
  | [], _ :: _, g => g.elim
  | _ :: _, [], g => g.elim
end PW
namespace PX
open PySem PySem.Spec PyProof.Rows L2 DL LW
section
end
end PX
namespace PW
open PySem PySem.Spec PyProof.Rows L2 DL LW
section
end
end PW
namespace PX
open PySem PySem.Spec PyProof.Rows L2 DL LW
section
end
end PX
namespace PX
open PySem PySem.Spec PyProof.Rows L2 DL LW
end PX
namespace PX
open PySem PySem.Spec PyProof.Rows L2 DL LW
end PX
namespace PX
open PySem PySem.Spec PyProof.Rows L2 DL LW
end PX
namespace PX
open PySem PySem.Spec PyProof.Rows L2 DL LW
end PX
namespace PX
open PySem PySem.Spec PyProof.Rows L2 DL LW
end PX
namespace PT
open PySem PySem.Spec PyProof.Rows L2 DL LW PW
abbrev fVt : Fs := dFun 1 1 d_value_text
abbrev fChkT : Fs := dFun 2 4 (PW.d_check_tables fTab)
abbrev fWt : Fs := dFun 2 4 (d_write_table fChkT fVt)
abbrev fChkF : Fs := dFun 1 1 (PW.d_check_filter fIsF)
theorem chkS_sp : SpChkS fChkS := chkS sem
theorem tab_sp : SpTab fTab := tab_ok chkS_sp (is_row (vu int_to)) (asc_ok (row_ord vo))
theorem chkT_sp : SpChkT fChkT := chkT tab_sp
theorem isF_sp : SpIsFilter fIsF := is_filter (tuples_ok (has_form (fits int_to)) inner_f)
theorem chkF_sp : ∀ x : Flt, x.ok = true → x.size ≤ 20 → fChkF [.dat x.d] = pur .none := chkF isF_sp
theorem rt_sp : SpRt fRt := rt_ok chkS_sp txt_ok (ri_ok numb_ok) tab_sp
theorem wt_sp : SpWt fWt := wt_ok chkT_sp vt_ok
theorem rf_sp : SpRf fRf := rf_ok txt_ok (parts_ok numb_ok) isF_sp
def NoTx (d : D) : Prop := d = .none ∨ d = .int 5 ∨ (∃ X, d = .tuple X) ∨ (∃ X, d = .list X) ∨ d = .bool true
theorem rt_no (a b c : Bool) (n : N3) (e : Bool) {d : D} (h : NoTx d) : fRt [.dat (wayD a b c n e), .dat d] = exN "NotText" := funext fun rs => by
  rcases h with rfl | rfl | ⟨X, rfl⟩ | ⟨X, rfl⟩ | rfl <;> (cases a <;> cases b <;> cases c <;> cases n <;> cases e <;> kernel_rfl)
theorem rf_no {d : D} (h : NoTx d) : fRf [.dat d] = exN "NotText" := funext fun rs => by
  rcases h with rfl | rfl | ⟨X, rfl⟩ | ⟨X, rfl⟩ | rfl <;> kernel_rfl
structure SpAlX (f : Fs) (m : Nat) : Prop where
  m : SpAlikeM f m
  s : ∀ x : Str, PyData.strOk x = true → f [.dat (.str x), .dat (.str x)] = pur (.bool true)
theorem alike_str {f : Fs} {x : Str} (h : PyData.strOk x = true) : dFun 2 3 (d__law_alike f) [.dat (.str x), .dat (.str x)] = pur (.bool true) := by
  have s1 : SeqAt.shaped (.str x) = true := by
    show (PyData.canLay0 (.str x) && decide (PyData.depth (.str x) ≤ 64)) = true
    simp [PyData.canLay0, PyData.depth, h]
  have e : eqD (.str x) (.str x) = some true := by
    unfold eqD
    rw [if_pos ⟨s1, s1⟩]
    simp [PyData.eqv]
  simp [dFun_eq, d__law_alike, isA, truD, isD, e]
theorem alx_zero {f : Fs} : SpAlX (dFun 2 3 (d__law_alike f)) 0 := ⟨alike_zero, fun x h => alike_str h⟩
theorem alx_step {f : Fs} {m : Nat} (hf : SpAlX f m) : SpAlX (dFun 2 3 (d__law_alike f)) (m + 1) := ⟨alike_step hf.m, fun x h => alike_str h⟩
theorem okA_mono {d : D} : ∀ {m : Nat}, OkA m d → OkA (m + 1) d := by
  have go : ∀ (m : Nat) (d : D), OkA m d → OkA (m + 1) d := by
    intro m
    induction m with
    | zero => intro d h; exact .inl h
    | succ m ih =>
      intro d h
      rcases h with h | ⟨ds, h1, h2, h3⟩
      · exact .inl h
      · exact .inr ⟨ds, h1, h2, fun x hx => ih x (h3 x hx)⟩
  intro m h
  exact go m d h
theorem okA_le {d : D} {m k : Nat} (h : OkA m d) (hk : m ≤ k) : OkA k d := by
  obtain ⟨j, rfl⟩ := Nat.exists_eq_add_of_le hk
  induction j with
  | zero => exact h
  | succ j ih => exact okA_mono (ih (by omega))
theorem okA_col (c : Bool) (m : Nat) : OkA m (colD c) := okA_le (m := 0) (by cases c <;> trivial) (by omega)
theorem okA_str (s : String) (m : Nat) : OkA m (.str (Str.ofString s)) := okA_le (m := 0) ⟨s, rfl⟩ (by omega)
theorem okA_int (i : Int) (m : Nat) : OkA m (.int i) := okA_le (m := 0) trivial (by omega)
theorem okA_tup {ds : List D} {m : Nat} (hl : ds.length ≤ 3) (h : ∀ x ∈ ds, OkA m x) : OkA (m + 1) (.tuple ds) := .inr ⟨ds, .inl rfl, by rw [lim_eq]; omega, h⟩
theorem okA_flt : ∀ x : Flt, OkA x.size x.d
  | .less c i => okA_tup (m := 0) (ds := [.str "less", colD c, .int i]) (by simp) (by
      intro x hx
      simp only [List.mem_cons, List.not_mem_nil, or_false] at hx
      rcases hx with rfl | rfl | rfl
      · exact okA_str _ _
      · exact okA_col _ _
      · exact okA_int _ _)
  | .equal c i => okA_tup (m := 0) (ds := [.str "equal", colD c, .int i]) (by simp) (by
      intro x hx
      simp only [List.mem_cons, List.not_mem_nil, or_false] at hx
      rcases hx with rfl | rfl | rfl
      · exact okA_str _ _
      · exact okA_col _ _
      · exact okA_int _ _)
  | .same => okA_tup (m := 0) (ds := [.str "same"]) (by simp) (by
      intro x hx
      simp only [List.mem_cons, List.not_mem_nil, or_false] at hx
      subst hx
      exact okA_str _ _)
  | .null c => okA_tup (m := 0) (ds := [.str "null", colD c]) (by simp) (by
      intro x hx
      simp only [List.mem_cons, List.not_mem_nil, or_false] at hx
      rcases hx with rfl | rfl
      · exact okA_str _ _
      · exact okA_col _ _)
  | .not f => by
    have i := okA_flt f
    refine okA_le (m := f.size + 1) (okA_tup (ds := [.str "not", f.d]) (by simp) ?_) (by simp only [Flt.size]; omega)
    intro x hx
    simp only [List.mem_cons, List.not_mem_nil, or_false] at hx
    rcases hx with rfl | rfl
    · exact okA_str _ _
    · exact i
  | .and f g => by
    have i := okA_flt f
    have j := okA_flt g
    refine okA_le (m := f.size + g.size + 1) (okA_tup (ds := [.str "and", f.d, g.d]) (by simp) ?_) (by simp only [Flt.size]; omega)
    intro x hx
    simp only [List.mem_cons, List.not_mem_nil, or_false] at hx
    rcases hx with rfl | rfl | rfl
    · exact okA_str _ _
    · exact okA_le i (by omega)
    · exact okA_le j (by omega)
  | .or f g => by
    have i := okA_flt f
    have j := okA_flt g
    refine okA_le (m := f.size + g.size + 1) (okA_tup (ds := [.str "or", f.d, g.d]) (by simp) ?_) (by simp only [Flt.size]; omega)
    intro x hx
    simp only [List.mem_cons, List.not_mem_nil, or_false] at hx
    rcases hx with rfl | rfl | rfl
    · exact okA_str _ _
    · exact okA_le i (by omega)
    · exact okA_le j (by omega)
theorem toks_of : ∀ x : Flt, ∀ w ∈ toks x, ∃ s : String, w = Str.ofString s
  | .less c n, w, hw => by
    simp only [toks, colS, List.mem_cons, List.not_mem_nil, or_false] at hw
    rcases hw with rfl | rfl | rfl <;> exact ⟨_, rfl⟩
  | .equal c n, w, hw => by
    simp only [toks, colS, List.mem_cons, List.not_mem_nil, or_false] at hw
    rcases hw with rfl | rfl | rfl <;> exact ⟨_, rfl⟩
  | .same, w, hw => by
    simp only [toks, List.mem_cons, List.not_mem_nil, or_false] at hw
    subst hw; exact ⟨_, rfl⟩
  | .null c, w, hw => by
    simp only [toks, colS, List.mem_cons, List.not_mem_nil, or_false] at hw
    rcases hw with rfl | rfl <;> exact ⟨_, rfl⟩
  | .not f, w, hw => by
    simp only [toks, List.mem_cons] at hw
    rcases hw with rfl | hw
    · exact ⟨_, rfl⟩
    · exact toks_of f w hw
  | .and f g, w, hw => by
    simp only [toks, List.mem_cons, List.mem_append] at hw
    rcases hw with rfl | hw | hw
    · exact ⟨_, rfl⟩
    · exact toks_of f w hw
    · exact toks_of g w hw
  | .or f g, w, hw => by
    simp only [toks, List.mem_cons, List.mem_append] at hw
    rcases hw with rfl | hw | hw
    · exact ⟨_, rfl⟩
    · exact toks_of f w hw
    · exact toks_of g w hw
theorem tl_strOk {x : Str} (h : PyData.strOk x = true) : ∀ c ∈ TL.tl x, c < 0x110000 := by
  unfold PyData.strOk at h
  rw [Array.all_eq_true_iff_forall_mem] at h
  intro c hc
  exact of_decide_eq_true (h c (by simpa [TL.tl] using hc))
theorem flt_strOk (x : Flt) : PyData.strOk (fltS x) = true := strOk_tl fun c hc => by
  rw [tl_fltS] at hc
  rcases joinL_mem _ hc with h | ⟨p, hp, h⟩
  · exact tl_strOk (x := " ") (by decide +kernel) c h
  · obtain ⟨w, hw, rfl⟩ := List.mem_map.mp hp
    obtain ⟨s, rfl⟩ := toks_of x w hw
    exact tl_strOk (strOk_of s) c h
theorem tab_strOk {a : Bool} {n : N3} {rs : List LW.Row} (T : PW.TabOk a n rs) : PyData.strOk (tabS rs) = true := by
  by_cases h : rs = []
  · subst h; decide +kernel
  · exact strOk_tl fun c hc => by have := tab_sign T h c hc; omega
def cellE : Ev → Mn D := dBin addD (dBin addD (dIf (dCmp isD (dBin ixD (dVar 9) (dLit (.int 0))) (dLit .none)) (dLit (.str "null")) (dFn strX (dCons (dBin ixD (dVar 9) (dLit (.int 0))) (dNil)))) (dLit (.str ","))) (dIf (dCmp isD (dBin ixD (dVar 9) (dLit (.int 1))) (dLit .none)) (dLit (.str "null")) (dFn strX (dCons (dBin ixD (dVar 9) (dLit (.int 1))) (dNil))))
theorem cell_txt (s0 s1 s2 s3 s4 s5 s6 s7 s8 : DL.Slot) {n : N3} {u v : Vl} (hu : u.okU n = true) (hv : v.okU n = true) : cellE [s0, s1, s2, s3, s4, s5, s6, s7, s8, .dat (rowD [u, v])] = pur (.str (rowS [u, v])) := funext fun rs => by
  cases u with
  | nul =>
    cases v with
    | nul => kernel_rfl
    | int j => rcases okU_ten hv with rfl | rfl | rfl | rfl | rfl | rfl | rfl | rfl | rfl | rfl <;> kernel_rfl
  | int i =>
    cases v with
    | nul => rcases okU_ten hu with rfl | rfl | rfl | rfl | rfl | rfl | rfl | rfl | rfl | rfl <;> kernel_rfl
    | int j => rcases okU_ten hu with rfl | rfl | rfl | rfl | rfl | rfl | rfl | rfl | rfl | rfl <;> (rcases okU_ten hv with rfl | rfl | rfl | rfl | rfl | rfl | rfl | rfl | rfl | rfl <;> kernel_rfl)
end PT
namespace PW
open PySem PySem.Spec PyProof.Rows L2 DL LW
section
end
end PW
namespace PW
open PySem PySem.Spec PyProof.Rows L2 DL LW
section
end
end PW
namespace PW
open PySem PySem.Spec PyProof.Rows L2 DL LW
end PW
namespace PW
open PySem PySem.Spec PyProof.Rows L2 DL LW
end PW
namespace PW
open PySem PySem.Spec PyProof.Rows L2 DL LW
end PW
namespace LY
open PySem PySem.Spec PyProof.Rows L2 DL
end LY
namespace PW
open PySem PySem.Spec PyProof.Rows L2 DL LW
abbrev pF : Flt := .less false 1
section
end
end PW
namespace PW
open PySem PySem.Spec PyProof.Rows L2 DL LW
def tabB (a : Bool) (n : N3) (rs : List LW.Row) : Bool := decide (rs.length ≤ 12) && (rs.all fun r => match r with
  | [u, v] => u.okU n && v.okU n
  | _ => false) && decide (rs.Pairwise fun r s => leR r s = true) && (a || decide rs.Nodup)
theorem okA_flt {x : Flt} (h : x = pF ∨ x = .same) : OkA 2 x.d := by
  rcases h with rfl | rfl
  · refine .inr ⟨_, .inl rfl, by rw [lim_eq]; decide, fun x hx => ?_⟩
    simp only [List.mem_cons, List.not_mem_nil, or_false] at hx
    rcases hx with rfl | rfl | rfl
    · exact .inl ⟨_, rfl⟩
    · exact .inl trivial
    · exact .inl trivial
  · refine .inr ⟨_, .inl rfl, by rw [lim_eq]; decide, fun x hx => ?_⟩
    simp only [List.mem_cons, List.not_mem_nil, or_false] at hx
    subst hx
    exact .inl ⟨_, rfl⟩
end PW
namespace K10
open PySem PySem.Spec PyProof.Rows L2 DL LW PW
theorem cmul2 (i : Int) : CMul i 48271 := .inr ⟨by decide, by decide⟩
theorem dat1 {K : PySem.W.Frag} {M : Addr → Prop} {r : Rw} {H : Hp} {vs : List V} {m : Int} (h : ArgL K M r H vs [.row, .dat (.int m)]) : vs = [.ref r.a, .int m] := by
  cases h with
  | row h => cases h with
    | dat d h => cases h; cases d; rfl
theorem tkF_some {ss : List Slot} {rs rs' : RS} {o : Out D} (h : tkF ss rs = some (o, rs')) : ∃ m : Int, ss = [.row, .dat (.int m)] ∧ 0 < m ∧ m < 1073741824 ∧ o = .val (.int (tk m rs).1) ∧ rs' = (tk m rs).2 := by
  unfold tkF at h
  split at h
  · rename_i m
    split at h
    · rename_i c
      cases h
      exact ⟨m, rfl, c.1, c.2, rfl, rfl⟩
    · cases h
  · cases h
theorem upd_upd' {H : Hp} {a : Addr} {o o' : HO} : upd (upd H a o) a o' = upd H a o' := by
  funext b
  by_cases h : b = a
  · subst h; rw [upd_same, upd_same]
  · rw [upd_ne h, upd_ne h, upd_ne h]
theorem fo_taken {G : Gm} (h : HasF G "_law_taken" st__law_taken P__law_taken) (B : Tp G) : FO G 1 "_law_taken" 2 tkF := by
  obtain ⟨f, fd, hmg, F, bd⟩ := h.ex
  refine ⟨f, fd, _, hmg, F.kp, bd, rfl, F.okX sc__law_taken (fun vs H Q E h => h.1) fun cdv A outer s H vs Q E hr hsp => ?_⟩
  obtain ⟨hn, M, r, ss, rs, mr, ml, row, ar, o, rs', e, w⟩ := hsp
  obtain ⟨m, rfl, h0, h1, rfl, rfl⟩ := tkF_some e
  obtain rfl := dat1 ar
  refine ⟨_, pss_cons (ps_if (pt_cmpR op_gt (pe_ix ix_list (pv 0) pe_int (fun _ _ => rfl)) pe_int (nomark _))
      (pss_cons (ps_set (i := 3) sc__law_taken.nd rfl (Or.inl rfl) (pe_op op_mod (pe_callTy call_int1 rfl B.b_int PyProof.Rows.boot_int (pa_cons (pe_ix ix_list (pv 0) pe_int (fun _ _ => rfl)) pa_nil)) (pv 1)))
      (pss_cons (ps_asg (pe_op op_fdiv (pe_ix ix_list (pv 0) pe_int (fun _ _ => rfl)) (pv 1)) (pg_sub (pv 0) pe_int set_list))
      (pss_one (ps_ret (pv 3))))) pss_nil)
    (pss_cons (ps_asg (pe_op op_add (pe_ix ix_list (pv 0) pe_int (fun _ _ => rfl)) pe_int) (pg_sub (pv 0) pe_int set_list))
    (pss_cons (ps_if (pt_cmpR op_gt (pe_ix ix_list (pv 0) pe_int (fun _ _ => rfl)) (pe_callB call_len_seq rfl B.b_len PySem.boot_len (pa_cons (pe_ix ix_list (pv 0) pe_int (fun _ _ => rfl)) pa_nil)) (nomark _))
      (pss_cons (ps_asg (pe_op op_mod (pe_callTy call_int1 rfl B.b_int PyProof.Rows.boot_int (pa_cons (pe_op op_add (pe_op op_mul (pe_ix ix_list (pv 0) pe_int (fun _ _ => rfl)) pe_int) pe_int) pa_nil)) pe_int) (pg_sub (pv 0) pe_int set_list))
      (pss_one (ps_ret (pe_op op_mod (pe_callTy call_int1 rfl B.b_int PyProof.Rows.boot_int (pa_cons (pe_op op_fdiv (pe_ix ix_list (pv 0) pe_int (fun _ _ => rfl)) pe_int) pa_nil)) (pv 1))))) pss_nil)
    (pss_cons (ps_set (i := 2) sc__law_taken.nd rfl (Or.inl rfl) (pe_ix ix_list (pe_ix ix_list (pv 0) pe_int (fun _ _ => rfl)) (pe_op op_sub (pe_ix ix_list (pv 0) pe_int (fun _ _ => rfl)) pe_int) (fun _ _ => rfl)))
    (pss_cons (ps_asg (pe_op op_mod (pe_callTy call_int1 rfl B.b_int PyProof.Rows.boot_int (pa_cons (pe_op op_add (pe_op op_add (pe_op op_mul (pe_ix ix_list (pv 0) pe_int (fun _ _ => rfl)) pe_int) (pv 2)) pe_int) pa_nil)) pe_int) (pg_sub (pv 0) pe_int set_list))
    (pss_cons (ps_if (pt_cmpR op_ge (pv 2) (pe_op op_pow pe_int pe_int) (nomark _))
      (pss_one (ps_asg (pe_op op_fdiv (pv 2) (pv 1)) (pg_sub (pv 0) pe_int set_list))) pss_nil)
    (pss_one (ps_ret (pe_op op_mod (pe_callTy call_int1 rfl B.b_int PyProof.Rows.boot_int (pa_cons (pv 2) pa_nil)) (pv 1))))))))), ?_⟩
  have hR : H r.a = some (.lst (rowV r rs)) := row.1.1
  have en : rs.ns = r.ns := row.1.2
  have hS : SqL G.K H r.sc (r.ns.map V.int) := row.2.sq
  have fin : ∀ (rs2 : RS) (d : Int) (H' : Hp), tk m rs = (d, rs2) → rs2.ns = rs.ns → H' = upd H r.a (.lst (rowV r rs2)) → Q (.int d) H' := fun rs2 d H' e1 e2 e3 => by
    subst e3
    rw [e1] at w
    exact w _ stp_upd (row_put mr row stp_upd upd_same e2) _ (.int d)
  refine ⟨_, rfl, r.a, _, _, _, rfl, rfl, .of hR, rfl, _, _, rfl, rfl, _, rfl, ?_⟩
  refine ite2 (fun c => ?_) (fun c => ?_)
  · have c' : 0 < rs.c := of_decide_eq_true c
    refine ⟨_, rfl, r.a, _, _, _, rfl, rfl, .of hR, rfl, .inl ⟨_, rfl, _, rfl, _, _, rfl, rfl, h0, ?_⟩⟩
    refine ⟨_, rfl, r.a, _, _, _, rfl, rfl, .of hR, rfl, _, rfl, _, _, rfl, rfl, ⟨h0, h1⟩, _, rfl, r.a, _, _, 3, rfl, rfl, hR, rfl, ?_⟩
    exact ⟨_, rfl, fin { rs with c := rs.c / m } _ _ (by unfold tk; rw [if_pos c']) rfl rfl⟩
  · have c' : ¬ 0 < rs.c := of_decide_eq_false (Bool.eq_false_iff.mpr c)
    -- row[1] = row[1] + 1
    refine ⟨_, rfl, r.a, _, _, _, rfl, rfl, .of hR, rfl, _, _, rfl, rfl, _, rfl, r.a, _, _, 1, rfl, rfl, hR, rfl, ?_⟩
    have hR1 : upd H r.a (.lst [.ref r.sc, .int ((rs.a : Int) + 1), .int rs.b, .int rs.c]) r.a = some (.lst [.ref r.sc, .int ((rs.a : Int) + 1), .int rs.b, .int rs.c]) := upd_same
    have hS1 : ∀ xs, SqL G.K (upd H r.a (.lst xs)) r.sc (r.ns.map V.int) := fun xs => (sqlm_kp row.2 (stp_upd.kp mr)).sq
    refine ⟨_, rfl, r.a, _, _, _, rfl, rfl, .of hR1, rfl, _, rfl, r.a, _, _, _, rfl, rfl, .of hR1, rfl, r.sc, _, rfl, .inl (hS1 _), _, _, rfl, rfl, _, rfl, ?_⟩
    refine ite2 (fun d => ?_) (fun d => ?_)
    · have d' : ((r.ns.map V.int).length : Int) < (rs.a : Int) + 1 := of_decide_eq_true d
      rw [List.length_map] at d'
      refine ⟨_, rfl, r.a, _, _, _, rfl, rfl, .of hR1, rfl, _, _, rfl, rfl, cmul2 _, _, _, rfl, rfl, .inl ⟨_, rfl, _, _, rfl, rfl, (by show (0 : Int) < 2147483647; decide), _, rfl, r.a, _, _, 2, rfl, rfl, hR1, rfl, ?_⟩⟩
      rw [upd_upd']
      refine ⟨_, rfl, r.a, _, _, _, rfl, rfl, .of upd_same, rfl, _, _, rfl, rfl, ⟨by decide, by decide⟩, .inl ⟨_, rfl, _, rfl, _, _, rfl, rfl, h0, ?_⟩⟩
      exact fin { rs with a := rs.a + 1, b := (rs.b * 48271 + 11) % 2147483647 } _ _ (by unfold tk; rw [if_neg c', if_pos (by rw [en]; omega)]) rfl rfl
    · have d' : ¬ ((r.ns.map V.int).length : Int) < (rs.a : Int) + 1 := of_decide_eq_false (Bool.eq_false_iff.mpr d)
      rw [List.length_map] at d'
      have hcell : atI (r.ns.map V.int) ((rs.a : Int) + 1 - 1) = some (.int (rs.ns.getD rs.a 0)) := by
        rw [show ((rs.a : Int) + 1 - 1) = ((rs.a : Nat) : Int) by omega]
        refine atI_nat ?_
        have hl : rs.a < r.ns.length := by omega
        rw [List.getElem?_map, List.getElem?_eq_getElem hl, en]
        simp [List.getD_eq_getElem?_getD, List.getElem?_eq_getElem hl]
      refine ⟨_, rfl, r.a, _, _, _, rfl, rfl, .of hR1, rfl, _, rfl, r.a, _, _, _, rfl, rfl, .of hR1, rfl, _, _, rfl, rfl, r.sc, _, _, _, rfl, rfl, hS1 _, hcell, ?_⟩
      refine ⟨_, rfl, r.a, _, _, _, rfl, rfl, .of hR1, rfl, _, _, rfl, rfl, cmul2 _, _, rfl, _, _, rfl, rfl, _, _, rfl, rfl, .inl ⟨_, rfl, _, _, rfl, rfl, (by show (0 : Int) < 2147483647; decide), _, rfl, r.a, _, _, 2, rfl, rfl, hR1, rfl, ?_⟩⟩
      rw [upd_upd']
      refine ⟨_, rfl, _, _, rfl, rfl, ⟨by decide, by decide, by decide⟩, _, _, rfl, rfl, _, rfl, ?_⟩
      refine ite2 (fun z => ?_) (fun z => ?_)
      · have z' : (10 : Int) ^ 18 ≤ rs.ns.getD rs.a 0 := of_decide_eq_true z
        refine ⟨_, rfl, _, rfl, _, _, rfl, rfl, ⟨h0, h1⟩, _, rfl, r.a, _, _, 3, rfl, rfl, upd_same, rfl, ?_⟩
        rw [upd_upd']
        refine ⟨_, rfl, .inl ⟨_, rfl, _, rfl, _, _, rfl, rfl, h0, ?_⟩⟩
        exact fin { rs with a := rs.a + 1, b := (rs.b * 48271 + rs.ns.getD rs.a 0 + 11) % 2147483647, c := rs.ns.getD rs.a 0 / m } _ _ (by unfold tk; rw [if_neg c', if_neg (by rw [en]; omega)]; dsimp only; rw [if_pos z']) rfl rfl
      · have z' : ¬ (10 : Int) ^ 18 ≤ rs.ns.getD rs.a 0 := of_decide_eq_false (Bool.eq_false_iff.mpr z)
        refine ⟨_, rfl, .inl ⟨_, rfl, _, rfl, _, _, rfl, rfl, h0, ?_⟩⟩
        exact fin { rs with a := rs.a + 1, b := (rs.b * 48271 + rs.ns.getD rs.a 0 + 11) % 2147483647 } _ _ (by unfold tk; rw [if_neg c', if_neg (by rw [en]; omega)]; dsimp only; rw [if_neg z']) rfl rfl
theorem flt_pos (x : Flt) : 1 ≤ x.size := by cases x <;> simp [Flt.size]
structure Df (G : Gm) : Prop where
  h_is_semantics : HasF G "is_semantics" st_is_semantics P_is_semantics
  h_check_semantics : HasF G "check_semantics" st_check_semantics P_check_semantics
  h_is_integer_to : HasF G "is_integer_to" st_is_integer_to P_is_integer_to
  h_is_row : HasF G "is_row" st_is_row P_is_row
  h__is_value_under : HasF G "_is_value_under" st__is_value_under P__is_value_under
  h_value_order : HasF G "value_order" st_value_order P_value_order
  h_row_order : HasF G "row_order" st_row_order P_row_order
  h_is_table : HasF G "is_table" st_is_table P_is_table
  h__is_ascending : HasF G "_is_ascending" st__is_ascending P__is_ascending
  h_check_tables : HasF G "check_tables" st_check_tables P_check_tables
  h_tuples_of : HasF G "tuples_of" st_tuples_of P_tuples_of
  h__has_form : HasF G "_has_form" st__has_form P__has_form
  h__fits : HasF G "_fits" st__fits P__fits
  h__inner_tuples : HasF G "_inner_tuples" st__inner_tuples P__inner_tuples
  h_is_filter : HasF G "is_filter" st_is_filter P_is_filter
  h_check_filter : HasF G "check_filter" st_check_filter P_check_filter
  h_check_text : HasF G "check_text" st_check_text P_check_text
  h_value_text : HasF G "value_text" st_value_text P_value_text
  h_write_table : HasF G "write_table" st_write_table P_write_table
  h_read_table : HasF G "read_table" st_read_table P_read_table
  h__row_in : HasF G "_row_in" st__row_in P__row_in
  h__number_in : HasF G "_number_in" st__number_in P__number_in
  h_write_filter : HasF G "write_filter" st_write_filter P_write_filter
  h__text_of : HasF G "_text_of" st__text_of P__text_of
  h_read_filter : HasF G "read_filter" st_read_filter P_read_filter
  h__parts_in : HasF G "_parts_in" st__parts_in P__parts_in
  h__law_taken : HasF G "_law_taken" st__law_taken P__law_taken
  h__law_pick : HasF G "_law_pick" st__law_pick P__law_pick
  h__law_alike : HasF G "_law_alike" st__law_alike P__law_alike
  h__law_semantics : HasF G "_law_semantics" st__law_semantics P__law_semantics
  h__law_rank : HasF G "_law_rank" st__law_rank P__law_rank
  h__law_sorted : HasF G "_law_sorted" st__law_sorted P__law_sorted
  h__law_value : HasF G "_law_value" st__law_value P__law_value
  h__law_table : HasF G "_law_table" st__law_table P__law_table
  h__law_filter : HasF G "_law_filter" st__law_filter P__law_filter
  h__law_wrong : HasF G "_law_wrong" st__law_wrong P__law_wrong
  h__law_words : HasF G "_law_words" st__law_words P__law_words
section
variable {G : Gm}
theorem cf_is_integer_to (B : Tp G) (h : Df G) : FO G 1 "is_integer_to" 2 PT.fInt := fo_has (k := 0) h.h_is_integer_to sc_is_integer_to (s_is_integer_to B)
theorem cf__is_value_under (B : Tp G) (h : Df G) : FO G 2 "_is_value_under" 2 PT.fVu := fo_has (k := 1) h.h__is_value_under sc__is_value_under (s__is_value_under B (cf_is_integer_to B h) (by omega))
theorem cf_is_row (B : Tp G) (h : Df G) : FO G 3 "is_row" 2 PT.fRow := fo_has (k := 2) h.h_is_row sc_is_row (s_is_row B (cf__is_value_under B h) (by omega))
theorem cf_is_semantics (B : Tp G) (h : Df G) : FO G 2 "is_semantics" 1 PT.fSem := fo_has (k := 1) h.h_is_semantics sc_is_semantics (s_is_semantics B (by omega))
theorem cf_check_semantics (B : Tp G) (h : Df G) : FO G 3 "check_semantics" 1 PT.fChkS := fo_has (k := 2) h.h_check_semantics sc_check_semantics (s_check_semantics B (cf_is_semantics B h) (by omega))
theorem cf_value_order (B : Tp G) (h : Df G) : FO G 1 "value_order" 1 PT.fVo := fo_has (k := 0) h.h_value_order sc_value_order (s_value_order)
theorem cf_row_order (B : Tp G) (h : Df G) : FO G 2 "row_order" 1 PT.fOrd := fo_has (k := 1) h.h_row_order sc_row_order (s_row_order B (cf_value_order B h) (by omega))
theorem cf__is_ascending (B : Tp G) (h : Df G) : FO G 3 "_is_ascending" 2 PT.fAsc := fo_has (k := 2) h.h__is_ascending sc__is_ascending (s__is_ascending B (cf_row_order B h) (by omega) (by omega))
theorem cf_is_table (B : Tp G) (h : Df G) : FO G 4 "is_table" 2 PT.fTab := fo_has (k := 3) h.h_is_table sc_is_table (s_is_table B (cf_check_semantics B h) (by omega) (cf_is_row B h) (by omega) (cf__is_ascending B h) (by omega))
theorem cf_check_tables (B : Tp G) (h : Df G) : FO G 5 "check_tables" 2 PT.fChkT := fo_has (k := 4) h.h_check_tables sc_check_tables (s_check_tables B (cf_is_table B h) (by omega))
theorem cf_check_text (B : Tp G) (h : Df G) : FO G 1 "check_text" 1 PT.fTxt := fo_has (k := 0) h.h_check_text sc_check_text (s_check_text B)
theorem cf_value_text (B : Tp G) (h : Df G) : FO G 1 "value_text" 1 PT.fVt := fo_has (k := 0) h.h_value_text sc_value_text (s_value_text B)
theorem cf__number_in (B : Tp G) (h : Df G) : FO G 2 "_number_in" 1 PT.fNum := fo_has (k := 1) h.h__number_in sc__number_in (s__number_in B (by omega))
theorem cf__row_in (B : Tp G) (h : Df G) : FO G 3 "_row_in" 1 PT.fRin := fo_has (k := 2) h.h__row_in sc__row_in (s__row_in B (cf__number_in B h) (by omega))
theorem cf_read_table (B : Tp G) (h : Df G) : FO G 5 "read_table" 2 PT.fRt := fo_has (k := 4) h.h_read_table sc_read_table (s_read_table B (cf_check_semantics B h) (by omega) (cf_check_text B h) (by omega) (cf__row_in B h) (by omega) (cf_is_table B h) (by omega))
theorem cf_write_table (B : Tp G) (h : Df G) : FO G 6 "write_table" 2 PT.fWt := fo_has (k := 5) h.h_write_table sc_write_table (s_write_table B (cf_check_tables B h) (by omega) (cf_value_text B h) (by omega))
theorem cf__fits (B : Tp G) (h : Df G) : FO G 2 "_fits" 2 PT.fFits := fo_has (k := 1) h.h__fits sc__fits (s__fits B (cf_is_integer_to B h) (by omega))
theorem cf__has_form (B : Tp G) (h : Df G) : FO G 3 "_has_form" 2 PT.fForm := fo_has (k := 2) h.h__has_form sc__has_form (s__has_form B (cf__fits B h) (by omega))
theorem cf__inner_tuples (B : Tp G) (h : Df G) : FO G 3 "_inner_tuples" 2 PT.fInn := fo_has (k := 2) h.h__inner_tuples sc__inner_tuples (s__inner_tuples B)
theorem cf_tuples_of (B : Tp G) (h : Df G) : FO G 4 "tuples_of" 3 PT.fTup := fo_has (k := 3) h.h_tuples_of sc_tuples_of (s_tuples_of B (cf__has_form B h) (by omega) (cf__inner_tuples B h) (by omega))
theorem cf_is_filter (B : Tp G) (h : Df G) : FO G 5 "is_filter" 1 PT.fIsF := fo_has (k := 4) h.h_is_filter sc_is_filter (s_is_filter B (cf_tuples_of B h) (by omega))
theorem cf_check_filter (B : Tp G) (h : Df G) : FO G 6 "check_filter" 1 PT.fChkF := fo_has (k := 5) h.h_check_filter sc_check_filter (s_check_filter B (cf_is_filter B h) (by omega))
theorem cf__parts_in (B : Tp G) (h : Df G) : FO G 3 "_parts_in" 1 PT.fPar := fo_has (k := 2) h.h__parts_in sc__parts_in (s__parts_in B (cf__number_in B h) (by omega))
theorem cf_read_filter (B : Tp G) (h : Df G) : FO G 6 "read_filter" 1 PT.fRf := fo_has (k := 5) h.h_read_filter sc_read_filter (s_read_filter B (cf_check_text B h) (by omega) (cf__parts_in B h) (by omega) (cf_is_filter B h) (by omega))
theorem fo__text_of (B : Tp G) (h : Df G) : ∀ m : Nat, ∃ f, FO G (1 + m) "_text_of" 1 f ∧ PT.SpTx f m
  | 0 => ⟨_, fo_zero h.h__text_of rfl, ⟨fun q => absurd q (by omega), fun q => absurd q (by omega), fun x _ q => absurd q (by omega)⟩⟩
  | m + 1 => by
    obtain ⟨g, F, p⟩ := fo__text_of B h m
    exact ⟨_, fo_has (k := 1 + m) h.h__text_of sc__text_of (s__text_of B F (by omega)), PT.tx_step p⟩
theorem fo_write_filter (B : Tp G) (h : Df G) : ∃ f, FO G 23 "write_filter" 1 f ∧ PT.SpWf f := by
  obtain ⟨g, F, p⟩ := fo__text_of B h 21
  exact ⟨_, fo_has (k := 22) h.h_write_filter sc_write_filter (s_write_filter (cf_check_filter B h) (by omega) F (by omega)), PT.wf_ok PT.chkF_sp p⟩
theorem fo__law_words (B : Tp G) (h : Df G) : ∀ m : Nat, ∃ f, FO G (1 + m) "_law_words" 1 f ∧ LT.SpLw f m
  | 0 => ⟨_, fo_zero h.h__law_words rfl, fun x _ q => absurd q (by have := flt_pos x; omega)⟩
  | m + 1 => by
    obtain ⟨g, F, p⟩ := fo__law_words B h m
    exact ⟨_, fo_has (k := 1 + m) h.h__law_words sc__law_words (s__law_words B F (by omega)), LT.lw_step p⟩
theorem fo__law_pick (B : Tp G) (h : Df G) : ∃ f, FO G 2 "_law_pick" 2 f ∧ SpPick f := by
  exact ⟨_, fo_has (k := 1) h.h__law_pick sc__law_pick (s__law_pick B (fo_taken h.h__law_taken B) (by omega)), pick taken⟩
theorem fo__law_semantics (B : Tp G) (h : Df G) : ∃ f, FO G 3 "_law_semantics" 1 f ∧ SpLawSem f := by
  obtain ⟨g0, F0, p0⟩ := fo__law_pick B h
  exact ⟨_, fo_has (k := 2) h.h__law_semantics sc__law_semantics (s__law_semantics F0 (by omega)), law_sem p0⟩
theorem fo__law_value (B : Tp G) (h : Df G) : ∃ f, FO G 3 "_law_value" 2 f ∧ SpLawVal f := by
  obtain ⟨g1, F1, p1⟩ := fo__law_pick B h
  exact ⟨_, fo_has (k := 2) h.h__law_value sc__law_value (s__law_value (fo_taken h.h__law_taken B) (by omega) F1 (by omega)), law_val taken p1⟩
theorem fo__law_rank (B : Tp G) (h : Df G) : ∃ f, FO G 2 "_law_rank" 1 f ∧ (SpRankAll f ∧ SpRank f) := by
  exact ⟨_, fo_has (k := 1) h.h__law_rank sc__law_rank (s__law_rank), ⟨rank_all, rank⟩⟩
theorem fo__law_sorted (B : Tp G) (h : Df G) : ∃ f, FO G 4 "_law_sorted" 1 f ∧ SpSorted f := by
  obtain ⟨g0, F0, p0⟩ := fo__law_rank B h
  exact ⟨_, fo_has (k := 3) h.h__law_sorted sc__law_sorted (s__law_sorted B F0 (by omega) (by omega)), sorted_ok p0.1⟩
theorem fo__law_table (B : Tp G) (h : Df G) : ∃ f, FO G 5 "_law_table" 3 f ∧ SpTable f := by
  obtain ⟨g1, F1, p1⟩ := fo__law_pick B h
  obtain ⟨g2, F2, p2⟩ := fo__law_value B h
  obtain ⟨g3, F3, p3⟩ := fo__law_sorted B h
  exact ⟨_, fo_has (k := 4) h.h__law_table sc__law_table (s__law_table B (fo_taken h.h__law_taken B) (by omega) F1 (by omega) F2 (by omega) F3 (by omega) (by omega)), table_ok taken p1 p2 p3⟩
theorem fo__law_filter (B : Tp G) (h : Df G) : ∀ m : Nat, ∃ f, FO G (4 + m) "_law_filter" 2 f ∧ SpLawFlt f m
  | 0 => ⟨_, fo_zero h.h__law_filter rfl, fun k hk => absurd hk (by omega)⟩
  | m + 1 => by
    obtain ⟨g, F, p⟩ := fo__law_filter B h m
    obtain ⟨g1, F1, p1⟩ := fo__law_pick B h
    exact ⟨_, fo_has (k := 4 + m) h.h__law_filter sc__law_filter (s__law_filter B (fo_taken h.h__law_taken B) (by omega) F1 (by omega) F (by omega)), law_flt taken p1 p⟩
theorem fo_alike (B : Tp G) (h : Df G) : ∀ m : Nat, ∃ f, FO G (3 + m) "_law_alike" 2 f ∧ PT.SpAlX f m
  | 0 => ⟨_, fo_has (k := 2) h.h__law_alike sc__law_alike (s__law_alike B (fo_zero (k := 2) h.h__law_alike rfl) (by omega)), PT.alx_zero⟩
  | m + 1 => by
    obtain ⟨g, F, p⟩ := fo_alike B h m
    exact ⟨_, fo_has (k := 3 + m) h.h__law_alike sc__law_alike (s__law_alike B F (by omega)), PT.alx_step p⟩
end
end K10
noncomputable section
namespace K10
open PySem PySem.Spec PyProof.Rows L2 DL LW PW PT LL
structure Sps (fse ffi fta fal fwo fwf fpi : LW.Fs) : Prop where
  se : SpLawSem fse
  fi : SpLawFlt ffi 4
  ta : SpTable fta
  al : SpAlX fal 15
  wo : LT.SpLw fwo 15
  wf : SpWf fwf
  pi : SpPick fpi
theorem alk {fa : LW.Fs} {m : Nat} (ha : SpAlikeM fa m) {d : D} (h : OkA m d) {P L : Ev → Mn D} {ev : Ev} (hp : P ev = pur d) (hl : L ev = pur d) : dNot (dTru (dCl 2 fa (dCons P (dCons L (dNil))))) ev = pur false := by
  have z := ha d h
  simp [hp, hl, z, truD]
theorem alkS {fa : LW.Fs} {m : Nat} (ha : SpAlX fa m) {w : Str} (h : PyData.strOk w = true) {P L : Ev → Mn D} {ev : Ev} (hp : P ev = pur (.str w)) (hl : L ev = pur (.str w)) : dNot (dTru (dCl 2 fa (dCons P (dCons L (dNil))))) ev = pur false := by
  have z := ha.s w h
  simp [hp, hl, z, truD]
theorem chk {A B : Ev → Mn Bool} {ev : Ev} (h1 : A ev = pur false) (h2 : B ev = pur false) : pIf (dOr A B) (pRet (dLit (.bool false))) sNil ev = nxM ev := by
  simp [h1, h2]
section
variable {fse ffi fta fal fwo fwf fpi : LW.Fs}
def P1 (s2 s3 s4 s7 s8 s9 : DL.Slot) (ev : Ev) : Prop := ∃ (a b c : Bool) (n : N3) (e : Bool) (x : Flt), Flt.ok x = true ∧ x.size ≤ 15 ∧ ev = [.hid, .row, s2, s3, s4, .dat (wayD a b c n e), .dat x.d, s7, s8, s9]
theorem t1_ok (S : Sps fse ffi fta fal fwo fwf fpi) (s2 s3 s4 s5 s6 s7 s8 s9 : DL.Slot) : GvS (t1 ffi fse [.hid, .row, s2, s3, s4, s5, s6, s7, s8, s9]) (P1 s2 s3 s4 s7 s8 s9) := by
  simp [t1, bnS_bnd, bnd_bnd]
  refine GvS.bnS S.se fun d ⟨a, b, c, n, e, ed⟩ => ?_
  subst ed
  refine GvS.bnS (S.fi 3 (by omega)) fun d ⟨x, e3, ok, sz⟩ => ?_
  subst e3
  exact GvS.nx ⟨a, b, c, n, e, x, ok, by omega, rfl⟩
theorem t2_ok (S : Sps fse ffi fta fal fwo fwf fpi) (a b c : Bool) (n : N3) (e : Bool) (s2 s3 s4 s6 s7 s8 s9 : DL.Slot) : GvS (t2 fta [.hid, .row, s2, s3, s4, .dat (wayD a b c n e), s6, s7, s8, s9]) fun ev => ∃ rs, PW.TabOk a n rs ∧ ev = [.hid, .row, s2, s3, s4, .dat (wayD a b c n e), s6, .dat (rowsT rs), s8, s9] := by
  simp [t2, bnS_bnd, bnd_bnd]
  refine GvS.bnS (S.ta a b c n e 6 (by omega)) fun d ⟨rs, e1, t1⟩ => ?_
  subst e1
  exact GvS.nx ⟨srtR rs, tab_of t1 (by omega), rfl⟩
def joinS (rs : List LW.Row) : Str := PySem.Txt.join "; " (rs.map rowS)
theorem t3_ok {a : Bool} {n : N3} {rs : List LW.Row} (T : PW.TabOk a n rs) (s0 s1 s2 s3 s4 s5 s6 s8 s9 : DL.Slot) : t3 [s0, s1, s2, s3, s4, s5, s6, .dat (rowsT rs), s8, s9] = nxM [s0, s1, s2, s3, s4, s5, s6, .dat (rowsT rs), .dat (.str (joinS rs)), s9] := by
  have go := compGo_all (t := .name 9) (e := cellE) (ev := [s0, s1, s2, s3, s4, s5, s6, .dat (rowsT rs), s8, .hid]) rowD (fun r => PyData.str (rowS r)) rs fun r hr => by
    obtain ⟨u, v, rfl, hu, hv⟩ := T.ok r hr
    exact ⟨_, rfl, cell_txt s0 s1 s2 s3 s4 s5 s6 _ s8 hu hv⟩
  have it : itmD (rowsT rs) = some (rs.map rowD) := rfl
  have hz : (rs.map fun r => PyData.str (rowS r)).length ≤ sizeLine := by rw [List.length_map, sizeLine_eq]; have := T.len; omega
  have jn : joinD (.str "; ") (.list (rs.map fun r => PyData.str (rowS r))) = some (.str (joinS rs)) := by
    have := join_run (sep := "; ") (ws := rs.map rowS) (b := 9) (m := 12) (by decide) (fun x hx => by
      obtain ⟨r, hr, rfl⟩ := List.mem_map.mp hx
      exact rowS_len (T.ok r hr)) (by rw [List.length_map]; exact T.len) (by decide)
    rw [List.map_map] at this
    exact this
  have e : t3 = pSet 8 (dMtS joinD (dLit (.str "; ")) (dComp [9] (dItm (dVar 7)) (.name 9) (dYes) cellE)) := rfl
  rw [e]
  generalize joinS rs = w at jn ⊢
  generalize (rs.map fun r => PyData.str (rowS r)) = L at go hz jn
  generalize cellE = F at go ⊢
  simp [it, go, hz, jn]
theorem t4_ok (rs : List LW.Row) (s0 s1 s2 s3 s4 s5 s6 s9 : DL.Slot) : t4 [s0, s1, s2, s3, s4, s5, s6, .dat (rowsT rs), .dat (.str (joinS rs)), s9] = nxM [s0, s1, s2, s3, s4, s5, s6, .dat (rowsT rs), .dat (.str (tabS rs)), s9] := by
  have q : neD (rowsT rs) (.tuple []) = some (decide (rs ≠ [])) := by
    unfold neD
    rw [if_pos ⟨sh_rowsT rs, sh_rowsT []⟩]
    cases rs <;> simp [rowsT, PyData.eqv, PyData.eqvAll]
  have o : ([] : List D).length ≤ sizeLine := Nat.zero_le _
  by_cases h : rs = []
  · subst h
    have z : tabS [] = "-" := rfl
    rw [z]
    simp [t4, q, dats]
  · have z : tabS rs = joinS rs := by
      unfold tabS joinS
      rw [if_neg (by simpa using h)]
    rw [z]
    generalize joinS rs = w
    simp [t4, q, dats, h]
theorem t5_ok (S : Sps fse ffi fta fal fwo fwf fpi) {a : Bool} {n : N3} {rs : List LW.Row} (T : PW.TabOk a n rs) (b c e : Bool) (s0 s1 s2 s3 s4 s6 s9 : DL.Slot) : t5 fal fRt fWt [s0, s1, s2, s3, s4, .dat (wayD a b c n e), s6, .dat (rowsT rs), .dat (.str (tabS rs)), s9] = nxM [s0, s1, s2, s3, s4, .dat (wayD a b c n e), s6, .dat (rowsT rs), .dat (.str (tabS rs)), s9] := by
  have q1 := wt_sp a b c n e rs T
  have q2 := rt_sp a b c n e rs T
  have ok := tab_strOk T
  have oa : OkA 15 (rowsT rs) := okA_le (m := 2) (okA_rows T.lim T.short) (by omega)
  generalize tabS rs = w at q1 q2 ok ⊢
  generalize fRt = R at q2 ⊢
  generalize fWt = W at q1 ⊢
  exact chk (alkS S.al ok (by simp [q1]) (by simp)) (alk S.al.m oa (by simp [q2]) (by simp))
theorem t6_ok (S : Sps fse ffi fta fal fwo fwf fpi) {x : Flt} (ok : Flt.ok x = true) (sz : x.size ≤ 15) (s0 s1 s2 s3 s4 s5 s7 s8 s9 : DL.Slot) : t6 fal fRf fwo fwf [s0, s1, s2, s3, s4, s5, .dat x.d, s7, s8, s9] = nxM [s0, s1, s2, s3, s4, s5, .dat x.d, s7, s8, s9] := by
  have q1 := S.wf x ok (by omega)
  have q2 := S.wo x ok sz (by omega)
  have q3 := rf_sp x ok (by omega)
  have so := flt_strOk x
  have oa : OkA 15 x.d := okA_le (okA_flt x) sz
  generalize fltS x = w at q1 q2 q3 so ⊢
  generalize fRf = R at q3 ⊢
  exact chk (alkS S.al so (by simp [q1]) (by simp [q2])) (alk S.al.m oa (by simp [q2, q3]) (by simp))
def LEv (ev : Ev) : Prop := ∃ s2 s3 s4 s5 s6 s7 s8 s9, ev = [.hid, .row, s2, s3, s4, s5, s6, s7, s8, s9]
def gev (s2 s3 s4 : DL.Slot) (a b c : Bool) (n : N3) (e : Bool) (s6 : DL.Slot) (rs : List LW.Row) (s8 s9 : DL.Slot) : Ev := [.hid, .row, s2, s3, s4, .dat (wayD a b c n e), s6, .dat (rowsT rs), s8, s9]
def GEv (ev : Ev) : Prop := ∃ s2 s3 s4 a b c n e s6 rs s8 s9, PW.TabOk a n rs ∧ ev = gev s2 s3 s4 a b c n e s6 rs s8 s9
theorem GEv.l {ev : Ev} (h : GEv ev) : LEv ev := by
  obtain ⟨s2, s3, s4, a, b, c, n, e, s6, rs, s8, s9, _, rfl⟩ := h
  exact ⟨_, _, _, _, _, _, _, _, rfl⟩
theorem turn_ok (S : Sps fse ffi fta fal fwo fwf fpi) (ev : Ev) (h : LEv ev) : GvS (turnB ffi fse fta fal fRt fWt fRf fwo fwf ev) GEv := by
  obtain ⟨s2, s3, s4, s5, s6, s7, s8, s9, rfl⟩ := h
  unfold turnB
  rw [seqM_eq]
  refine GvS.sq (t1_ok S _ _ _ _ _ _ _ _) fun ev ⟨a, b, c, n, e, x, ok, sz, he⟩ => ?_
  subst he
  rw [seqM_eq]
  refine GvS.sq (t2_ok S _ _ _ _ _ _ _ _ _ _ _ _) fun ev ⟨rs, T, he⟩ => ?_
  subst he
  rw [seqM_eq, t3_ok T, sq_nx, seqM_eq, t4_ok, sq_nx, seqM_eq, t5_ok S T, sq_nx, t6_ok S ok sz]
  exact GvS.nx ⟨_, _, _, a, b, c, n, e, _, rs, _, _, T, rfl⟩
theorem rng4 (ev : Ev) : dRng rng1 (dCons (dLit (.int 4)) (dNil)) ev = pur (rngD 0 ((4 : Nat) : Int)) := dRng_pur (ss := [.dat (.int ((4 : Nat) : Int))]) (ds := [.int ((4 : Nat) : Int)]) rfl rfl (rng_len 4 (by rw [lim_eq]; decide))
theorem c1_ok (S : Sps fse ffi fta fal fwo fwf fpi) (ev : Ev) (h : LEv ev) : GvS (c1 ffi fse fta fal fRt fWt fRf fwo fwf ev) GEv := by
  have go : ∀ (ds : List D) (ev : Ev), LEv ev → (ds = [] → GEv ev) → GvS (forGo (.name 2) (turnB ffi fse fta fal fRt fWt fRf fwo fwf) ds ev) GEv := by
    intro ds
    induction ds with
    | nil => intro ev _ h; exact GvS.nx (h rfl)
    | cons d ds ih =>
      intro ev h _
      obtain ⟨s2, s3, s4, s5, s6, s7, s8, s9, rfl⟩ := h
      rw [forGo_cons, tgt_name, lft_some', bnS_pur, tix_name]
      exact GvS.wl (turn_ok S _ ⟨_, _, _, _, _, _, _, _, rfl⟩) fun ev g => ih ev g.l fun _ => g
  have e : c1 ffi fse fta fal fRt fWt fRf fwo fwf ev = sFor false (dRng rng1 (dCons (dLit (.int 4)) (dNil))) (.name 2) (turnB ffi fse fta fal fRt fWt fRf fwo fwf) ev := rfl
  rw [e, sFor_f, rng4, bnS_pur]
  exact go _ ev h fun z => by cases z
theorem lend_g (s2 s3 s4 : DL.Slot) (a b c : Bool) (n : N3) (e : Bool) (s6 : DL.Slot) (rs : List LW.Row) (s8 s9 : DL.Slot) : lend (gev s2 s3 s4 a b c n e s6 rs s8 s9) = gev (lendS s2) (lendS s3) (lendS s4) a b c n e (lendS s6) rs (lendS s8) (lendS s9) := rfl
abbrev T3 : D := .list (badT.map PyData.str)
abbrev F3 : D := .list (badF.map PyData.str)
abbrev G3 : D := .list ((badF ++ badF2).map PyData.str)
theorem c2_ok (s2 s3 s4 : DL.Slot) (a b c : Bool) (n : N3) (e : Bool) (s6 : DL.Slot) (rs : List LW.Row) (s8 s9 : DL.Slot) : c2 (gev s2 s3 s4 a b c n e s6 rs s8 s9) = nxM (gev s2 (.dat T3) s4 a b c n e s6 rs s8 s9) := funext fun r => by
  show c2 [.hid, .row, s2, s3, s4, .dat (wayD a b c n e), s6, .dat (rowsT rs), s8, s9] r = some (.nx [.hid, .row, s2, .dat T3, s4, .dat (wayD a b c n e), s6, .dat (rowsT rs), s8, s9], r)
  generalize wayD a b c n e = W
  generalize rowsT rs = R
  kernel_rfl
theorem c6_ok (s2 s3 s4 : DL.Slot) (a b c : Bool) (n : N3) (e : Bool) (s6 : DL.Slot) (rs : List LW.Row) (s8 s9 : DL.Slot) : c6 (gev s2 s3 s4 a b c n e s6 rs s8 s9) = nxM (gev s2 (.dat F3) s4 a b c n e s6 rs s8 s9) := funext fun r => by
  show c6 [.hid, .row, s2, s3, s4, .dat (wayD a b c n e), s6, .dat (rowsT rs), s8, s9] r = some (.nx [.hid, .row, s2, .dat F3, s4, .dat (wayD a b c n e), s6, .dat (rowsT rs), s8, s9], r)
  generalize wayD a b c n e = W
  generalize rowsT rs = R
  kernel_rfl
theorem c7_ok (s2 s4 : DL.Slot) (a b c : Bool) (n : N3) (e : Bool) (s6 : DL.Slot) (rs : List LW.Row) (s8 s9 : DL.Slot) : c7 (gev s2 (.dat F3) s4 a b c n e s6 rs s8 s9) = nxM (gev s2 (.dat G3) s4 a b c n e s6 rs s8 s9) := funext fun r => by
  show c7 [.hid, .row, s2, .dat F3, s4, .dat (wayD a b c n e), s6, .dat (rowsT rs), s8, s9] r = some (.nx [.hid, .row, s2, .dat G3, s4, .dat (wayD a b c n e), s6, .dat (rowsT rs), s8, s9], r)
  generalize wayD a b c n e = W
  generalize rowsT rs = R
  kernel_rfl
theorem bnd_at {α β : Type} {m : Mn α} {f : α → Mn β} {rs rs1 : RS} {a : α} (h : m rs = some (.val a, rs1)) : bnd m f rs = f a rs1 := by
  unfold bnd
  rw [h]
theorem ix_in {l : List D} {i : Int} (h0 : 0 ≤ i) (h1 : i < l.length) : ∃ d ∈ l, ixD (.list l) (.int i) = some d := by
  obtain ⟨j, rfl⟩ := Int.eq_ofNat_of_zero_le h0
  have hl : j < l.length := by omega
  exact ⟨l[j], List.getElem_mem hl, atI_nat (List.getElem?_eq_getElem hl)⟩
theorem l3_ok (s2 s4 : DL.Slot) (a b c : Bool) (n : N3) (e : Bool) (s6 : DL.Slot) (rs : List LW.Row) (s8 s9 : DL.Slot) (r : RS) : ∃ r', l3 fRt tkF (gev s2 (.dat T3) s4 a b c n e s6 rs s8 s9) r = some (.exc "InvalidText" none, r') := by
  obtain ⟨_, r', e1, i, h0, h1, rfl⟩ := taken 20 (by omega) (by omega) r
  obtain ⟨d, hd, ix⟩ := ix_in (l := badT.map PyData.str) h0 h1
  obtain ⟨w, hw, rfl⟩ := List.mem_map.mp hd
  have q := rt_bad a b c n e w hw
  refine ⟨r', ?_⟩
  unfold gev
  generalize fRt = R at q ⊢
  generalize tkF = tf at e1 ⊢
  have st : l3 R tf [.hid, .row, s2, .dat T3, s4, .dat (wayD a b c n e), s6, .dat (rowsT rs), s8, s9] = bnd (tf [.row, .dat (.int 20)]) fun y => bnd (lft (ixD T3 y)) fun d => R [.dat (wayD a b c n e), .dat d] := by
    simp [l3, bnd_bnd]
  rw [st, bnd_at e1, ix]
  show R [.dat (wayD a b c n e), .dat (.str w)] r' = _
  rw [q]
  rfl
theorem l8_ok (s2 s4 : DL.Slot) (a b c : Bool) (n : N3) (e : Bool) (s6 : DL.Slot) (rs : List LW.Row) (s8 s9 : DL.Slot) (r : RS) : ∃ r', l8 fRf tkF (gev s2 (.dat G3) s4 a b c n e s6 rs s8 s9) r = some (.exc "InvalidText" none, r') := by
  obtain ⟨_, r', e1, i, h0, h1, rfl⟩ := taken 25 (by omega) (by omega) r
  obtain ⟨d, hd, ix⟩ := ix_in (l := (badF ++ badF2).map PyData.str) h0 h1
  obtain ⟨w, hw, rfl⟩ := List.mem_map.mp hd
  have q := rf_bad w hw
  refine ⟨r', ?_⟩
  unfold gev
  generalize fRf = R at q ⊢
  generalize tkF = tf at e1 ⊢
  have st : l8 R tf [.hid, .row, s2, .dat G3, s4, .dat (wayD a b c n e), s6, .dat (rowsT rs), s8, s9] = bnd (tf [.row, .dat (.int 25)]) fun y => bnd (lft (ixD G3 y)) fun d => R [.dat d] := by
    simp [l8, bnd_bnd]
  rw [st, bnd_at e1, ix]
  show R [.dat (.str w)] r' = _
  rw [q]
  rfl
theorem l4_ok (s2 s3 s4 : DL.Slot) (a b c : Bool) (e : Bool) (s6 : DL.Slot) (rs : List LW.Row) (s8 s9 : DL.Slot) (r : RS) : l4 fRt (gev s2 s3 s4 a b c .none e s6 rs s8 s9) r = some (.exc "InvalidText" none, r) := by
  have q := rt_null a b c e
  unfold gev
  generalize fRt = R at q ⊢
  have st : l4 R [.hid, .row, s2, s3, s4, .dat (wayD a b c .none e), s6, .dat (rowsT rs), s8, s9] = R [.dat (wayD a b c .none e), .dat (.str "null,0")] := by simp [l4]
  rw [st, q]
  rfl
theorem l5_ok (s2 s3 s4 : DL.Slot) (b c : Bool) (n : N3) (e : Bool) (s6 : DL.Slot) (rs : List LW.Row) (s8 s9 : DL.Slot) (r : RS) : l5 fRt (gev s2 s3 s4 false b c n e s6 rs s8 s9) r = some (.exc "InvalidText" none, r) := by
  have q := rt_twice b c n e
  unfold gev
  generalize fRt = R at q ⊢
  have st : l5 R [.hid, .row, s2, s3, s4, .dat (wayD false b c n e), s6, .dat (rowsT rs), s8, s9] = R [.dat (wayD false b c n e), .dat (.str "0,0; 0,0")] := by simp [l5]
  rw [st, q]
  rfl
theorem l10_ok (s2 s3 : DL.Slot) {d : D} (hd : NoTx d) (a b c : Bool) (n : N3) (e : Bool) (s6 : DL.Slot) (rs : List LW.Row) (s8 s9 : DL.Slot) (r : RS) : l10 fRf (gev s2 s3 (.dat d) a b c n e s6 rs s8 s9) r = some (.exc "NotText" none, r) := by
  have q := rf_no hd
  unfold gev
  generalize fRf = R at q ⊢
  have st : l10 R [.hid, .row, s2, s3, .dat d, .dat (wayD a b c n e), s6, .dat (rowsT rs), s8, s9] = R [.dat d] := by simp [l10]
  rw [st, q]
  rfl
theorem l11_ok (s2 s3 : DL.Slot) {d : D} (hd : NoTx d) (a b c : Bool) (n : N3) (e : Bool) (s6 : DL.Slot) (rs : List LW.Row) (s8 s9 : DL.Slot) (r : RS) : l11 fRt (gev s2 s3 (.dat d) a b c n e s6 rs s8 s9) r = some (.exc "NotText" none, r) := by
  have q := rt_no a b c n e hd
  unfold gev
  generalize fRt = R at q ⊢
  have st : l11 R [.hid, .row, s2, s3, .dat d, .dat (wayD a b c n e), s6, .dat (rowsT rs), s8, s9] = R [.dat (wayD a b c n e), .dat d] := by simp [l11]
  rw [st, q]
  rfl
theorem c9_ok (S : Sps fse ffi fta fal fwo fwf fpi) (s2 s3 s4 : DL.Slot) (a b c : Bool) (n : N3) (e : Bool) (s6 : DL.Slot) (rs : List LW.Row) (s8 s9 : DL.Slot) : GvS (c9 fpi (gev s2 s3 s4 a b c n e s6 rs s8 s9)) fun ev => ∃ d, NoTx d ∧ ev = gev s2 s3 (.dat d) a b c n e s6 rs s8 s9 := by
  unfold gev
  have o : ∀ k : Nat, k ≤ 6 → k ≤ sizeLine := fun k hk => by rw [sizeLine_eq]; omega
  have st : c9 fpi [.hid, .row, s2, s3, s4, .dat (wayD a b c n e), s6, .dat (rowsT rs), s8, s9] = bnS (fpi [.row, .dat (.list [.none, .int 5, rowsT rs, .list [.str "same"], .bool true])]) fun d => nxM [.hid, .row, s2, s3, .dat d, .dat (wayD a b c n e), s6, .dat (rowsT rs), s8, s9] := by
    simp [c9, bnd_bnd, bnS_bnd, o]
  rw [st]
  refine GvS.bnS (S.pi [.none, .int 5, rowsT rs, .list [.str "same"], .bool true] (by simp) (by simp)) fun d m => ?_
  refine GvS.nx ⟨d, ?_, rfl⟩
  simp only [List.mem_cons, List.not_mem_nil, or_false] at m
  rcases m with rfl | rfl | rfl | rfl | rfl
  · exact .inl rfl
  · exact .inr (.inl rfl)
  · exact .inr (.inr (.inl ⟨_, rfl⟩))
  · exact .inr (.inr (.inr (.inl ⟨_, rfl⟩)))
  · exact .inr (.inr (.inr (.inr rfl)))
end
end K10
noncomputable section
namespace K10
open PySem PySem.Spec PyProof.Rows L2 DL LW PW PT LL LamX
section
variable {Ω : Type}
theorem dWr_inv {fb : Ev → Mn D} {ev : Ev} {rs rs' : RS} {x : Ω} (h : fb ev rs = some (.exc "InvalidText" none, rs')) : dWr fb ev rs x = some (.str "invalid", rs', x) := by
  simp [dWr, h]
theorem dWr_txt {fb : Ev → Mn D} {ev : Ev} {rs rs' : RS} {x : Ω} (h : fb ev rs = some (.exc "NotText" none, rs')) : dWr fb ev rs x = some (.str "text", rs', x) := by
  simp [dWr, h]
theorem chkL {fb : Ev → Mn D} {ev : Ev} {rs rs' : RS} {x : Ω} {w : String} {F : Ev → ML Ω RsL} (h : dWr fb ev rs x = some (.str (Str.ofString w), rs', x)) : ifL (tcL neD (dWr fb) (dLit (.str (Str.ofString w)))) F nilL ev rs x = some (.nx ev, rs', x) := by
  simp [ifL, tcL, h, pur, nilL]
theorem chkA {A : Ev → Mn Bool} {fb : Ev → Mn D} {ev : Ev} {rs : RS} {x : Ω} {w : String} {F : Ev → ML Ω RsL} {b : Bool} (ha : A ev = pur b) (h : b = true → ∃ rs', dWr fb ev rs x = some (.str (Str.ofString w), rs', x)) : ∃ rs', ifL (andL (upT A) (tcL neD (dWr fb) (dLit (.str (Str.ofString w))))) F nilL ev rs x = some (.nx ev, rs', x) := by
  cases b with
  | false => exact ⟨rs, by simp [ifL, andL, upT, ha, pur, nilL]⟩
  | true =>
    obtain ⟨rs', h⟩ := h rfl
    exact ⟨rs', by simp [ifL, andL, upT, ha, tcL, h, pur, nilL]⟩
theorem seqL_at {f g : Ev → ML Ω RsL} {ev ev' : Ev} {rs rs' : RS} {x x' : Ω} (h : f ev rs x = some (.nx ev', rs', x')) : seqL f g ev rs x = g ev' rs' x' := by
  simp [seqL, h]
theorem upS_at {f : Ev → Ms} {ev ev' : Ev} {rs rs' : RS} {x : Ω} (h : f ev rs = some (.nx ev', rs')) : upS f ev rs x = some (.nx (lend ev'), rs', x) := by
  simp [upS, h]
end
def isNone : N3 → Bool
  | .none => true
  | _ => false
def lawL (fse ffi fta fal fwo fwf fpi : LW.Fs) : Ev → ML Unit RsL :=
  seqL (upS (c1 ffi fse fta fal fRt fWt fRf fwo fwf)) (seqL (upS c2) (seqL (c3 fRt tkF) (seqL (c4 fRt) (seqL (c5 fRt) (seqL (upS c6) (seqL (upS c7) (seqL (c8 fRf tkF) (seqL (upS (c9 fpi)) (seqL (c10 fRf) (c11 fRt))))))))))
variable {fse ffi fta fal fwo fwf fpi : LW.Fs}
theorem c3_at {f g : LW.Fs} {ev : Ev} {rs rs' : RS} (h : dWr (l3 f g) ev rs () = some (.str (Str.ofString "invalid"), rs', ())) : c3 f g ev rs () = some (.nx ev, rs', ()) := chkL h
theorem c8_at {f g : LW.Fs} {ev : Ev} {rs rs' : RS} (h : dWr (l8 f g) ev rs () = some (.str (Str.ofString "invalid"), rs', ())) : c8 f g ev rs () = some (.nx ev, rs', ()) := chkL h
theorem c10_at {f : LW.Fs} {ev : Ev} {rs rs' : RS} (h : dWr (l10 f) ev rs () = some (.str (Str.ofString "text"), rs', ())) : c10 f ev rs () = some (.nx ev, rs', ()) := chkL h
abbrev ev0 : Ev := [.hid, .row, .hid, .hid, .hid, .hid, .hid, .hid, .hid, .hid]
theorem law_run (S : Sps fse ffi fta fal fwo fwf fpi) (rs : RS) : ∃ rs', lawL fse ffi fta fal fwo fwf fpi ev0 rs () = some (.ret (.bool true), rs', ()) := by
  obtain ⟨ev1, rs1, e1, s2, s3, s4, a, b, c, n, e, s6, T, s8, s9, ok, rfl⟩ := c1_ok S ev0 ⟨_, _, _, _, _, _, _, _, rfl⟩ rs
  unfold lawL
  rw [seqL_at (upS_at e1), lend_g, seqL_at (upS_at (congrFun (c2_ok _ _ _ _ _ _ _ _ _ _ _ _) rs1)), lend_g]
  obtain ⟨rs3, e3⟩ := l3_ok (lendS (lendS s2)) (lendS (lendS s4)) a b c n e (lendS (lendS s6)) T (lendS (lendS s8)) (lendS (lendS s9)) rs1
  have e3 := dWr_inv (x := ()) e3
  rw [show lendS (.dat T3) = DL.Slot.dat T3 from rfl, seqL_at (c3_at e3)]
  obtain ⟨rs4, e4⟩ : ∃ rs4, c4 fRt (gev (lendS (lendS s2)) (.dat T3) (lendS (lendS s4)) a b c n e (lendS (lendS s6)) T (lendS (lendS s8)) (lendS (lendS s9))) rs3 () = some (.nx (gev (lendS (lendS s2)) (.dat T3) (lendS (lendS s4)) a b c n e (lendS (lendS s6)) T (lendS (lendS s8)) (lendS (lendS s9))), rs4, ()) := by
    refine chkA (b := isNone n) (w := "invalid") ?_ fun h => ?_
    · unfold gev
      cases n <;> simp [N3.s, wayD, isNone]
    · have hn : n = .none := by cases n <;> first | rfl | cases h
      subst hn
      exact ⟨_, dWr_inv (l4_ok _ _ _ _ _ _ _ _ _ _ _ _)⟩
  rw [seqL_at e4]
  obtain ⟨rs5, e5⟩ : ∃ rs5, c5 fRt (gev (lendS (lendS s2)) (.dat T3) (lendS (lendS s4)) a b c n e (lendS (lendS s6)) T (lendS (lendS s8)) (lendS (lendS s9))) rs4 () = some (.nx (gev (lendS (lendS s2)) (.dat T3) (lendS (lendS s4)) a b c n e (lendS (lendS s6)) T (lendS (lendS s8)) (lendS (lendS s9))), rs5, ()) := by
    refine chkA (b := !a) (w := "invalid") ?_ fun h => ?_
    · unfold gev
      cases a <;> simp [wayD]
    · have hn : a = false := by simpa using h
      subst hn
      exact ⟨_, dWr_inv (l5_ok _ _ _ _ _ _ _ _ _ _ _ _)⟩
  rw [seqL_at e5, seqL_at (upS_at (congrFun (c6_ok _ _ _ _ _ _ _ _ _ _ _ _) rs5)), lend_g]
  have e7 := fun s2 s4 s6 s8 s9 => congrFun (c7_ok s2 s4 a b c n e s6 T s8 s9) rs5
  rw [show lendS (.dat F3) = DL.Slot.dat F3 from rfl, seqL_at (upS_at (e7 _ _ _ _ _)), lend_g]
  rw [show lendS (.dat G3) = DL.Slot.dat G3 from rfl]
  obtain ⟨rs8, e8⟩ := l8_ok (lendS (lendS (lendS (lendS s2)))) (lendS (lendS (lendS (lendS s4)))) a b c n e (lendS (lendS (lendS (lendS s6)))) T (lendS (lendS (lendS (lendS s8)))) (lendS (lendS (lendS (lendS s9)))) rs5
  rw [seqL_at (c8_at (dWr_inv (x := ()) e8))]
  obtain ⟨ev9, rs9, e9, d, hd, rfl⟩ := c9_ok S (lendS (lendS (lendS (lendS s2)))) (.dat G3) (lendS (lendS (lendS (lendS s4)))) a b c n e (lendS (lendS (lendS (lendS s6)))) T (lendS (lendS (lendS (lendS s8)))) (lendS (lendS (lendS (lendS s9)))) rs8
  rw [seqL_at (upS_at e9), lend_g]
  rw [show lendS (.dat d) = DL.Slot.dat d from rfl]
  have e10 := fun s2 s3 s6 s8 s9 => l10_ok s2 s3 hd a b c n e s6 T s8 s9 rs9
  have e11 := fun s2 s3 s6 s8 s9 => l11_ok s2 s3 hd a b c n e s6 T s8 s9 rs9
  rw [seqL_at (c10_at (dWr_txt (x := ()) (e10 _ _ _ _ _)))]
  refine ⟨rs9, ?_⟩
  have q := dWr_txt (x := ()) (e11 (lendS (lendS (lendS (lendS (lendS s2))))) (.dat G3) (lendS (lendS (lendS (lendS (lendS s6))))) (lendS (lendS (lendS (lendS (lendS s8))))) (lendS (lendS (lendS (lendS (lendS s9))))))
  simp [c11, retL, tcL, q, pur]
end K10
noncomputable section
namespace K10
open PySem PySem.Spec PyProof.Rows L2 DL LW PW PT LL LamX
def spLaw (K : PySem.W.Frag) (P : Addr) : Sp := fun vs H Q _ => ∃ (a : Addr) (ns : List Int), vs = [.ref a] ∧ SqL K H a (ns.map V.int) ∧ H P = some (.tbl #[]) ∧ ∀ H', Q (.bl true) H'
theorem s_all {G : Gm} {E : Ex Unit} {CS CI CT : Addr} (B : Tp G) (h : Df G) (F : WrF G CS CI CT) (W : FnW G "_law_wrong" st__law_wrong) : ∃ fse ffi fta fal fwo fwf fpi, Sps fse ffi fta fal fwo fwf fpi ∧
    SBL G E 29 sxL N_law [lawAt 1, lawAt 2, lawAt 3, lawAt 4, lawAt 5, lawAt 6, lawAt 7, lawAt 8, lawAt 9, lawAt 10, lawAt 11] (lawL fse ffi fta fal fwo fwf fpi) := by
  obtain ⟨fse, Fse, pse⟩ := fo__law_semantics B h
  obtain ⟨ffi, Ffi, pfi⟩ := fo__law_filter B h 4
  obtain ⟨fta, Fta, pta⟩ := fo__law_table B h
  obtain ⟨fal, Fal, pal⟩ := fo_alike B h 15
  obtain ⟨fwo, Fwo, pwo⟩ := fo__law_words B h 15
  obtain ⟨fwf, Fwf, pwf⟩ := fo_write_filter B h
  obtain ⟨fpi, Fpi, ppi⟩ := fo__law_pick B h
  have tk := fo_taken h.h__law_taken B
  have rt := cf_read_table B h
  have rf := cf_read_filter B h
  have wt := cf_write_table B h
  refine ⟨fse, ffi, fta, fal, fwo, fwf, fpi, ⟨pse, pfi, pta, pal, pwo, pwf, ppi⟩, ?_⟩
  exact s_consL (sL (s_1 B (by decide) Ffi (by decide) Fse (by decide) Fta (by decide) Fal (by decide) rt (by decide) wt (by decide) rf (by decide) Fwo (by decide) Fwf (by decide)))
    (s_consL (sL (s_2 B (by decide)))
    (s_consL (s_3 (k := 27) B F W rt (by decide) tk (by decide))
    (s_consL (s_4 (k := 27) B F W rt (by decide))
    (s_consL (s_5 (k := 27) B F W rt (by decide))
    (s_consL (sL (s_6 B (by decide)))
    (s_consL (sL (s_7 B (by decide)))
    (s_consL (s_8 (k := 27) B F W rf (by decide) tk (by decide))
    (s_consL (sL (s_9 B (by decide) Fpi (by decide)))
    (s_consL (s_10 (k := 27) B F W rf (by decide))
    (s_oneL (s_11 (k := 27) B F W rt (by decide))))))))))))
theorem ev0_no : noOwn ev0 := fun i ds e => by
  have h : (DL.Slot.own ds) ∈ ev0 := List.mem_of_getElem? e
  simp at h
theorem ok_law {G : Gm} {CS CI CT c P fa : Addr} {oc : Value} {od : Option Addr} {kV doc pm ct : Value} {an : Option Addr} {osl : Array (Option Value)} (B : Tp G) (h : Df G) (F : WrF G CS CI CT) (W : FnW G "_law_wrong" st__law_wrong)
    (lk : G.K.lookup fa = some ⟨oc, od, .func (PySem.W.fnOf "law" "law" (defArgs st_law) (defBody st_law) (defScope st_law) .none kV doc pm an (.ref c) ct), osl⟩) (hcd : PySem.W.codeIn G.K (.ref c) "law" = true) (TB : TabB G.base G.mg c P) :
    FnOk G.P G.w G.K G.mg G.base (L2.CX G.P G.w) 30 fa (PySem.W.fnOf "law" "law" (defArgs st_law) (defBody st_law) (defScope st_law) .none kV doc pm an (.ref c) ct) ["script"] (spLaw G.K P) := by
  refine fn_of lk hcd sc_law (fun vs H Q E q => ?_) (fun A outer s H vs Q E hr hsp => ?_)
  · obtain ⟨a, ns, rfl, _⟩ := q
    rfl
  have g : Gd G 29 sxL N_law (cxOf (L2.CX G.P G.w) G.P G.w G.K G.mg G.base N_law "law" (defScope st_law) fa (.ref c) A outer s H E) := ⟨rfl, sc_law.nd, rfl, fun _ _ => rfl, rfl, hr, rfl, rfl, rfl, rfl, rfl, fun _ => rfl⟩
  obtain ⟨a, ns, rfl, hS, hP, q⟩ := hsp
  obtain ⟨X, eX⟩ : ∃ X, X = cxOf (L2.CX G.P G.w) G.P G.w G.K G.mg G.base N_law "law" (defScope st_law) fa (.ref c) A outer s H E := ⟨_, rfl⟩
  obtain ⟨ee, hee⟩ : ∃ ee : Ex Unit, ee = noEx [(P, X.env.qual ++ "<lambda>")] := ⟨_, rfl⟩
  obtain ⟨fse, ffi, fta, fal, fwo, fwf, fpi, S, st⟩ := s_all (E := ee) B h F W
  rw [← eX] at g ⊢
  have lk2 : LamK ee X := ⟨c, P, by rw [eX]; rfl, by rw [eX]; exact TB, by rw [hee]; exact List.mem_cons_self, fun q hq _ => by
    rw [hee] at hq
    cases hq with
    | head => rfl
    | tail _ z => cases z⟩
  have po : PassesOwn (model X.prog X.w) X.A X.env X.xe := by rw [eX]; exact passes_of rfl
  have hN : X.N = N_law := by rw [eX]; rfl
  have s0 : PS X (lawAt 0) _ := ps_set (i := 1) (by rw [hN]; exact sc_law.nd) (by rw [hN]; rfl) (.inr (by rw [eX]; rfl)) (pe_lst (pa_cons (pe_var (i := 0) (by rw [hN]; rfl) (.inl (by rw [eX]; rfl))) (pa_cons pe_int (pa_cons pe_int (pa_cons pe_int pa_nil))))) (hf := .inl (by rw [eX]; rfl))
  refine ⟨_, pss_cons s0 (st X g lk2 po), ?_⟩
  refine ⟨_, rfl, by show 4 ≤ sizeLine; exact size_ok 4, fun p hp => ?_⟩
  have hPp : P ≠ p := ne_of_none hP hp
  have sm : Same H (upd H p (.lst [.ref a, .int 0, .int 15330, .int 0])) := same_upd hp
  generalize hH1 : upd H p (.lst [.ref a, .int 0, .int 15330, .int 0]) = H1 at sm
  have hrow : H1 p = some (.lst [.ref a, .int 0, .int 15330, .int 0]) := by rw [← hH1]; exact upd_same
  have hTab : H1 P = some (.tbl #[]) := sm _ _ hP
  have R : RelL G ee ⟨p, a, ns⟩ ((L2.start N_law [.ref a]).set 1 (some (.ref p))) H1 ev0 ⟨ns, 0, 15330, 0⟩ () := by
    refine ⟨⟨rfl, fun b m => ⟨.lst [.ref a, .int 0, .int 15330, .int 0], by rw [show b = p from m]; exact hrow, trivial⟩, ⟨⟨hrow, rfl⟩, ?_⟩, fun i s e => ?_, by show 10 ≤ 10; exact Nat.le_refl 10⟩, fun q hq => ?_, ev0_no, by rw [hee]; trivial⟩
    · rcases hS with hS | hS
      · refine .inl ⟨?_, fun m => ?_⟩
        · rcases hS with z | ⟨o, z⟩
          · exact .inl (sm _ _ z)
          · exact .inr ⟨o, sm _ _ z⟩
        · have e : a = p := m
          rcases hS with z | ⟨o, z⟩
          · exact absurd e (ne_of_none z hp)
          · exact absurd e (ne_of_none z hp)
      · exact .inr hS
    · match i, e with
      | 0, e => cases e; trivial
      | 1, e => cases e; exact rfl
      | 2, e => cases e; trivial
      | 3, e => cases e; trivial
      | 4, e => cases e; trivial
      | 5, e => cases e; trivial
      | 6, e => cases e; trivial
      | 7, e => cases e; trivial
      | 8, e => cases e; trivial
      | 9, e => cases e; trivial
      | i + 10, e => simp at e
    · rw [hee] at hq
      cases hq with
      | head => exact TabS.nil hTab
      | tail _ z => cases z
  obtain ⟨rs', er⟩ := law_run S ⟨ns, 0, 15330, 0⟩
  refine ⟨_, _, _, _, R, _, _, _, er, fun v H' da => ?_⟩
  cases da
  exact q H'
theorem law_mk {l : PySem.W.OpenLaw} {w : World} {K : PySem.W.Frag} {h : Heap} {mg : Str → Option Value} {fa f c P CS CI CT : Addr} {oc : Value} {od : Option Addr} {kV doc pm ct : Value} {an : Option Addr} {osl : Array (Option Value)} (X : K.In h) (G : h.Ns mainGlobals mg) (hfa : mg "law" = some (.ref fa))
    (tp : ∀ base, Tp ⟨l.prog, w, K, mg, base⟩) (df : ∀ base, Df ⟨l.prog, w, K, mg, base⟩) (bf : ∀ base, WrF ⟨l.prog, w, K, mg, base⟩ CS CI CT) (fb : ∀ base, FnW ⟨l.prog, w, K, mg, base⟩ "_law_wrong" st__law_wrong)
    (a : PySem.W.nsIn K mainGlobals "law" = some (some (.ref f))) (lk : K.lookup f = some ⟨oc, od, .func (PySem.W.fnOf "law" "law" (defArgs st_law) (defBody st_law) (defScope st_law) .none kV doc pm an (.ref c) ct), osl⟩) (cd : PySem.W.codeIn K (.ref c) "law" = true)
    (hc : PySem.W.codeHdIn K c P = true) (nP : K.lookup P = none) (hP : h.get? P = some (PySem.W.tabObj #[])) : LawAtS l w K (L2.CX l.prog w) 30 63 "script" mg fa h := by
  have e := hfa.symm.trans (PySem.W.mg_of X G a)
  cases e
  refine ⟨PySem.W.fnOf "law" "law" (defArgs st_law) (defBody st_law) (defScope st_law) .none kV doc pm an (.ref c) ct, [(c, P)], spLaw K P, fun q hq => ?_, fun q hq => ?_, fun q hq => ?_, fun s v => .of_eq rfl, fun H a ns _ _ hT hS => ?_, fun base _ _ hb => ?_⟩
  · cases hq with
    | head => exact hP
    | tail _ z => cases z
  · cases hq with
    | head => exact nP
    | tail _ z => cases z
  · cases hq with
    | head => exact PySem.W.codeHd_of_K X hc
    | tail _ z => cases z
  · exact ⟨a, ns, rfl, hS, hT _ (List.mem_cons_self), fun _ => rfl⟩
  · exact ok_law (G := ⟨l.prog, w, K, mg, base⟩) (tp base) (df base) (bf base) (fb base) lk cd (hb _ (List.mem_cons_self))
theorem cx_end {l : PySem.W.OpenLaw} (w : World) (H : Hp) (s : Shared) (e : Value) (s' : Shared) (h : L2.CX l.prog w [] H s (fun _ _ _ => False) e s') : False := by
  obtain ⟨_, _, _, _, _, _, _, _, _, _, _, _, z⟩ := h
  exact z
end K10
set_option maxHeartbeats 0
noncomputable section
namespace K10
open PySem PySem.W PySem.Calls PyProof.Rows HandSHeadRun HM DL
open L2 (defArgs defBody defScope)
section
variable {P : Program} {w : World} {K : PySem.W.Frag} {h base : Heap} {mg : Str → Option Value}
theorem nd_FORMS : (PW.t_FORMS.map (·.1)).Nodup := by decide +kernel
theorem tp_all (X : K.In h) (Gn : h.Ns mainGlobals mg) (c : HM.obsK sp0 K = HM.valK sp0 P w) : Tp ⟨P, w, K, mg, base⟩ where
  b_all := f_no X Gn (fact c 0)
  b_bool := f_no X Gn (fact c 1)
  b_enumerate := f_no X Gn (fact c 2)
  b_int := f_no X Gn (fact c 3)
  b_isinstance := f_no X Gn (fact c 4)
  b_len := f_no X Gn (fact c 5)
  b_list := f_no X Gn (fact c 6)
  b_range := f_no X Gn (fact c 7)
  b_reversed := f_no X Gn (fact c 8)
  b_sorted := f_no X Gn (fact c 9)
  b_str := f_no X Gn (fact c 10)
  b_tuple := f_no X Gn (fact c 11)
  b_zip := f_no X Gn (fact c 12)
  c_DIGITS := f_con X Gn (fact c 13)
  c_DUPLICATES := f_con X Gn (fact c 14)
  c_GREATEST_VALUE := f_con X Gn (fact c 15)
  c_MOST_ROWS := f_con X Gn (fact c 16)
  c_MOST_TUPLES := f_con X Gn (fact c 17)
  c_MOST_WORDS_OF_TUPLE := f_con X Gn (fact c 18)
  c_NO_ROW := f_con X Gn (fact c 19)
  c_NULL := f_con X Gn (fact c 20)
  c_NULLS := f_con X Gn (fact c 21)
  c_ROW_LENGTH := f_con X Gn (fact c 22)
  c_WORDS := f_con X Gn (fact c 23)
  k_GREATEST := f_td X Gn c 0 rfl
  t_FORMS := f_tt X Gn c 0 rfl nd_FORMS
  x_BadFilter := f_ex X Gn (fact c 24)
  x_BadSemantics := f_ex X Gn (fact c 25)
  x_InvalidText := f_ex X Gn (fact c 26)
  x_NotText := f_ex X Gn (fact c 27)
  z_DIGITS := f_tz X Gn (fact c 28)
theorem df_all (X : K.In h) (Gn : h.Ns mainGlobals mg) (c : HM.obsK sp0 K = HM.valK sp0 P w) : Df ⟨P, w, K, mg, base⟩ where
  h_is_semantics := f_has X Gn c 0 29 rfl rfl fun _ _ _ _ _ _ us hl => match us, hl with | [_], _ => rfl
  h_check_semantics := f_has X Gn c 1 30 rfl rfl fun _ _ _ _ _ _ us hl => match us, hl with | [_], _ => rfl
  h_is_integer_to := f_has X Gn c 2 31 rfl rfl fun _ _ _ _ _ _ us hl => match us, hl with | [_, _], _ => rfl
  h_is_row := f_has X Gn c 3 32 rfl rfl fun _ _ _ _ _ _ us hl => match us, hl with | [_, _], _ => rfl
  h__is_value_under := f_has X Gn c 4 33 rfl rfl fun _ _ _ _ _ _ us hl => match us, hl with | [_, _], _ => rfl
  h_value_order := f_has X Gn c 5 34 rfl rfl fun _ _ _ _ _ _ us hl => match us, hl with | [_], _ => rfl
  h_row_order := f_has X Gn c 6 35 rfl rfl fun _ _ _ _ _ _ us hl => match us, hl with | [_], _ => rfl
  h_is_table := f_has X Gn c 7 36 rfl rfl fun _ _ _ _ _ _ us hl => match us, hl with | [_, _], _ => rfl
  h__is_ascending := f_has X Gn c 8 37 rfl rfl fun _ _ _ _ _ _ us hl => match us, hl with | [_, _], _ => rfl
  h_check_tables := f_has X Gn c 9 38 rfl rfl fun _ _ _ _ _ _ us hl => match us, hl with | [_, _], _ => rfl
  h_tuples_of := f_has X Gn c 10 39 rfl rfl fun _ _ _ _ _ _ us hl => match us, hl with | [_, _, _], _ => rfl
  h__has_form := f_has X Gn c 11 40 rfl rfl fun _ _ _ _ _ _ us hl => match us, hl with | [_, _], _ => rfl
  h__fits := f_has X Gn c 12 41 rfl rfl fun _ _ _ _ _ _ us hl => match us, hl with | [_, _], _ => rfl
  h__inner_tuples := f_has X Gn c 13 42 rfl rfl fun _ _ _ _ _ _ us hl => match us, hl with | [_, _], _ => rfl
  h_is_filter := f_has X Gn c 14 43 rfl rfl fun _ _ _ _ _ _ us hl => match us, hl with | [_], _ => rfl
  h_check_filter := f_has X Gn c 15 44 rfl rfl fun _ _ _ _ _ _ us hl => match us, hl with | [_], _ => rfl
  h_check_text := f_has X Gn c 16 45 rfl rfl fun _ _ _ _ _ _ us hl => match us, hl with | [_], _ => rfl
  h_value_text := f_has X Gn c 17 46 rfl rfl fun _ _ _ _ _ _ us hl => match us, hl with | [_], _ => rfl
  h_write_table := f_has X Gn c 18 47 rfl rfl fun _ _ _ _ _ _ us hl => match us, hl with | [_, _], _ => rfl
  h_read_table := f_has X Gn c 19 48 rfl rfl fun _ _ _ _ _ _ us hl => match us, hl with | [_, _], _ => rfl
  h__row_in := f_has X Gn c 20 49 rfl rfl fun _ _ _ _ _ _ us hl => match us, hl with | [_], _ => rfl
  h__number_in := f_has X Gn c 21 50 rfl rfl fun _ _ _ _ _ _ us hl => match us, hl with | [_], _ => rfl
  h_write_filter := f_has X Gn c 22 51 rfl rfl fun _ _ _ _ _ _ us hl => match us, hl with | [_], _ => rfl
  h__text_of := f_has X Gn c 23 52 rfl rfl fun _ _ _ _ _ _ us hl => match us, hl with | [_], _ => rfl
  h_read_filter := f_has X Gn c 24 53 rfl rfl fun _ _ _ _ _ _ us hl => match us, hl with | [_], _ => rfl
  h__parts_in := f_has X Gn c 25 54 rfl rfl fun _ _ _ _ _ _ us hl => match us, hl with | [_], _ => rfl
  h__law_taken := f_has X Gn c 26 55 rfl rfl fun _ _ _ _ _ _ us hl => match us, hl with | [_, _], _ => rfl
  h__law_pick := f_has X Gn c 27 56 rfl rfl fun _ _ _ _ _ _ us hl => match us, hl with | [_, _], _ => rfl
  h__law_alike := f_has X Gn c 28 57 rfl rfl fun _ _ _ _ _ _ us hl => match us, hl with | [_, _], _ => rfl
  h__law_semantics := f_has X Gn c 29 58 rfl rfl fun _ _ _ _ _ _ us hl => match us, hl with | [_], _ => rfl
  h__law_rank := f_has X Gn c 30 59 rfl rfl fun _ _ _ _ _ _ us hl => match us, hl with | [_], _ => rfl
  h__law_sorted := f_has X Gn c 31 60 rfl rfl fun _ _ _ _ _ _ us hl => match us, hl with | [_], _ => rfl
  h__law_value := f_has X Gn c 32 61 rfl rfl fun _ _ _ _ _ _ us hl => match us, hl with | [_, _], _ => rfl
  h__law_table := f_has X Gn c 33 62 rfl rfl fun _ _ _ _ _ _ us hl => match us, hl with | [_, _, _], _ => rfl
  h__law_filter := f_has X Gn c 34 63 rfl rfl fun _ _ _ _ _ _ us hl => match us, hl with | [_, _], _ => rfl
  h__law_wrong := f_has X Gn c 35 64 rfl rfl fun _ _ _ _ _ _ us hl => match us, hl with | [_], _ => rfl
  h__law_words := f_has X Gn c 36 65 rfl rfl fun _ _ _ _ _ _ us hl => match us, hl with | [_], _ => rfl
end
abbrev dLaw : DefRec := topDef RW.prog 62
theorem e_pb : behindTheImports RW.prog = l1 ++ .Assign [tgOf fstS] (.Dict (keysOf fstS) (valsOf fstS) (pos2Of fstS)) (posOf fstS) :: l2 := by kernel_rfl
theorem e_pk : (keysOf fstS).all (fun k => match k with
      | some k => isTup k
      | none => false) = true := by kernel_rfl
theorem e_pl : (keysOf fstS).length = 17 := by kernel_rfl
theorem e_pv : (keysOf fstS).length = (valsOf fstS).length := by kernel_rfl
theorem e_ps (env : Env) : swapsWithSole [tgOf fstS] (.Dict (keysOf fstS) (valsOf fstS) (pos2Of fstS)) (posOf fstS).line env = pure false := by rfl
theorem e_o1 : opening RW.prog = plainProg RW.prog.main.scope.names := by kernel_rfl
theorem e_o2 (s : Shared) : fenceModules? RW.prog s = some s := by kernel_rfl
theorem e_o3 : chainsOk qv = true := by kernel_rfl
theorem e_h1 : defOf qv RW.name = some (dLaw, []) := by kernel_rfl
theorem e_h2 : RW.prog.theDef RW.name = some (dLaw.params, dLaw.body, dLaw.scope) := by kernel_rfl
theorem e_h3 : kwWritten? dLaw.params.kwonlyargs dLaw.params.kw_defaults = some [] := by rfl
theorem e_h6 : (chainsOk qv && opensWell RW.prog && (frees RW.toRowW && RW.within.isEmpty)) = true := by decide +kernel
theorem e_h7 : RW.prog.bare := ⟨rfl, rfl, rfl, rfl, rfl, by decide +kernel⟩
theorem e_nm : dLaw.name = ("law" : PySem.Str) := by kernel_rfl
theorem e_df : dLaw.params.defaults = [] := by kernel_rfl
theorem e_call : WalkO qv lse (XL qv []) (hookL sp1 RW.prog 11).says RW.toRowW dLaw [] fun f vs => PySem.call f vs := by
  refine LamX.walk_ofTsE (l := PySem.Challenge.rw_queryheld_k10_whole_texts) (n := 63) (k := 30) (x := "script") (CX := fun w => L2.CX (PySem.Challenge.rw_queryheld_k10_whole_texts).prog w) rfl (by decide) e_df ⟨rfl, by decide, by decide⟩ ?F cx_end
  intro w mg fa h Y G hmg0
  obtain ⟨K, cc, P, KX, c, hcd, nP, hP, hcode, hmore⟩ := Y
  refine ⟨K, KX, ?_⟩
  have hmg : mg ("law" : PySem.Str) = some (.ref fa) := by
    rw [← e_nm]
    exact hmg0
  obtain ⟨oc, od, osl, kV, doc, pm, an, cdv, ct, h1, h2, h3, h4⟩ := f_fun (st := st_law) KX G c 37 66 rfl rfl
  obtain ⟨oc', od', osl', kV', doc', pm', an', cdv', ct', q1, q2, q3, q4⟩ := f_fun (st := st__law_wrong) KX G c 35 64 rfl rfl
  have ec := code_is h2 hcode
  subst ec
  exact law_mk KX G hmg (fun base => tp_all KX G c) (fun base => df_all KX G c) (fun base => HM.wr_of KX G hmore) (fun base => HM.fw_mk KX G (glo_ns (fact c 64)) q2 q3 q4 fun _ _ _ _ _ _ us hl => match us, hl with | [_], _ => rfl) (glo_ns (fact c 66)) h2 h3 hcd nP hP
end K10
end
open PySem PySem.W PySem.Calls PyProof.Rows
theorem PySem.Challenge.cw_queryheld_k10_whole_texts_holds : PySem.Challenge.rw_queryheld_k10_whole_texts.Holds := by
  w_on; o_law
  refine HM.holds_behind (fun w => HM.behind_runL (pos := K10.posOf K10.fstS) (K10.size_w w) (K10.main_w w) (K10.dict_w w) (HM.parts_ok K10.e_pb K10.e_pk K10.e_pl K10.e_pv K10.e_ps) K10.e_o1 K10.e_o2 K10.e_o3) K10.e_h1 K10.e_h2 K10.e_h3 ?h4 ?h5 K10.e_h6 K10.e_h7 ?hw K10.e_call
  case h4 => decide +kernel
  case h5 => exact K10.e_h5
  case hw => w_witness2
