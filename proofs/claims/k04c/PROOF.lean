import PyProof.Rows.All
import Wide.All
import OpenK.AllK
import Wide.FinOn
import PyProof.EqAt
import PyProof.EqKinds
import PyProof.TupleCall
import HandS.ForMost
import HandS.ForExc
import HandS.ExcOwn
import HandS.IsInst
import HandS.Deep
import HandS.TupAny
import HandS.More
import HandS.Flow
import HandS.Zip
import KE.DataCmp
import KE.DataFind
import KE.DataMinMax
import KE.SortData
import HandS.TupMul
import HandS.Style
import KE.KStateDown
import HandS.Head2
import HandS.Dict
import PyProof.DictDisplay
import HandS.HeadHook3
import HandS.HeadWalk
import KE.GoesEnum
import HandS.Lambda
import HandS.EndTab
import HandS.ExcIs
import PySem.Challenge.RW_queryheld_k04_whole_filters
set_option Elab.async false
set_option linter.all false
set_option maxRecDepth 100000
set_option maxHeartbeats 4000000
namespace DL
open PySem PySem.Spec PyProof.Rows L2
abbrev D := PyData
def SqLM (K : PySem.W.Frag) (M : Addr → Prop) (H : Hp) (a : Addr) (xs : List V) : Prop :=
  (Rd H a (.lst xs) ∧ ¬ M a) ∨
    ∃ (o : Obj) (its : Array Value) (n : Nat), K.lookup a = some o ∧ o.cls = .type "list" ∧ o.dict = none ∧ o.data = .seq its n ∧ its.size ≤ sizeLine ∧ Vals xs its.toList
theorem SqLM.sq {K : PySem.W.Frag} {M : Addr → Prop} {H : Hp} {a : Addr} {xs : List V} (h : SqLM K M H a xs) : SqL K H a xs := by
  rcases h with ⟨h, _⟩ | h
  · exact .inl h
  · exact .inr h
mutual
inductive Da (K : PySem.W.Frag) (M : Addr → Prop) (H : Hp) : V → D → Prop
  | non : Da K M H .non .none
  | bl (b : Bool) : Da K M H (.bl b) (.bool b)
  | int (i : Int) : Da K M H (.int i) (.int i)
  | str (x : Str) : Da K M H (.str x) (.str x)
  | lst {a : Addr} {xs : List V} {ds : List D} : H a = some (.lst xs) → ¬ M a → DaL K M H xs ds → Da K M H (.ref a) (.list ds)
  | tup {a : Addr} {xs : List V} {ds : List D} : SqT K H a xs → DaL K M H xs ds → Da K M H (.ref a) (.tuple ds)
inductive DaL (K : PySem.W.Frag) (M : Addr → Prop) (H : Hp) : List V → List D → Prop
  | nil : DaL K M H [] []
  | cons {v : V} {vs : List V} {d : D} {ds : List D} : Da K M H v d → DaL K M H vs ds → DaL K M H (v :: vs) (d :: ds)
end
/-- M holds lists alone -/
def Ml (M : Addr → Prop) (H : Hp) : Prop := ∀ b, M b → ∃ xs, H b = some (.lst xs)
/-- all that was tracked, but M, is as it was -/
def Kp (M : Addr → Prop) (H H' : Hp) : Prop := ∀ b o, ¬ M b → H b = some o → H' b = some o
theorem Kp.refl {M : Addr → Prop} (H : Hp) : Kp M H H := fun _ _ _ h => h
theorem Kp.trans {M : Addr → Prop} {H H1 H2 : Hp} (a : Kp M H H1) (b : Kp M H1 H2) : Kp M H H2 := fun c o n h => b c o n (a c o n h)
theorem Kp.of_same {M : Addr → Prop} {H H' : Hp} (a : Same H H') : Kp M H H' := fun c o _ h => a c o h
theorem Kp.mono {M M' : Addr → Prop} {H H' : Hp} (a : Kp M H H') (h : ∀ b, M b → M' b) : Kp M' H H' := fun c o n q => a c o (fun z => n (h c z)) q
section
variable {K : PySem.W.Frag} {M M' : Addr → Prop} {H H' : Hp}
theorem sqt_kp {a : Addr} {xs : List V} (h : SqT K H a xs) (ml : Ml M H) (k : Kp M H H') : SqT K H' a xs := by
  rcases h with (h | ⟨o, h⟩) | h
  · refine .inl (.inl (k _ _ (fun m => ?_) h))
    obtain ⟨ys, e⟩ := ml _ m
    rw [h] at e; cases e
  · refine .inl (.inr ⟨o, k _ _ (fun m => ?_) h⟩)
    obtain ⟨ys, e⟩ := ml _ m
    rw [h] at e; cases e
  · exact .inr h
theorem sqt_same {a : Addr} {xs : List V} (s : Same H H') (h : SqT K H a xs) : SqT K H' a xs := by
  rcases h with (h | ⟨o, h⟩) | h
  · exact .inl (.inl (s _ _ h))
  · exact .inl (.inr ⟨o, s _ _ h⟩)
  · exact .inr h
theorem sqlm_kp {a : Addr} {xs : List V} (h : SqLM K M H a xs) (k : Kp M H H') : SqLM K M H' a xs := by
  rcases h with ⟨h | ⟨o, h⟩, n⟩ | h
  · exact .inl ⟨.inl (k _ _ n h), n⟩
  · exact .inl ⟨.inr ⟨o, k _ _ n h⟩, n⟩
  · exact .inr h
theorem sqlm_sub {a : Addr} {xs : List V} (h : SqLM K M H a xs) (s : ∀ b, M' b → M b) : SqLM K M' H a xs := by
  rcases h with ⟨h, n⟩ | h
  · exact .inl ⟨h, fun z => n (s _ z)⟩
  · exact .inr h
mutual
theorem Da.kp (ml : Ml M H) (k : Kp M H H') : ∀ {v : V} {d : D}, Da K M H v d → Da K M H' v d
  | _, _, .non => .non
  | _, _, .bl b => .bl b
  | _, _, .int i => .int i
  | _, _, .str x => .str x
  | _, _, .lst h n t => .lst (k _ _ n h) n (DaL.kp ml k t)
  | _, _, .tup h t => .tup (sqt_kp h ml k) (DaL.kp ml k t)
theorem DaL.kp (ml : Ml M H) (k : Kp M H H') : ∀ {vs : List V} {ds : List D}, DaL K M H vs ds → DaL K M H' vs ds
  | _, _, .nil => .nil
  | _, _, .cons h t => .cons (Da.kp ml k h) (DaL.kp ml k t)
end
mutual
theorem Da.sub (s : ∀ b, M' b → M b) : ∀ {v : V} {d : D}, Da K M H v d → Da K M' H v d
  | _, _, .non => .non
  | _, _, .bl b => .bl b
  | _, _, .int i => .int i
  | _, _, .str x => .str x
  | _, _, .lst h n t => .lst h (fun z => n (s _ z)) (DaL.sub s t)
  | _, _, .tup h t => .tup h (DaL.sub s t)
theorem DaL.sub (s : ∀ b, M' b → M b) : ∀ {vs : List V} {ds : List D}, DaL K M H vs ds → DaL K M' H vs ds
  | _, _, .nil => .nil
  | _, _, .cons h t => .cons (Da.sub s h) (DaL.sub s t)
end
mutual
theorem Da.same (s : Same H H') : ∀ {v : V} {d : D}, Da K M H v d → Da K M H' v d
  | _, _, .non => .non
  | _, _, .bl b => .bl b
  | _, _, .int i => .int i
  | _, _, .str x => .str x
  | _, _, .lst h n t => .lst (s _ _ h) n (DaL.same s t)
  | _, _, .tup h t => .tup (sqt_same s h) (DaL.same s t)
theorem DaL.same (s : Same H H') : ∀ {vs : List V} {ds : List D}, DaL K M H vs ds → DaL K M H' vs ds
  | _, _, .nil => .nil
  | _, _, .cons h t => .cons (Da.same s h) (DaL.same s t)
end
/-- no list within -/
def noL : D → Bool
  | .none => true
  | .bool _ => true
  | .int _ => true
  | .str _ => true
  | .list _ => false
  | .tuple ds => noLs ds
  | .dict _ => false
where noLs : List D → Bool
  | [] => true
  | d :: ds => noL d && noLs ds
mutual
theorem Da.any : ∀ {v : V} {d : D}, noL d = true → Da K M H v d → Da K M' H v d
  | _, _, _, .non => .non
  | _, _, _, .bl b => .bl b
  | _, _, _, .int i => .int i
  | _, _, _, .str x => .str x
  | _, _, n, .lst h _ t => by simp [noL] at n
  | _, _, n, .tup h t => .tup h (DaL.any (by simpa [noL] using n) t)
theorem DaL.any : ∀ {vs : List V} {ds : List D}, noL.noLs ds = true → DaL K M H vs ds → DaL K M' H vs ds
  | _, _, _, .nil => .nil
  | _, _, n, .cons h t => by
    simp only [noL.noLs, Bool.and_eq_true] at n
    exact .cons (Da.any n.1 h) (DaL.any n.2 t)
end
mutual
theorem Da.dp : ∀ {v : V} {d : D}, Da K M H v d → Dp K H v d
  | _, _, .non => .non
  | _, _, .bl b => .bl b
  | _, _, .int i => .int i
  | _, _, .str x => .str x
  | _, _, .lst h _ t => .lst (.of h) (DaL.dp t)
  | _, _, .tup h t => .tup h (DaL.dp t)
theorem DaL.dp : ∀ {vs : List V} {ds : List D}, DaL K M H vs ds → DpAll K H vs ds
  | _, _, .nil => .nil
  | _, _, .cons h t => .cons (Da.dp h) (DaL.dp t)
end
theorem DaL.length : ∀ {vs : List V} {ds : List D}, DaL K M H vs ds → vs.length = ds.length
  | _, _, .nil => rfl
  | _, _, .cons _ t => congrArg (· + 1) (DaL.length t)
theorem DaL.get : ∀ {vs : List V} {ds : List D} {i : Nat} {d : D}, DaL K M H vs ds → ds[i]? = some d → ∃ v, vs[i]? = some v ∧ Da K M H v d
  | _, _, _, _, .nil, e => by simp at e
  | _, _, 0, _, .cons h _, e => by simp at e; subst e; exact ⟨_, rfl, h⟩
  | _, _, i + 1, d, .cons _ t, e => by
    obtain ⟨v, h1, h2⟩ := DaL.get (i := i) (d := d) t (by simpa using e)
    exact ⟨v, by simpa using h1, h2⟩
theorem DaL.append : ∀ {vs ws : List V} {ds es : List D}, DaL K M H vs ds → DaL K M H ws es → DaL K M H (vs ++ ws) (ds ++ es)
  | _, _, _, _, .nil, q => q
  | _, _, _, _, .cons h t, q => .cons h (DaL.append t q)
theorem DaL.dropLast : ∀ {vs : List V} {ds : List D}, DaL K M H vs ds → DaL K M H vs.dropLast ds.dropLast
  | _, _, .nil => .nil
  | _, _, .cons h .nil => .nil
  | _, _, .cons h (.cons h2 t) => .cons h (DaL.dropLast (.cons h2 t))
theorem DaL.take : ∀ {vs : List V} {ds : List D} (n : Nat), DaL K M H vs ds → DaL K M H (vs.take n) (ds.take n)
  | _, _, 0, _ => by simp; exact .nil
  | _, _, _ + 1, .nil => .nil
  | _, _, n + 1, .cons h t => .cons h (DaL.take n t)
theorem DaL.drop : ∀ {vs : List V} {ds : List D} (n : Nat), DaL K M H vs ds → DaL K M H (vs.drop n) (ds.drop n)
  | _, _, 0, t => t
  | _, _, _ + 1, .nil => .nil
  | _, _, n + 1, .cons h t => DaL.drop n t
/-- a new object leaves M and what is tracked -/
theorem Ml.upd {p : Addr} {o : HO} (ml : Ml M H) (hp : H p = none) : Ml M (upd H p o) := fun b m => by
  obtain ⟨xs, e⟩ := ml b m
  exact ⟨xs, by rw [upd_ne (ne_of_none e hp)]; exact e⟩
theorem same_upd {p : Addr} {o : HO} (hp : H p = none) : Same H (upd H p o) := fun b u q => by rw [upd_ne (ne_of_none q hp)]; exact q
theorem Ml.fresh {p : Addr} (ml : Ml M H) (hp : H p = none) : ¬ M p := fun m => by
  obtain ⟨xs, e⟩ := ml p m
  rw [hp] at e; cases e
/-- a fresh tuple, a fresh list -/
theorem Da.newT {p : Addr} {vs : List V} {ds : List D} (ml : Ml M H) (hp : H p = none) (h : DaL K M H vs ds) : Da K M (upd H p (.tup vs)) (.ref p) (.tuple ds) :=
  .tup (.inl (.inl upd_same)) (h.kp ml (.of_same (same_upd hp)))
theorem Da.newL {p : Addr} {vs : List V} {ds : List D} (ml : Ml M H) (hp : H p = none) (h : DaL K M H vs ds) : Da K M (upd H p (.lst vs)) (.ref p) (.list ds) :=
  .lst upd_same (ml.fresh hp) (h.kp ml (.of_same (same_upd hp)))
end
structure RS where
  ns : List Int
  a : Nat
  b : Int
  c : Int
inductive Out (α : Type) where
  | val (a : α)
  | exc (cls : Str) (idx : Option Int)
abbrev Mn (α : Type) := RS → Option (Out α × RS)
inductive Slot where
  | hid
  | dat (d : D)
  | row
  | own (ds : List D)
abbrev Ev := List Slot
/-- where the row stands, and its script -/
structure Rw where
  a : Addr
  sc : Addr
  ns : List Int
def RowAt (K : PySem.W.Frag) (M : Addr → Prop) (H : Hp) (r : Rw) (rs : RS) : Prop :=
  (H r.a = some (.lst [.ref r.sc, .int (rs.a : Int), .int rs.b, .int rs.c]) ∧ rs.ns = r.ns) ∧ SqLM K M H r.sc (r.ns.map V.int)
/-- all that was tracked but the row -/
def Stp (r : Rw) (H H' : Hp) : Prop := ∀ b o, b ≠ r.a → H b = some o → H' b = some o
theorem Stp.refl {r : Rw} (H : Hp) : Stp r H H := fun _ _ _ h => h
theorem Stp.trans {r : Rw} {H H1 H2 : Hp} (a : Stp r H H1) (b : Stp r H1 H2) : Stp r H H2 := fun c o n h => b c o n (a c o n h)
theorem Stp.of_same {r : Rw} {H H' : Hp} (a : Same H H') : Stp r H H' := fun c o _ h => a c o h
theorem Stp.kp {M : Addr → Prop} {r : Rw} {H H' : Hp} (mr : M r.a) (a : Stp r H H') : Kp M H H' := fun b o n h => a b o (fun z => n (z ▸ mr)) h
def SlotAt (K : PySem.W.Frag) (M : Addr → Prop) (r : Rw) (σ : L2.St) (H : Hp) (i : Nat) : Slot → Prop
  | .hid => True
  | .own _ => True
  | .dat d => ∃ v, σ[i]? = some (some v) ∧ Da K M H v d
  | .row => σ[i]? = some (some (.ref r.a))
structure RelE (K : PySem.W.Frag) (M : Addr → Prop) (r : Rw) (σ : L2.St) (H : Hp) (ev : Ev) (rs : RS) : Prop where
  mr : M r.a
  ml : Ml M H
  row : RowAt K M H r rs
  slots : ∀ i s, ev[i]? = some s → SlotAt K M r σ H i s
  len : ev.length ≤ σ.length
section
variable {K : PySem.W.Frag} {M : Addr → Prop} {r : Rw} {σ : L2.St} {H H' H1 : Hp} {ev : Ev} {rs rs' : RS}
theorem Ml.stp (mr : M r.a) (ml : Ml M H) (s : Stp r H H') (rw' : RowAt K M H' r rs') : Ml M H' := fun b m => by
  by_cases e : b = r.a
  · obtain ⟨⟨q, _⟩, _⟩ := rw'
    exact ⟨_, by rw [e]; exact q⟩
  · obtain ⟨xs, q⟩ := ml b m
    exact ⟨xs, s _ _ e q⟩
theorem SlotAt.kp {i : Nat} (ml : Ml M H) (k : Kp M H H') : ∀ {s : Slot}, SlotAt K M r σ H i s → SlotAt K M r σ H' i s
  | .hid, _ => trivial
  | .own _, _ => trivial
  | .dat d, ⟨v, e, h⟩ => ⟨v, e, h.kp ml k⟩
  | .row, h => h
theorem RelE.stp (R : RelE K M r σ H ev rs) (s : Stp r H H') (rw' : RowAt K M H' r rs') : RelE K M r σ H' ev rs' :=
  ⟨R.mr, R.ml.stp R.mr s rw', rw', fun i t e => (R.slots i t e).kp R.ml (s.kp R.mr), R.len⟩
theorem RowAt.new {p : Addr} {o : HO} (ml : Ml M H) (mr : M r.a) (h : RowAt K M H r rs) (hp : H p = none) : RowAt K M (upd H p o) r rs := by
  obtain ⟨⟨e, e'⟩, q⟩ := h
  exact ⟨⟨by rw [upd_ne (ne_of_none e hp)]; exact e, e'⟩, sqlm_kp q (.of_same (same_upd hp))⟩
theorem RelE.new {p : Addr} {o : HO} (R : RelE K M r σ H ev rs) (hp : H p = none) : RelE K M r σ (upd H p o) ev rs :=
  R.stp (.of_same (same_upd hp)) (R.row.new R.ml R.mr hp)
end
def ExA (mg : Str → Option Value) (x : Str) (i : Option Int) (cls : Value) (dd : Option Addr) (H : Hp) : Prop :=
  (∃ C, mg x = some (.ref C) ∧ cls = .ref C) ∧ (match i with
    | none => dd = none
    | some n => ∃ d, dd = some d ∧ H d = some (.xd [(("index" : Str), V.int n)]))
/-- what is wanted of an outcome -/
def Wan {α : Type} (K : PySem.W.Frag) (mg : Str → Option Value) (M : Addr → Prop) (r : Rw) (H : Hp) (rs' : RS) (E : XK) (V : α → Hp → Prop) : Out α → Prop
  | .val d => ∀ H', Stp r H H' → RowAt K M H' r rs' → V d H'
  | .exc x i => ∀ cls dd H', Stp r H H' → RowAt K M H' r rs' → ExA mg x i cls dd H' → E cls dd H'
def tE (K : PySem.W.Frag) (mg : Str → Option Value) (W : WX) (f : Ev → Mn D) : TE := fun σ H Q =>
  ∃ M r ev rs, RelE K M r σ H ev rs ∧ ∃ o rs', f ev rs = some (o, rs') ∧ Wan K mg M r H rs' (fun cls dd H' => W cls dd σ H') (fun d H' => ∀ v, Da K M H' v d → Q v H') o
def tT (K : PySem.W.Frag) (mg : Str → Option Value) (W : WX) (f : Ev → Mn Bool) : TT := fun σ H Q =>
  ∃ M r ev rs, RelE K M r σ H ev rs ∧ ∃ o rs', f ev rs = some (o, rs') ∧ Wan K mg M r H rs' (fun cls dd H' => W cls dd σ H') (fun b H' => Q b H') o
/-- arguments: data, or the row -/
inductive ArgL (K : PySem.W.Frag) (M : Addr → Prop) (r : Rw) (H : Hp) : List V → List Slot → Prop
  | nil : ArgL K M r H [] []
  | dat {v : V} {d : D} {vs : List V} {ss : List Slot} : Da K M H v d → ArgL K M r H vs ss → ArgL K M r H (v :: vs) (.dat d :: ss)
  | row {vs : List V} {ss : List Slot} : ArgL K M r H vs ss → ArgL K M r H (.ref r.a :: vs) (.row :: ss)
theorem ArgL.kp {K : PySem.W.Frag} {M : Addr → Prop} {r : Rw} {H H' : Hp} (ml : Ml M H) (k : Kp M H H') : ∀ {vs : List V} {ss : List Slot}, ArgL K M r H vs ss → ArgL K M r H' vs ss
  | _, _, .nil => .nil
  | _, _, .dat h t => .dat (h.kp ml k) (ArgL.kp ml k t)
  | _, _, .row t => .row (ArgL.kp ml k t)
theorem ArgL.length {K : PySem.W.Frag} {M : Addr → Prop} {r : Rw} {H : Hp} : ∀ {vs : List V} {ss : List Slot}, ArgL K M r H vs ss → vs.length = ss.length
  | _, _, .nil => rfl
  | _, _, .dat _ t => congrArg (· + 1) (ArgL.length t)
  | _, _, .row t => congrArg (· + 1) (ArgL.length t)
def tAr (K : PySem.W.Frag) (mg : Str → Option Value) (W : WX) (f : Ev → Mn (List Slot)) : TA := fun σ H Q =>
  ∃ M r ev rs, RelE K M r σ H ev rs ∧ ∃ o rs', f ev rs = some (o, rs') ∧ Wan K mg M r H rs' (fun cls dd H' => W cls dd σ H') (fun ss H' => ∀ vs, ArgL K M r H' vs ss → Q vs H') o
structure Gm where
  P : Program
  w : World
  K : PySem.W.Frag
  mg : Str → Option Value
  base : Heap
/-- a scope; which of its cells are stored here -/
structure Sx where
  sc : Scope
  fc : Str → Bool
structure Gd (G : Gm) (k : Nat) (sc : Sx) (N : List Str) (X : Cx) : Prop where
  hN : X.N = N
  nd : N.Nodup
  hsc : X.env.scope = sc.sc
  hfc : ∀ x, sc.fc x = true → X.fn x = true
  calm : X.calm = true
  room : Room k X.A
  hP : X.prog = G.P
  hw : X.w = G.w
  hK : X.K = G.K
  hmg : X.mg = G.mg
  hb : X.base = G.base
def SE (G : Gm) (k : Nat) (sc : Sx) (N : List Str) (e : Expr) (f : Ev → Mn D) : Prop := ∀ (X : Cx) (W : WX), Gd G k sc N X → Takes X W → PE X e (tE G.K G.mg W f)
def ST (G : Gm) (k : Nat) (sc : Sx) (N : List Str) (e : Expr) (f : Ev → Mn Bool) : Prop := ∀ (X : Cx) (W : WX), Gd G k sc N X → Takes X W → PT X e (tT G.K G.mg W f)
def SA (G : Gm) (k : Nat) (sc : Sx) (N : List Str) (es : List Expr) (f : Ev → Mn (List Slot)) : Prop := ∀ (X : Cx) (W : WX), Gd G k sc N X → Takes X W → PA X es (tAr G.K G.mg W f)
theorem pe_imp {X : Cx} {e : Expr} {t t' : TE} (h : PE X e t) (i : ∀ σ H Q, t' σ H Q → t σ H Q) : PE X e t' := ⟨fun pins s σ H Q I q => h.run pins s σ H Q I (i σ H Q q)⟩
theorem pt_imp {X : Cx} {e : Expr} {t t' : TT} (h : PT X e t) (i : ∀ σ H Q, t' σ H Q → t σ H Q) : PT X e t' := ⟨fun pins s σ H Q I q => h.run pins s σ H Q I (i σ H Q q)⟩
theorem pa_imp {X : Cx} {e : List Expr} {t t' : TA} (h : PA X e t) (i : ∀ σ H Q, t' σ H Q → t σ H Q) : PA X e t' := ⟨fun pos pins s σ H Q I q => h.run pos pins s σ H Q I (i σ H Q q)⟩
theorem pss_imp {X : Cx} {e : List Stmt} {t t' : TS} (h : PSs X e t) (i : ∀ D σ H, t' D σ H → t D σ H) : PSs X e t' := ⟨fun pins s σ H D I q => h.run pins s σ H D I (i D σ H q)⟩
theorem ps_imp {X : Cx} {e : Stmt} {t t' : TS} (h : PS X e t) (i : ∀ D σ H, t' D σ H → t D σ H) : PS X e t' := ⟨fun pins s σ H D I q => h.run pins s σ H D I (i D σ H q)⟩
def pur {α : Type} (a : α) : Mn α := fun rs => some (.val a, rs)
def bnd {α β : Type} (m : Mn α) (f : α → Mn β) : Mn β := fun rs => match m rs with
  | none => none
  | some (.val a, rs') => f a rs'
  | some (.exc x i, rs') => some (.exc x i, rs')
def lft {α : Type} (o : Option α) : Mn α := fun rs => match o with
  | none => none
  | some a => some (.val a, rs)
theorem bnd_some {α β : Type} {m : Mn α} {f : α → Mn β} {rs : RS} {o : Out β} {rs' : RS} (h : bnd m f rs = some (o, rs')) :
    (∃ a rs1, m rs = some (.val a, rs1) ∧ f a rs1 = some (o, rs')) ∨ ∃ x i, m rs = some (.exc x i, rs') ∧ o = .exc x i := by
  unfold bnd at h
  split at h
  · cases h
  · rename_i a rs1 e; exact .inl ⟨a, rs1, e, h⟩
  · rename_i x i rs1 e; cases h; exact .inr ⟨x, i, e, rfl⟩
theorem lft_some {α : Type} {v : Option α} {rs rs' : RS} {o : Out α} (h : lft v rs = some (o, rs')) : ∃ a, v = some a ∧ o = .val a ∧ rs' = rs := by
  unfold lft at h
  split at h
  · cases h
  · rename_i a; cases h; exact ⟨a, rfl, rfl, rfl⟩
end DL
namespace DL
open PySem PySem.Spec PyProof.Rows L2
section
variable {K : PySem.W.Frag} {mg : Str → Option Value} {M : Addr → Prop} {r : Rw} {σ : L2.St} {H H' H1 : Hp} {ev : Ev} {rs rs' : RS} {W : WX}
theorem Wan.stp {α : Type} {E : XK} {V : α → Hp → Prop} {o : Out α} (w : Wan K mg M r H rs' E V o) (s : Stp r H H1) : Wan K mg M r H1 rs' E V o := by
  cases o with
  | val a => exact fun H' s' rw' => w H' (s.trans s') rw'
  | exc x i => exact fun cls dd H' s' rw' e => w cls dd H' (s.trans s') rw' e
theorem Wan.exc {α β : Type} {E : XK} {V : α → Hp → Prop} {V' : β → Hp → Prop} {x : Str} {i : Option Int} (w : Wan K mg M r H rs' E V (.exc x i)) : Wan K mg M r H rs' E V' (.exc x i) := w
theorem tE_bnd {β : Type} {fa : Ev → Mn D} {kk : D → Mn β} {o : Out β} {Vb : β → Hp → Prop} {Q1 : VK} (R : RelE K M r σ H ev rs) (h : bnd (fa ev) kk rs = some (o, rs')) (w : Wan K mg M r H rs' (fun cls dd H' => W cls dd σ H') Vb o)
    (c : ∀ x rs1 H1 v, RelE K M r σ H1 ev rs1 → Stp r H H1 → Da K M H1 v x → kk x rs1 = some (o, rs') → Wan K mg M r H1 rs' (fun cls dd H' => W cls dd σ H') Vb o → Q1 v H1) : tE K mg W fa σ H Q1 := by
  rcases bnd_some h with ⟨x, rs1, e1, e2⟩ | ⟨x, i, e1, rfl⟩
  · refine ⟨M, r, ev, rs, R, .val x, rs1, e1, fun H1 s1 w1 v d1 => ?_⟩
    exact c x rs1 H1 v (R.stp s1 w1) s1 d1 e2 (w.stp s1)
  · exact ⟨M, r, ev, rs, R, .exc x i, rs', e1, w.exc⟩
theorem tT_bnd {β : Type} {fa : Ev → Mn Bool} {kk : Bool → Mn β} {o : Out β} {Vb : β → Hp → Prop} {Q1 : Bool → Hp → Prop} (R : RelE K M r σ H ev rs) (h : bnd (fa ev) kk rs = some (o, rs')) (w : Wan K mg M r H rs' (fun cls dd H' => W cls dd σ H') Vb o)
    (c : ∀ x rs1 H1, RelE K M r σ H1 ev rs1 → Stp r H H1 → kk x rs1 = some (o, rs') → Wan K mg M r H1 rs' (fun cls dd H' => W cls dd σ H') Vb o → Q1 x H1) : tT K mg W fa σ H Q1 := by
  rcases bnd_some h with ⟨x, rs1, e1, e2⟩ | ⟨x, i, e1, rfl⟩
  · refine ⟨M, r, ev, rs, R, .val x, rs1, e1, fun H1 s1 w1 => ?_⟩
    exact c x rs1 H1 (R.stp s1 w1) s1 e2 (w.stp s1)
  · exact ⟨M, r, ev, rs, R, .exc x i, rs', e1, w.exc⟩
theorem tAr_bnd {β : Type} {fa : Ev → Mn (List Slot)} {kk : List Slot → Mn β} {o : Out β} {Vb : β → Hp → Prop} {Q1 : List V → Hp → Prop} (R : RelE K M r σ H ev rs) (h : bnd (fa ev) kk rs = some (o, rs')) (w : Wan K mg M r H rs' (fun cls dd H' => W cls dd σ H') Vb o)
    (c : ∀ x rs1 H1 vs, RelE K M r σ H1 ev rs1 → Stp r H H1 → ArgL K M r H1 vs x → kk x rs1 = some (o, rs') → Wan K mg M r H1 rs' (fun cls dd H' => W cls dd σ H') Vb o → Q1 vs H1) : tAr K mg W fa σ H Q1 := by
  rcases bnd_some h with ⟨x, rs1, e1, e2⟩ | ⟨x, i, e1, rfl⟩
  · refine ⟨M, r, ev, rs, R, .val x, rs1, e1, fun H1 s1 w1 v d1 => ?_⟩
    exact c x rs1 H1 v (R.stp s1 w1) s1 d1 e2 (w.stp s1)
  · exact ⟨M, r, ev, rs, R, .exc x i, rs', e1, w.exc⟩
end
section
variable {G : Gm} {k : Nat} {sc : Sx} {N : List Str}
def visB (sc : Sx) (x : Str) : Bool := match sc.sc.names.lookup x with
  | some .local => true
  | some .cell => true
  | some .free => true
  | _ => false
theorem vis_of {sc : Sx} {x : Str} (h : visB sc x = true) : Vis sc.sc x := by
  unfold visB at h
  split at h <;> first | exact .inl (by assumption) | exact .inr (.inl (by assumption)) | exact .inr (.inr (by assumption)) | cases h
def glB (sc : Sx) (x : Str) : Bool := match sc.sc.names.lookup x with
  | some .globalImplicit => true
  | _ => false
theorem gl_of {X : Cx} {x : Str} (g : Gd G k sc N X) (h : glB sc x = true) : Gl X x := by
  unfold glB at h
  split at h
  · rename_i e
    show X.env.scope.names.lookup x = _
    rw [g.hsc]; exact e
  · cases h
def getE (ev : Ev) (i : Nat) : Option D := match ev[i]? with
  | some (.dat d) => some d
  | _ => none
theorem getE_some {ev : Ev} {i : Nat} {d : D} (h : getE ev i = some d) : ev[i]? = some (.dat d) := by
  unfold getE at h
  split at h
  · rename_i e; cases h; exact e
  · cases h
def dVar (i : Nat) (ev : Ev) : Mn D := lft (getE ev i)
theorem e_var (i : Nat) {x : Str} {p : Pos} (hi : N[i]? = some x := by rfl) (hv : visB sc x = true := by rfl) (hd : (x == ("__debug__" : Str)) = false := by decide) (hcd : (x == ("__classdict__" : Str)) = false := by decide) : SE G k sc N (.Name x p) (dVar i) := by
  intro X W g tk
  refine pe_imp (pe_var (i := i) (by rw [g.hN]; exact hi) (by rw [g.hsc]; exact vis_of hv) hd hcd) fun σ H Q h => ?_
  obtain ⟨M, r, ev, rs, R, o, rs', e, w⟩ := h
  obtain ⟨d, e1, rfl, rfl⟩ := lft_some e
  obtain ⟨v, e2, hd⟩ := R.slots i _ (getE_some e1)
  exact ⟨v, e2, w H (.refl H) R.row v hd⟩
def dLit (d : D) (_ : Ev) : Mn D := pur d
theorem e_int {i : Int} {j : Nat} {p : Pos} : SE G k sc N (.Constant (.int i) j p) (dLit (.int i)) := fun X W g tk => pe_imp pe_int fun σ H Q h => by
  obtain ⟨M, r, ev, rs, R, o, rs', e, w⟩ := h
  cases e
  exact w H (.refl H) R.row _ (.int i)
theorem e_bl {b : Bool} {j : Nat} {p : Pos} : SE G k sc N (.Constant (.bool b) j p) (dLit (.bool b)) := fun X W g tk => pe_imp pe_bl fun σ H Q h => by
  obtain ⟨M, r, ev, rs, R, o, rs', e, w⟩ := h
  cases e
  exact w H (.refl H) R.row _ (.bl b)
theorem e_non {j : Nat} {p : Pos} : SE G k sc N (.Constant .none j p) (dLit .none) := fun X W g tk => pe_imp pe_non fun σ H Q h => by
  obtain ⟨M, r, ev, rs, R, o, rs', e, w⟩ := h
  cases e
  exact w H (.refl H) R.row _ .non
theorem e_str {x : Str} {j : Nat} {p : Pos} : SE G k sc N (.Constant (.str x) j p) (dLit (.str x)) := fun X W g tk => pe_imp pe_str fun σ H Q h => by
  obtain ⟨M, r, ev, rs, R, o, rs', e, w⟩ := h
  cases e
  exact w H (.refl H) R.row _ (.str x)
/-- a module's constant that is data -/
def GlD (G : Gm) (x : Str) (d : D) : Prop := ∃ u v, G.mg x = some u ∧ RelV v u ∧ ∀ M H, Da G.K M H v d
theorem e_glob {x : Str} {d : D} {p : Pos} (h : GlD G x d) (hg : glB sc x = true := by rfl) (hdb : (x == ("__debug__" : Str)) = false := by decide) : SE G k sc N (.Name x p) (dLit d) := fun X W g tk => by
  obtain ⟨u, v, h1, h2, h3⟩ := h
  refine pe_imp (pe_glob (gl_of g hg) (by rw [g.hmg]; exact h1) h2 hdb) fun σ H Q h => ?_
  obtain ⟨M, r, ev, rs, R, o, rs', e, w⟩ := h
  cases e
  exact w H (.refl H) R.row _ (h3 M H)
theorem e_bin {e a b : Expr} {fa fb : Ev → Mn D} {op : D → D → Option D} {rl : Cx → R2} (ha : SE G k sc N a fa) (hb : SE G k sc N b fb) (mk : ∀ X ta tb, Gd G k sc N X → PE X a ta → PE X b tb → PE X e (tOp (rl X) ta tb))
    (hr : ∀ X M H x y dx dy d Q, Gd G k sc N X → Ml M H → Da G.K M H x dx → Da G.K M H y dy → op dx dy = some d → (∀ v H', Same H H' → Da G.K M H' v d → Q v H') → rl X x y H Q) :
    SE G k sc N e (fun ev => bnd (fa ev) fun x => bnd (fb ev) fun y => lft (op x y)) := fun X W g tk => by
  refine pe_imp (mk X _ _ g (ha X W g tk) (hb X W g tk)) fun σ H Q h => ?_
  obtain ⟨M, r, ev, rs, R, o, rs', e, w⟩ := h
  refine tE_bnd R e w fun x rs1 H1 v R1 s1 d1 e1 w1 => tE_bnd R1 e1 w1 fun y rs2 H2 u R2 s2 d2 e2 w2 => ?_
  obtain ⟨d, e3, rfl, rfl⟩ := lft_some e2
  refine hr X M H2 v u x y d Q g R2.ml (d1.kp R1.ml (s2.kp R.mr)) d2 e3 fun z H3 s3 d3 => ?_
  exact w2 H3 (.of_same s3) (by
    obtain ⟨⟨q1, q1'⟩, q2⟩ := R2.row
    exact ⟨⟨s3 _ _ q1, q1'⟩, sqlm_kp q2 (.of_same s3)⟩) z d3
theorem row_same {K : PySem.W.Frag} {M : Addr → Prop} {r : Rw} {rs : RS} {H H' : Hp} (h : RowAt K M H r rs) (s : Same H H') : RowAt K M H' r rs := by
  obtain ⟨⟨q1, q1'⟩, q2⟩ := h
  exact ⟨⟨s _ _ q1, q1'⟩, sqlm_kp q2 (.of_same s)⟩
theorem e_one {e a : Expr} {fa : Ev → Mn D} {op : D → Option D} {rl : Cx → V → Hp → VK → Prop} (ha : SE G k sc N a fa) (mk : ∀ X ta, Gd G k sc N X → PE X a ta → PE X e (fun σ H Q => ta σ H fun x H1 => rl X x H1 Q))
    (hr : ∀ X M H x dx d Q, Gd G k sc N X → Ml M H → Da G.K M H x dx → op dx = some d → (∀ v H', Same H H' → Da G.K M H' v d → Q v H') → rl X x H Q) :
    SE G k sc N e (fun ev => bnd (fa ev) fun x => lft (op x)) := fun X W g tk => by
  refine pe_imp (mk X _ g (ha X W g tk)) fun σ H Q h => ?_
  obtain ⟨M, r, ev, rs, R, o, rs', e, w⟩ := h
  refine tE_bnd R e w fun x rs1 H1 v R1 s1 d1 e1 w1 => ?_
  obtain ⟨d, e3, rfl, rfl⟩ := lft_some e1
  exact hr X M H1 v x d Q g R1.ml d1 e3 fun z H3 s3 d3 => w1 H3 (.of_same s3) (row_same R1.row s3) z d3
def dNil (_ : Ev) : Mn (List Slot) := pur []
def dCons (f : Ev → Mn D) (g : Ev → Mn (List Slot)) (ev : Ev) : Mn (List Slot) := bnd (f ev) fun d => bnd (g ev) fun ss => pur (.dat d :: ss)
def isRow : Option Slot → Bool
  | some .row => true
  | _ => false
theorem isRow_some {o : Option Slot} (h : isRow o = true) : o = some .row := by
  unfold isRow at h
  split at h
  · rfl
  · cases h
def dRow (i : Nat) (g : Ev → Mn (List Slot)) (ev : Ev) : Mn (List Slot) := if isRow ev[i]? = true then bnd (g ev) fun ss => pur (.row :: ss) else fun _ => none
theorem a_nil : SA G k sc N [] dNil := fun X W g tk => pa_imp pa_nil fun σ H Q h => by
  obtain ⟨M, r, ev, rs, R, o, rs', e, w⟩ := h
  cases e
  exact w H (.refl H) R.row [] .nil
theorem a_cons {e : Expr} {es : List Expr} {f : Ev → Mn D} {ff : Ev → Mn (List Slot)} (h1 : SE G k sc N e f) (h2 : SA G k sc N es ff) (hs : ∀ env, starEach (e :: es) env = (false, eval e env) :: starEach es env := by intro _; rfl) : SA G k sc N (e :: es) (dCons f ff) := fun X W g tk => by
  refine pa_imp (pa_cons (h1 X W g tk) (h2 X W g tk) (hs _)) fun σ H Q h => ?_
  obtain ⟨M, r, ev, rs, R, o, rs', e, w⟩ := h
  refine tE_bnd R e w fun x rs1 H1 v R1 s1 d1 e1 w1 => tAr_bnd R1 e1 w1 fun ss rs2 H2 vs R2 s2 d2 e2 w2 => ?_
  cases e2
  exact w2 H2 (.refl _) R2.row _ (.dat (d1.kp R1.ml (s2.kp R.mr)) d2)
theorem a_row (i : Nat) {x : Str} {p : Pos} {es : List Expr} {ff : Ev → Mn (List Slot)} (h2 : SA G k sc N es ff) (hi : N[i]? = some x := by rfl) (hv : visB sc x = true := by rfl) (hd : (x == ("__debug__" : Str)) = false := by decide) (hcd : (x == ("__classdict__" : Str)) = false := by decide) :
    SA G k sc N (.Name x p :: es) (dRow i ff) := fun X W g tk => by
  refine pa_imp (pa_cons (pe_var (i := i) (by rw [g.hN]; exact hi) (by rw [g.hsc]; exact vis_of hv) hd hcd) (h2 X W g tk) rfl) fun σ H Q h => ?_
  obtain ⟨M, r, ev, rs, R, o, rs', e, w⟩ := h
  unfold dRow at e
  split at e
  · rename_i er
    refine ⟨.ref r.a, R.slots i _ (isRow_some er), ?_⟩
    refine tAr_bnd R e w fun ss rs2 H2 vs R2 s2 d2 e2 w2 => ?_
    cases e2
    exact w2 H2 (.refl _) R2.row _ (.row d2)
  · cases e
/-- all data -/
def dats : List Slot → Option (List D)
  | [] => some []
  | .dat d :: ss => (dats ss).map (d :: ·)
  | _ :: _ => none
theorem ArgL.dats {K : PySem.W.Frag} {M : Addr → Prop} {r : Rw} {H : Hp} : ∀ {vs : List V} {ss : List Slot} {ds : List D}, ArgL K M r H vs ss → DL.dats ss = some ds → DaL K M H vs ds
  | _, _, _, .nil, e => by cases e; exact .nil
  | _, _, _, .dat h t, e => by
    unfold DL.dats at e
    cases q : DL.dats _ with
    | none => rw [q] at e; cases e
    | some es => rw [q] at e; cases e; exact .cons h (ArgL.dats t q)
  | _, _, _, .row t, e => by simp [DL.dats] at e
def dTup (f : Ev → Mn (List Slot)) (ev : Ev) : Mn D := bnd (f ev) fun ss => lft (if ss.length ≤ sizeLine then (dats ss).map .tuple else none)
def dLst (f : Ev → Mn (List Slot)) (ev : Ev) : Mn D := bnd (f ev) fun ss => lft (if ss.length ≤ sizeLine then (dats ss).map .list else none)
theorem e_tup {es : List Expr} {x1 : Nat} {p : Pos} {f : Ev → Mn (List Slot)} (h : SA G k sc N es f) : SE G k sc N (.Tuple es x1 p) (dTup f) := fun X W g tk => by
  refine pe_imp (pe_tup (h X W g tk)) fun σ H Q h => ?_
  obtain ⟨M, r, ev, rs, R, o, rs', e, w⟩ := h
  refine tAr_bnd R e w fun ss rs2 H2 vs R2 s2 d2 e2 w2 => ?_
  obtain ⟨d, e3, rfl, rfl⟩ := lft_some e2
  split at e3
  · rename_i hl
    cases q : dats ss with
    | none => rw [q] at e3; cases e3
    | some ds =>
      rw [q] at e3; cases e3
      refine ⟨by rw [d2.length]; exact hl, fun p hp => ?_⟩
      exact w2 _ (.of_same (same_upd hp)) (row_same R2.row (same_upd hp)) _ (Da.newT R2.ml hp (d2.dats q))
  · cases e3
theorem e_lst {es : List Expr} {p : Pos} {f : Ev → Mn (List Slot)} (h : SA G k sc N es f) : SE G k sc N (.List es p) (dLst f) := fun X W g tk => by
  refine pe_imp (pe_lst (h X W g tk)) fun σ H Q h => ?_
  obtain ⟨M, r, ev, rs, R, o, rs', e, w⟩ := h
  refine tAr_bnd R e w fun ss rs2 H2 vs R2 s2 d2 e2 w2 => ?_
  obtain ⟨d, e3, rfl, rfl⟩ := lft_some e2
  split at e3
  · rename_i hl
    cases q : dats ss with
    | none => rw [q] at e3; cases e3
    | some ds =>
      rw [q] at e3; cases e3
      refine ⟨by rw [d2.length]; exact hl, fun p hp => ?_⟩
      exact w2 _ (.of_same (same_upd hp)) (row_same R2.row (same_upd hp)) _ (Da.newL R2.ml hp (d2.dats q))
  · cases e3
def spF (G : Gm) (n : Nat) (φ : List Slot → Mn D) : Sp := fun vs H Q E => vs.length = n ∧
  ∃ M r ss rs, M (Rw.a r) ∧ Ml M H ∧ RowAt G.K M H r rs ∧ ArgL G.K M r H vs ss ∧ ∃ o rs', φ ss rs = some (o, rs') ∧ Wan G.K G.mg M r H rs' E (fun d H' => ∀ v, Da G.K M H' v d → Q v H') o
def FO (G : Gm) (k : Nat) (x : Str) (n : Nat) (φ : List Slot → Mn D) : Prop :=
  ∃ (f : Addr) (fd : FuncData) (ps : List Str), G.mg x = some (.ref f) ∧ PySem.W.keepIn G.K (.ref f) = true ∧ Binds G.K fd ps [] ∧ ps.length = n ∧ FnOk G.P G.w G.K G.mg G.base (L2.CX G.P G.w) k f fd ps (spF G n φ)
/-- less is said -/
theorem FO.less {j : Nat} {x : Str} {n : Nat} {φ φ' : List Slot → Mn D} (h : FO G j x n φ) (l : ∀ ss rs o, φ' ss rs = some o → ss.length = n → φ ss rs = some o) : FO G j x n φ' := by
  obtain ⟨f, fd, ps, h1, h2, h3, h4, h5⟩ := h
  refine ⟨f, fd, ps, h1, h2, h3, h4, h5.imp fun vs H Q E q => ?_⟩
  obtain ⟨hn, M, r, ss, rs, m, ml, ro, ar, o, rs', e, w⟩ := q
  exact ⟨hn, M, r, ss, rs, m, ml, ro, ar, o, rs', l _ _ _ e (by rw [← ar.length]; exact hn), w⟩
def dCl (n : Nat) (φ : List Slot → Mn D) (f : Ev → Mn (List Slot)) (ev : Ev) : Mn D := bnd (f ev) fun ss => if ss.length = n then φ ss else fun _ => none
theorem e_call {x : Str} {n j : Nat} {φ : List Slot → Mn D} {p pos : Pos} {e : Expr} {es : List Expr} {f : Ev → Mn (List Slot)} (F : FO G j x n φ) (ha : SA G k sc N (e :: es) f) (hj : j ≤ k := by decide) (hg : glB sc x = true := by rfl) (hdb : (x == ("__debug__" : Str)) = false := by decide)
    (he : ∀ env, starEach (e :: es) env = (false, eval e env) :: starEach es env := by intro _; rfl) (hpl : ∀ env, (backTo pos (starEach es env)).any (·.1) = false := by intro _; rfl) : SE G k sc N (.Call (.Name x p) (e :: es) [] pos) (dCl n φ f) := fun X W g tk => by
  obtain ⟨fa, fd, ps, h1, h2, h3, h4, h5⟩ := F
  have F' : FnOk X.prog X.w X.K X.mg X.base (L2.CX X.prog X.w) j fa fd ps (spF G n φ) := by rw [g.hP, g.hw, g.hK, g.hmg, g.hb]; exact h5
  refine pe_imp (pe_callS F' (g.room.mono hj) (gl_of g hg) (by rw [g.hmg]; exact h1) (by rw [g.hK]; exact h2) (by rw [g.hK]; exact h3) (fun σ => passAt tk σ) (ha X W g tk) hdb (he _) (hpl _)) fun σ H Q h => ?_
  obtain ⟨M, r, ev, rs, R, o, rs', e, w⟩ := h
  refine tAr_bnd R e w fun ss rs2 H2 vs R2 s2 d2 e2 w2 => ?_
  split at e2
  · rename_i hl
    exact ⟨by rw [d2.length]; exact hl, M, r, ss, rs2, R2.mr, R2.ml, R2.row, d2, o, rs', e2, w2⟩
  · cases e2
end
end DL
namespace DL
open PySem PySem.Spec PyProof.Rows L2
section
variable {G : Gm} {k : Nat} {sc : Sx} {N : List Str}
theorem atI_da {K : PySem.W.Frag} {M : Addr → Prop} {H : Hp} {vs : List V} {ds : List D} {i : Int} {d : D} (h : DaL K M H vs ds) (e : atI ds i = some d) : ∃ v, atI vs i = some v ∧ Da K M H v d := by
  unfold atI at e ⊢
  rw [h.length]
  cases q : ixN ds.length i with
  | none => rw [q] at e; cases e
  | some j =>
    rw [q] at e
    obtain ⟨v, h1, h2⟩ := h.get (i := j) e
    exact ⟨v, h1, h2⟩
def ixD : D → D → Option D
  | .tuple ds, .int i => atI ds i
  | .list ds, .int i => atI ds i
  | .str z, .int i => if z.length ≤ sizeLine then (atI z.cps.toList i).map fun c => .str ⟨#[c]⟩ else none
  | _, _ => none
theorem e_ix {a b : Expr} {fa fb : Ev → Mn D} {p : Pos} (ha : SE G k sc N a fa) (hb : SE G k sc N b fb) (hs : ∀ o i, subscripted b false o i = operate [o, i] (getItem o i) := by intro _ _; rfl) :
    SE G k sc N (.Subscript a b p) (fun ev => bnd (fa ev) fun x => bnd (fb ev) fun y => lft (ixD x y)) := by
  refine e_bin (rl := fun X => rIx X.K) ha hb (fun X ta tb g h1 h2 => pe_ix ix_seq h1 h2 hs) fun X M H x y dx dy d Q g ml hx hy e hq => ?_
  rw [g.hK]
  cases hx with
  | tup h t =>
    cases hy with
    | int i =>
      obtain ⟨v, h1, h2⟩ := atI_da t e
      exact .inr (.inl ⟨_, _, i, v, rfl, rfl, h, h1, hq v H (.refl H) h2⟩)
    | _ => cases e
  | lst h n t =>
    cases hy with
    | int i =>
      obtain ⟨v, h1, h2⟩ := atI_da t e
      exact .inl ⟨_, _, i, v, rfl, rfl, .of h, h1, hq v H (.refl H) h2⟩
    | _ => cases e
  | str z =>
    cases hy with
    | int i =>
      have e : (if z.length ≤ sizeLine then (atI z.cps.toList i).map (fun c => PyData.str ⟨#[c]⟩) else none) = some d := e
      split at e
      · rename_i hl
        cases q : atI z.cps.toList i with
        | none => rw [q] at e; cases e
        | some c => rw [q] at e; cases e; exact .inr (.inr ⟨z, i, c, rfl, rfl, hl, q, hq _ H (.refl H) (.str _)⟩)
      · cases e
    | _ => cases e
  | _ => cases hy <;> cases e
def cutL (xs : List D) (lo hi : Option Int) : List D := (xs.drop (HT.sIx xs.length 0 lo)).take (HT.sIx xs.length xs.length hi - HT.sIx xs.length 0 lo)
theorem cut_da {K : PySem.W.Frag} {M : Addr → Prop} {H : Hp} {vs : List V} {ds : List D} (h : DaL K M H vs ds) (lo hi : Option Int) : DaL K M H (cutV vs lo hi) (cutL ds lo hi) := by
  unfold cutV cutL
  rw [h.length]
  exact (h.drop _).take _
/-- x[lo:] -/
def slLo : D → D → Option D
  | .tuple ds, .int i => some (.tuple (cutL ds (some i) none))
  | .list ds, .int i => some (.list (cutL ds (some i) none))
  | _, _ => none
theorem sl_any {X : Cx} : SlR X (fun x lo hi H Q => rSlA X.K x lo hi H Q ∨ rSlL X.K x lo hi H Q) := sl_tupA.or sl_list
theorem cutV_whole {xs : List V} {lo hi : Option Int} (hw : HT.sIx xs.length 0 lo = 0 ∧ HT.sIx xs.length xs.length hi = xs.length) : cutV xs lo hi = xs := by
  unfold cutV
  rw [hw.1, hw.2, List.drop_zero, Nat.sub_zero, List.take_length]
theorem sl_go {K : PySem.W.Frag} {M : Addr → Prop} {H : Hp} {Q : VK} {x : V} {dx : D} {lo hi : Option Int} {d : D} (ml : Ml M H) (hx : Da K M H x dx) (e : (match dx with
    | .tuple ds => some (PyData.tuple (cutL ds lo hi))
    | .list ds => some (PyData.list (cutL ds lo hi))
    | _ => none) = some d) (hq : ∀ v H', Same H H' → Da K M H' v d → Q v H') : rSlA K x lo hi H Q ∨ rSlL K x lo hi H Q := by
  cases hx with
  | tup h t =>
    cases e
    refine .inl ⟨_, _, rfl, h, fun hw => ?_, fun hw p hp => ?_⟩
    · refine hq _ _ (.refl _) (.tup h ?_)
      have q := cut_da t lo hi
      rw [cutV_whole hw] at q
      exact q
    · exact hq _ _ (same_upd hp) (Da.newT ml hp (cut_da t lo hi))
  | lst h n t =>
    cases e
    exact .inr ⟨_, _, rfl, .of h, fun p hp => hq _ _ (same_upd hp) (Da.newL ml hp (cut_da t lo hi))⟩
  | _ => cases e
theorem pe_sl {X : Cx} {a : Expr} {ta : TE} {lo hi : Option Expr} {tl th : TO} {p1 p2 : Pos} (h1 : PE X a ta) (hl : PO X lo tl) (hu : PO X hi th) : PE X (.Subscript a (.Slice lo hi none p1) p2) (tSl (fun x l u H Q => rSlA X.K x l u H Q ∨ rSlL X.K x l u H Q) ta tl th) := pe_slice sl_any h1 hl hu
theorem e_slLo {a b : Expr} {fa fb : Ev → Mn D} {p1 p2 : Pos} (ha : SE G k sc N a fa) (hb : SE G k sc N b fb) : SE G k sc N (.Subscript a (.Slice (some b) none none p1) p2) (fun ev => bnd (fa ev) fun x => bnd (fb ev) fun y => lft (slLo x y)) := by
  refine e_bin (rl := fun X x y H Q => ∃ i, y = .int i ∧ (rSlA X.K x (some i) none H Q ∨ rSlL X.K x (some i) none H Q)) ha hb (fun X ta tb g h1 h2 => pe_imp (pe_sl h1 (po_some h2) po_none) fun σ H Q h => h) fun X M H x y dx dy d Q g ml hx hy e hq => ?_
  rw [g.hK]
  cases hy with
  | int i =>
    refine ⟨i, rfl, sl_go (d := d) ml hx ?_ hq⟩
    cases dx <;> first | exact e | cases e
  | _ => cases dx <;> cases e
def CmpR (G : Gm) (k : Nat) (sc : Sx) (N : List Str) (op : CmpOp) (f : D → D → Option Bool) : Prop :=
  ∀ X, Gd G k sc N X → ∃ rl : R2, OpR X (compareOp op) rl ∧ ∀ M H x y dx dy b Q, Ml M H → Da G.K M H x dx → Da G.K M H y dy → f dx dy = some b → Q (.bl b) H → rl x y H Q
theorem e_cmp {a b : Expr} {fa fb : Ev → Mn D} {op : CmpOp} {f : D → D → Option Bool} {p : Pos} (c : CmpR G k sc N op f) (ha : SE G k sc N a fa) (hb : SE G k sc N b fb) (hm : behindInMarks op b = false := by first | exact nomark _ (by decide) (by decide) | rfl) :
    SE G k sc N (.Compare a [op] [b] p) (fun ev => bnd (fa ev) fun x => bnd (fb ev) fun y => lft ((f x y).map .bool)) := fun X W g tk => by
  obtain ⟨rl, ho, hr⟩ := c X g
  refine pe_imp (pe_cmpR ho (ha X W g tk) (hb X W g tk) hm) fun σ H Q h => ?_
  obtain ⟨M, r, ev, rs, R, o, rs', e, w⟩ := h
  refine tE_bnd R e w fun x rs1 H1 v R1 s1 d1 e1 w1 => tE_bnd R1 e1 w1 fun y rs2 H2 u R2 s2 d2 e2 w2 => ?_
  obtain ⟨d, e3, rfl, rfl⟩ := lft_some e2
  cases q : f x y with
  | none => rw [q] at e3; cases e3
  | some c => rw [q] at e3; cases e3; exact hr M H2 v u x y c Q R2.ml (d1.kp R1.ml (s2.kp R.mr)) d2 q (w2 H2 (.refl _) R2.row _ (.bl c))
theorem t_cmp {a b : Expr} {fa fb : Ev → Mn D} {op : CmpOp} {f : D → D → Option Bool} {p : Pos} (c : CmpR G k sc N op f) (ha : SE G k sc N a fa) (hb : SE G k sc N b fb) (hm : behindInMarks op b = false := by first | exact nomark _ (by decide) (by decide) | rfl) :
    ST G k sc N (.Compare a [op] [b] p) (fun ev => bnd (fa ev) fun x => bnd (fb ev) fun y => lft (f x y)) := fun X W g tk => by
  obtain ⟨rl, ho, hr⟩ := c X g
  refine pt_imp (pt_cmpR ho (ha X W g tk) (hb X W g tk) hm) fun σ H Q h => ?_
  obtain ⟨M, r, ev, rs, R, o, rs', e, w⟩ := h
  refine tE_bnd R e w fun x rs1 H1 v R1 s1 d1 e1 w1 => tE_bnd R1 e1 w1 fun y rs2 H2 u R2 s2 d2 e2 w2 => ?_
  obtain ⟨c, e3, rfl, rfl⟩ := lft_some e2
  exact hr M H2 v u x y c _ R2.ml (d1.kp R1.ml (s2.kp R.mr)) d2 e3 ⟨c, rfl, w2 H2 (.refl _) R2.row⟩
def eqD (x y : D) : Option Bool := if SeqAt.shaped x = true ∧ SeqAt.shaped y = true then some (PyData.eqv x y) else none
def neD (x y : D) : Option Bool := if SeqAt.shaped x = true ∧ SeqAt.shaped y = true then some (!PyData.eqv x y) else none
theorem c_eq : CmpR G k sc N .Eq eqD := fun X g => ⟨_, op_eqD g.room.units, fun M H x y dx dy b Q ml hx hy e q => by
  unfold eqD at e
  split at e
  · rename_i hs; cases e; rw [g.hK]; exact ⟨dx, dy, hx.dp, hy.dp, hs.1, hs.2, q⟩
  · cases e⟩
theorem c_ne : CmpR G k sc N .NotEq neD := fun X g => ⟨_, op_neD g.room.units, fun M H x y dx dy b Q ml hx hy e q => by
  unfold neD at e
  split at e
  · rename_i hs; cases e; rw [g.hK]; exact ⟨dx, dy, hx.dp, hy.dp, hs.1, hs.2, q⟩
  · cases e⟩
def ltD : D → D → Option Bool
  | .int i, .int j => some (decide (i < j))
  | .str x, .str y => some (decide (x.cps.toList < y.cps.toList))
  | _, _ => none
def leD : D → D → Option Bool
  | .int i, .int j => some (decide (i ≤ j))
  | _, _ => none
def gtD : D → D → Option Bool
  | .int i, .int j => some (decide (j < i))
  | _, _ => none
theorem c_lt : CmpR G k sc N .Lt ltD := fun X g => ⟨_, op_lt.or op_lt_str, fun M H x y dx dy b Q ml hx hy e q => by
  cases hx <;> cases hy <;> first
    | cases e; done
    | (cases e; exact .inl ⟨_, _, rfl, rfl, q⟩)
    | (cases e; exact .inr ⟨_, _, rfl, rfl, q⟩)⟩
theorem c_le : CmpR G k sc N .LtE leD := fun X g => ⟨_, op_le, fun M H x y dx dy b Q ml hx hy e q => by
  cases hx <;> cases hy <;> first
    | cases e; done
    | (cases e; exact ⟨_, _, rfl, rfl, q⟩)⟩
theorem c_gt : CmpR G k sc N .Gt gtD := fun X g => ⟨_, op_gt, fun M H x y dx dy b Q ml hx hy e q => by
  cases hx <;> cases hy <;> first
    | cases e; done
    | (cases e; exact ⟨_, _, rfl, rfl, q⟩)⟩
/-- x is y, y None or a bool -/
def isD : D → D → Option Bool
  | .none, .none => some true
  | _, .none => some false
  | .bool a, .bool b => some (decide (a = b))
  | _, .bool _ => some false
  | _, _ => none
def isnD (x y : D) : Option Bool := (isD x y).map (!·)
def rIsD (K : PySem.W.Frag) : R2 := fun x y H Q => ∃ M dx dy b, Da K M H x dx ∧ Da K M H y dy ∧ isD dx dy = some b ∧ Q (.bl b) H
def rIsnD (K : PySem.W.Frag) : R2 := fun x y H Q => ∃ M dx dy b, Da K M H x dx ∧ Da K M H y dy ∧ isD dx dy = some b ∧ Q (.bl (!b)) H
theorem is_fact {X : Cx} {K : PySem.W.Frag} {M : Addr → Prop} {H : Hp} {x y : V} {dx dy : D} {b : Bool} {v u : Value} (hx : Da K M H x dx) (hy : Da K M H y dy) (e : isD dx dy = some b) (rx : RelV x v) (ry : RelV y u) : plainIs v u = true ∧ (v == u) = b := by
  cases hy with
  | non =>
    cases ry
    cases hx with
    | non => cases rx; cases e; exact ⟨rfl, rfl⟩
    | bl c => cases rx; cases e; exact ⟨rfl, rfl⟩
    | int i => obtain ⟨t, rfl⟩ := rx; cases e; exact ⟨rfl, rfl⟩
    | str z => obtain ⟨t, rfl⟩ := rx; cases e; exact ⟨rfl, rfl⟩
    | lst h n t => cases rx; cases e; exact ⟨rfl, rfl⟩
    | tup h t => cases rx; cases e; exact ⟨rfl, rfl⟩
  | bl c =>
    cases ry
    cases hx with
    | non => cases rx; cases e; exact ⟨rfl, rfl⟩
    | bl c' =>
      cases rx
      have e : some (decide (c' = c)) = some b := e
      cases e
      refine ⟨rfl, ?_⟩
      cases c <;> cases c' <;> rfl
    | int i => obtain ⟨t, rfl⟩ := rx; cases e; exact ⟨rfl, rfl⟩
    | str z => obtain ⟨t, rfl⟩ := rx; cases e; exact ⟨rfl, rfl⟩
    | lst h n t => cases rx; cases e; exact ⟨rfl, rfl⟩
    | tup h t => cases rx; cases e; exact ⟨rfl, rfl⟩
  | _ => cases hx <;> cases e
theorem op_isD {X : Cx} : OpR X (compareOp .Is) (rIsD X.K) := by
  intro pins s σ H x y v u Q I rx ry h
  obtain ⟨M, dx, dy, b, hx, hy, e, q⟩ := h
  obtain ⟨p, e2⟩ := is_fact (X := X) hx hy e rx ry
  exact wpAny_is_plain p ⟨.bl b, H, I, by rw [e2]; rfl, q⟩
theorem op_isnD {X : Cx} : OpR X (compareOp .IsNot) (rIsnD X.K) := by
  intro pins s σ H x y v u Q I rx ry h
  obtain ⟨M, dx, dy, b, hx, hy, e, q⟩ := h
  obtain ⟨p, e2⟩ := is_fact (X := X) hx hy e rx ry
  exact wpAny_isNot_plain p ⟨.bl (!b), H, I, by rw [e2]; rfl, q⟩
theorem c_is : CmpR G k sc N .Is isD := fun X g => ⟨_, op_isD, fun M H x y dx dy b Q ml hx hy e q => by rw [g.hK]; exact ⟨M, dx, dy, b, hx, hy, e, q⟩⟩
theorem c_isn : CmpR G k sc N .IsNot isnD := fun X g => ⟨_, op_isnD, fun M H x y dx dy b Q ml hx hy e q => by
  unfold isnD at e
  cases h : isD dx dy with
  | none => rw [h] at e; cases e
  | some c => rw [h] at e; cases e; rw [g.hK]; exact ⟨M, dx, dy, c, hx, hy, h, q⟩⟩
/-- x in y, y a list or a tuple, of flat things or of data -/
def inD (x y : D) : Option Bool := match y with
  | .list ds => if SeqAt.shaped x = true ∧ SeqAt.shaped (.list ds) = true then some (ds.any fun z => PyData.eqv z x) else none
  | .tuple ds => if flatD x = true ∧ ds.all flatD = true then some (ds.any fun z => PyData.eqv z x) else none
  | _ => none
where flatD : D → Bool
  | .none => true
  | .bool _ => true
  | .int _ => true
  | .str _ => true
  | _ => false
theorem flat_v {K : PySem.W.Frag} {M : Addr → Prop} {H : Hp} {x : V} {d : D} (h : Da K M H x d) (f : inD.flatD d = true) : flatV x = true := by
  cases h <;> first | rfl | cases f
theorem flat_vs {K : PySem.W.Frag} {M : Addr → Prop} {H : Hp} : ∀ {xs : List V} {ds : List D}, DaL K M H xs ds → ds.all inD.flatD = true → xs.all flatV = true
  | _, _, .nil, _ => rfl
  | _, _, .cons h t, f => by
    simp only [List.all_cons, Bool.and_eq_true] at f ⊢
    exact ⟨flat_v h f.1, flat_vs t f.2⟩
theorem eqV_d {K : PySem.W.Frag} {M : Addr → Prop} {H : Hp} {x y : V} {dx dy : D} (hx : Da K M H x dx) (hy : Da K M H y dy) (fx : inD.flatD dx = true) (fy : inD.flatD dy = true) : eqV x y = PyData.eqv dx dy := by
  cases hx <;> cases hy <;> first | (simp only [PyData.eqv, eqV]; done) | rfl | cases fx | cases fy
theorem any_d {K : PySem.W.Frag} {M : Addr → Prop} {H : Hp} {x : V} {dx : D} (hx : Da K M H x dx) (fx : inD.flatD dx = true) : ∀ {ys : List V} {ds : List D}, DaL K M H ys ds → ds.all inD.flatD = true → inV x ys = ds.any fun z => PyData.eqv z dx
  | _, _, .nil, _ => rfl
  | _, _, .cons h t, f => by
    simp only [List.all_cons, Bool.and_eq_true] at f
    have ih := any_d hx fx t f.2
    unfold inV at ih ⊢
    rw [List.any_cons, List.any_cons, ih, eqV_d h hx f.1 fx]
theorem in_go {X : Cx} {M : Addr → Prop} {H : Hp} {x y : V} {dx dy : D} {b : Bool} (hx : Da X.K M H x dx) (hy : Da X.K M H y dy) (e : inD dx dy = some b) :
    (∃ ds, dy = .list ds ∧ SeqAt.shaped dx = true ∧ SeqAt.shaped (.list ds) = true ∧ b = ds.any fun z => PyData.eqv z dx) ∨ (∃ p xs, y = .ref p ∧ (SqL X.K H p xs ∨ SqT X.K H p xs) ∧ flatV x = true ∧ xs.all flatV = true ∧ inV x xs = b) := by
  unfold inD at e
  split at e
  · rename_i ds
    split at e
    · rename_i hs; cases e; exact .inl ⟨ds, rfl, hs.1, hs.2, rfl⟩
    · cases e
  · rename_i ds
    split at e
    · rename_i hs
      cases e
      cases hy with
      | tup h t => exact .inr ⟨_, _, rfl, .inr h, flat_v hx hs.1, flat_vs t hs.2, any_d hx hs.1 t hs.2⟩
    · cases e
  · cases e
theorem units65 {X : Cx} (g : Gd G k sc N X) (hk : 1 ≤ k) : X.A.units + 65 < cLine := by
  have := (g.room.mono hk).un
  omega
theorem c_in (hk : 1 ≤ k := by decide) : CmpR G k sc N .In inD := fun X g => ⟨_, (op_inD (units65 g hk)).or op_in_seq, fun M H x y dx dy b Q ml hx hy e q => by
  rw [← g.hK] at hx hy
  rcases in_go hx hy e with ⟨ds, rfl, h1, h2, rfl⟩ | ⟨p, xs, rfl, h1, h2, h3, rfl⟩
  · exact .inl ⟨dx, ds, hx.dp, hy.dp, h1, h2, q⟩
  · exact .inr ⟨p, xs, rfl, h1, h2, h3, q⟩⟩
end
end DL
namespace DL
open PySem PySem.Spec PyProof.Rows L2
section
variable {G : Gm} {k : Nat} {sc : Sx} {N : List Str}
def truD : D → Option Bool
  | .none => some false
  | .bool b => some b
  | .int i => some (i != 0)
  | .str y => if y.length ≤ sizeLine then some ((y.length : Int) != 0) else none
  | .list ds => some (!ds.isEmpty)
  | .tuple ds => some (!ds.isEmpty)
  | .dict _ => none
theorem isEmpty_da {K : PySem.W.Frag} {M : Addr → Prop} {H : Hp} {vs : List V} {ds : List D} (h : DaL K M H vs ds) : (!vs.isEmpty) = !ds.isEmpty := by cases h <;> rfl
theorem tru_da {K : PySem.W.Frag} {M : Addr → Prop} {H : Hp} {x : V} {d : D} {b : Bool} (h : Da K M H x d) (e : truD d = some b) : TruV K x H b := by
  cases h with
  | non => cases e; rfl
  | bl c => cases e; rfl
  | int i => cases e; rfl
  | str y =>
    have e : (if y.length ≤ sizeLine then some ((y.length : Int) != 0) else none) = some b := e
    split at e
    · rename_i hl; cases e; exact ⟨hl, rfl⟩
    · cases e
  | lst h n t => cases e; exact .inl ⟨_, .of h, (isEmpty_da t).symm⟩
  | tup h t => cases e; exact .inr (.inl ⟨_, h, (isEmpty_da t).symm⟩)
def dTru (f : Ev → Mn D) (ev : Ev) : Mn Bool := bnd (f ev) fun x => lft (truD x)
theorem t_val {e : Expr} {f : Ev → Mn D} (h : SE G k sc N e f) (he : ∀ env whole, isTrue e env whole = (do let v ← whole; standAt e.pos; holding [v] (truthy v)) := by intro _ _; rfl) : ST G k sc N e (dTru f) := fun X W g tk => by
  refine pt_imp (pt_truth (h X W g tk) (he _)) fun σ H Q h => ?_
  obtain ⟨M, r, ev, rs, R, o, rs', e, w⟩ := h
  refine tE_bnd R e w fun x rs1 H1 v R1 s1 d1 e1 w1 => ?_
  obtain ⟨c, e3, rfl, rfl⟩ := lft_some e1
  rw [g.hK]
  exact ⟨c, tru_da d1 e3, w1 H1 (.refl _) R1.row⟩
def SW (G : Gm) (k : Nat) (sc : Sx) (N : List Str) (e : Expr) (f : Ev → Mn Bool) : Prop := ∀ (X : Cx) (W : WX), Gd G k sc N X → Takes X W → PW X e (tT G.K G.mg W f)
theorem pw_imp {X : Cx} {e : Expr} {t t' : TT} (h : PW X e t) (i : ∀ σ H Q, t' σ H Q → t σ H Q) : PW X e t' := ⟨fun wh pins s σ H Q I q => h.run wh pins s σ H Q I (i σ H Q q)⟩
theorem w_and1 {a : Expr} {fa : Ev → Mn Bool} {p : Pos} (h : ST G k sc N a fa) : SW G k sc N (.BoolOp .And [a] p) fa := fun X W g tk => pw_and1 (h X W g tk)
theorem w_or1 {a : Expr} {fa : Ev → Mn Bool} {p : Pos} (h : ST G k sc N a fa) : SW G k sc N (.BoolOp .Or [a] p) fa := fun X W g tk => pw_or1 (h X W g tk)
def dAnd (fa fb : Ev → Mn Bool) (ev : Ev) : Mn Bool := bnd (fa ev) fun c => if c = true then fb ev else pur false
def dOr (fa fb : Ev → Mn Bool) (ev : Ev) : Mn Bool := bnd (fa ev) fun c => if c = true then pur true else fb ev
theorem w_and {a b : Expr} {rest : List Expr} {fa fb : Ev → Mn Bool} {p : Pos} (ha : ST G k sc N a fa) (hb : SW G k sc N (.BoolOp .And (b :: rest) p) fb) : SW G k sc N (.BoolOp .And (a :: b :: rest) p) (dAnd fa fb) := fun X W g tk => by
  refine pw_imp (pw_and (ha X W g tk) (hb X W g tk)) fun σ H Q h => ?_
  obtain ⟨M, r, ev, rs, R, o, rs', e, w⟩ := h
  refine tT_bnd R e w fun x rs1 H1 R1 s1 e1 w1 => ?_
  cases x with
  | true => rw [if_pos rfl] at e1; rw [if_pos rfl]; exact ⟨M, r, ev, rs1, R1, o, rs', e1, w1⟩
  | false => rw [if_neg (by decide)] at e1; rw [if_neg (by decide)]; cases e1; exact w1 H1 (.refl _) R1.row
theorem w_or {a b : Expr} {rest : List Expr} {fa fb : Ev → Mn Bool} {p : Pos} (ha : ST G k sc N a fa) (hb : SW G k sc N (.BoolOp .Or (b :: rest) p) fb) : SW G k sc N (.BoolOp .Or (a :: b :: rest) p) (dOr fa fb) := fun X W g tk => by
  refine pw_imp (pw_or (ha X W g tk) (hb X W g tk)) fun σ H Q h => ?_
  obtain ⟨M, r, ev, rs, R, o, rs', e, w⟩ := h
  refine tT_bnd R e w fun x rs1 H1 R1 s1 e1 w1 => ?_
  cases x with
  | true => rw [if_pos rfl] at e1; rw [if_pos rfl]; cases e1; exact w1 H1 (.refl _) R1.row
  | false => rw [if_neg (by decide)] at e1; rw [if_neg (by decide)]; exact ⟨M, r, ev, rs1, R1, o, rs', e1, w1⟩
theorem t_w {e : Expr} {f : Ev → Mn Bool} (h : SW G k sc N e f) : ST G k sc N e f := fun X W g tk => (h X W g tk).pt
def dNot (f : Ev → Mn Bool) (ev : Ev) : Mn Bool := bnd (f ev) fun c => pur (!c)
theorem t_not {a : Expr} {f : Ev → Mn Bool} {p : Pos} (h : ST G k sc N a f) : ST G k sc N (.UnaryOp .Not a p) (dNot f) := fun X W g tk => by
  refine pt_imp (pt_not (h X W g tk)) fun σ H Q h => ?_
  obtain ⟨M, r, ev, rs, R, o, rs', e, w⟩ := h
  refine tT_bnd R e w fun x rs1 H1 R1 s1 e1 w1 => ?_
  cases e1
  exact w1 H1 (.refl _) R1.row
/-- as values -/
def dOrV (fa fb : Ev → Mn D) (ev : Ev) : Mn D := bnd (fa ev) fun x => bnd (lft (truD x)) fun c => if c = true then pur x else fb ev
def dAndV (fa fb : Ev → Mn D) (ev : Ev) : Mn D := bnd (fa ev) fun x => bnd (lft (truD x)) fun c => if c = true then fb ev else pur x
theorem bnd_lft {α β : Type} {v : Option α} {f : α → Mn β} {rs rs' : RS} {o : Out β} (h : bnd (lft v) f rs = some (o, rs')) : ∃ a, v = some a ∧ f a rs = some (o, rs') := by
  cases v with
  | none => simp [bnd, lft] at h
  | some a => exact ⟨a, rfl, h⟩
theorem e_or1 {a : Expr} {op : BoolOp} {fa : Ev → Mn D} {p : Pos} (h : SE G k sc N a fa) : SE G k sc N (.BoolOp op [a] p) fa := fun X W g tk => pe_one (h X W g tk)
theorem e_and {a b : Expr} {rest : List Expr} {fa fb : Ev → Mn D} {p : Pos} (ha : SE G k sc N a fa) (hb : SE G k sc N (.BoolOp .And (b :: rest) p) fb) : SE G k sc N (.BoolOp .And (a :: b :: rest) p) (dAndV fa fb) := fun X W g tk => by
  refine pe_imp (pe_andT (ha X W g tk) (hb X W g tk)) fun σ H Q h => ?_
  obtain ⟨M, r, ev, rs, R, o, rs', e, w⟩ := h
  refine tE_bnd R e w fun x rs1 H1 v R1 s1 d1 e1 w1 => ?_
  obtain ⟨c, e2, e3⟩ := bnd_lft e1
  rw [g.hK]
  refine ⟨c, tru_da d1 e2, ?_⟩
  cases c with
  | true => rw [if_pos rfl] at e3; rw [if_pos rfl]; exact ⟨M, r, ev, rs1, R1, o, rs', e3, w1⟩
  | false => rw [if_neg (by decide)] at e3; rw [if_neg (by decide)]; cases e3; exact w1 H1 (.refl _) R1.row v d1
def dNotV (f : Ev → Mn D) (ev : Ev) : Mn D := bnd (f ev) fun x => lft ((truD x).map fun c => .bool (!c))
theorem e_not {a : Expr} {fa : Ev → Mn D} {p : Pos} (ha : SE G k sc N a fa) : SE G k sc N (.UnaryOp .Not a p) (dNotV fa) :=
  e_one (rl := fun X x H Q => ∃ c, TruV X.K x H c ∧ Q (.bl (!c)) H) ha (fun X ta g h => pe_notT h) fun X M H x dx d Q g ml hx e hq => by
    rw [g.hK]
    cases q : truD dx with
    | none => rw [q] at e; cases e
    | some c => rw [q] at e; cases e; exact ⟨c, tru_da hx q, hq _ H (.refl _) (.bl _)⟩
def dIf (t : Ev → Mn Bool) (fa fb : Ev → Mn D) (ev : Ev) : Mn D := bnd (t ev) fun c => if c = true then fa ev else fb ev
theorem e_if {c a b : Expr} {t : Ev → Mn Bool} {fa fb : Ev → Mn D} {p : Pos} (hc : ST G k sc N c t) (ha : SE G k sc N a fa) (hb : SE G k sc N b fb) : SE G k sc N (.IfExp c a b p) (dIf t fa fb) := fun X W g tk => by
  refine pe_imp (pe_ifExp (hc X W g tk) (ha X W g tk) (hb X W g tk)) fun σ H Q h => ?_
  obtain ⟨M, r, ev, rs, R, o, rs', e, w⟩ := h
  refine tT_bnd R e w fun x rs1 H1 R1 s1 e1 w1 => ?_
  cases x with
  | true => rw [if_pos rfl] at e1; rw [if_pos rfl]; exact ⟨M, r, ev, rs1, R1, o, rs', e1, w1⟩
  | false => rw [if_neg (by decide)] at e1; rw [if_neg (by decide)]; exact ⟨M, r, ev, rs1, R1, o, rs', e1, w1⟩
/-- a < b < c -/
def dChain (f f' : D → D → Option Bool) (fa fb fc : Ev → Mn D) (ev : Ev) : Mn D := bnd (fa ev) fun x => bnd (fb ev) fun y => bnd (lft (f x y)) fun c => if c = true then bnd (fc ev) fun z => lft ((f' y z).map .bool) else pur (.bool false)
def dChainT (f f' : D → D → Option Bool) (fa fb fc : Ev → Mn D) (ev : Ev) : Mn Bool := bnd (fa ev) fun x => bnd (fb ev) fun y => bnd (lft (f x y)) fun c => if c = true then bnd (fc ev) fun z => lft (f' y z) else pur false
theorem e_chain {a b c : Expr} {fa fb fc : Ev → Mn D} {op op' : CmpOp} {f f' : D → D → Option Bool} {p : Pos} (h1 : CmpR G k sc N op f) (h2 : CmpR G k sc N op' f') (ha : SE G k sc N a fa) (hb : SE G k sc N b fb) (hc : SE G k sc N c fc)
    (hm : lastMarks [op, op'] [b, c] = false := by with_unfolding_all rfl) : SE G k sc N (.Compare a [op, op'] [b, c] p) (dChain f f' fa fb fc) := fun X W g tk => by
  obtain ⟨rl, ho, hr⟩ := h1 X g
  obtain ⟨rl', ho', hr'⟩ := h2 X g
  refine pe_imp (pe_chain ho ho' (ha X W g tk) (hb X W g tk) (hc X W g tk) hm) fun σ H Q h => ?_
  obtain ⟨M, r, ev, rs, R, o, rs', e, w⟩ := h
  refine tE_bnd R e w fun x rs1 H1 v R1 s1 d1 e1 w1 => tE_bnd R1 e1 w1 fun y rs2 H2 u R2 s2 d2 e2 w2 => ?_
  obtain ⟨c, e3, e4⟩ := bnd_lft e2
  refine hr M H2 v u x y c _ R2.ml (d1.kp R1.ml (s2.kp R.mr)) d2 e3 ⟨c, rfl, ?_⟩
  cases c with
  | false => rw [if_neg (by decide)] at e4; rw [if_neg (by decide)]; cases e4; exact w2 H2 (.refl _) R2.row _ (.bl false)
  | true =>
    rw [if_pos rfl] at e4; rw [if_pos rfl]
    refine tE_bnd R2 e4 w2 fun z rs3 H3 u3 R3 s3 d3 e5 w3 => ?_
    obtain ⟨d, e6, rfl, rfl⟩ := lft_some e5
    cases q : f' y z with
    | none => rw [q] at e6; cases e6
    | some c => rw [q] at e6; cases e6; exact hr' M H3 u u3 y z c _ R3.ml (d2.kp R2.ml (s3.kp R.mr)) d3 q (w3 H3 (.refl _) R3.row _ (.bl c))
def addD : D → D → Option D
  | .int i, .int j => some (.int (i + j))
  | .str x, .str y => if x.length + y.length ≤ sizeLine then some (.str (x ++ y)) else none
  | .tuple xs, .tuple ys => if xs.length + ys.length ≤ sizeLine then some (.tuple (xs ++ ys)) else none
  | .list xs, .list ys => if xs.length + ys.length ≤ sizeLine then some (.list (xs ++ ys)) else none
  | _, _ => none
def subD : D → D → Option D
  | .int i, .int j => some (.int (i - j))
  | _, _ => none
theorem op_addA {X : Cx} : OpR X (binaryOp .Add) (fun x y H Q => rI0 (fun i j => .int (i + j)) x y H Q ∨ (∃ i j, x = .str i ∧ y = .str j ∧ i.length + j.length ≤ sizeLine ∧ Q (.str (i ++ j)) H) ∨ rCatA X.K x y H Q ∨ rCat x y H Q) :=
  op_add.or (op_add_str.or (op_catA.or op_cat))
theorem e_add {a b : Expr} {fa fb : Ev → Mn D} {p : Pos} (ha : SE G k sc N a fa) (hb : SE G k sc N b fb) : SE G k sc N (.BinOp a .Add b p) (fun ev => bnd (fa ev) fun x => bnd (fb ev) fun y => lft (addD x y)) := by
  refine e_bin ha hb (fun X ta tb g h1 h2 => pe_op op_addA h1 h2) fun X M H x y dx dy d Q g ml hx hy e hq => ?_
  cases hx with
  | int i =>
    cases hy with
    | int j => cases e; exact .inl ⟨i, j, rfl, rfl, hq _ H (.refl _) (.int _)⟩
    | _ => cases e
  | str z =>
    cases hy with
    | str z' =>
      have e : (if z.length + z'.length ≤ sizeLine then some (PyData.str (z ++ z')) else none) = some d := e
      split at e
      · rename_i hl; cases e; exact .inr (.inl ⟨z, z', rfl, rfl, hl, hq _ H (.refl _) (.str _)⟩)
      · cases e
    | _ => cases e
  | tup h t =>
    cases hy with
    | tup h' t' =>
      rename_i a xs ds a' xs' ds'
      have e : (if ds.length + ds'.length ≤ sizeLine then some (PyData.tuple (ds ++ ds')) else none) = some d := e
      split at e
      · rename_i hl
        cases e
        refine .inr (.inr (.inl ⟨_, _, _, _, rfl, rfl, by rw [g.hK]; exact h, by rw [g.hK]; exact h', by rw [t.length, t'.length]; exact hl, ?_, ?_, ?_⟩))
        · intro hx
          subst hx
          cases t
          exact hq _ H (.refl _) (.tup h' t')
        · intro hx hy
          subst hy
          cases t'
          exact hq _ H (.refl _) (.tup h (by rw [List.append_nil]; exact t))
        · intro _ _ p hp
          exact hq _ _ (same_upd hp) (Da.newT ml hp (t.append t'))
      · cases e
    | _ => cases e
  | lst h n t =>
    cases hy with
    | lst h' n' t' =>
      rename_i a xs ds a' xs' ds'
      have e : (if ds.length + ds'.length ≤ sizeLine then some (PyData.list (ds ++ ds')) else none) = some d := e
      split at e
      · rename_i hl
        cases e
        exact .inr (.inr (.inr ⟨_, _, _, _, rfl, rfl, h, h', by rw [t.length, t'.length]; exact hl, fun p hp => hq _ _ (same_upd hp) (Da.newL ml hp (t.append t'))⟩))
      · cases e
    | _ => cases e
  | _ => cases hy <;> cases e
theorem e_sub {a b : Expr} {fa fb : Ev → Mn D} {p : Pos} (ha : SE G k sc N a fa) (hb : SE G k sc N b fb) : SE G k sc N (.BinOp a .Sub b p) (fun ev => bnd (fa ev) fun x => bnd (fb ev) fun y => lft (subD x y)) := by
  refine e_bin ha hb (fun X ta tb g h1 h2 => pe_op op_sub h1 h2) fun X M H x y dx dy d Q g ml hx hy e hq => ?_
  cases hx <;> cases hy <;> first
    | cases e; done
    | (cases e; exact ⟨_, _, rfl, rfl, hq _ H (.refl _) (.int _)⟩)
def negD : D → Option D
  | .int i => some (.int (-i))
  | _ => none
theorem e_neg {a : Expr} {fa : Ev → Mn D} {p : Pos} (ha : SE G k sc N a fa) : SE G k sc N (.UnaryOp .USub a p) (fun ev => bnd (fa ev) fun x => lft (negD x)) :=
  e_one (rl := fun X x H Q => rU (fun i => .int (-i)) x H Q) ha (fun X ta g h => pe_un un_neg h) fun X M H x dx d Q g ml hx e hq => by
    cases hx <;> first
      | cases e; done
      | (cases e; exact ⟨_, rfl, hq _ H (.refl _) (.int _)⟩)
end
end DL
namespace DL
open PySem PySem.Spec PyProof.Rows L2
section
variable {G : Gm} {k : Nat} {sc : Sx} {N : List Str}
abbrev Mg0 (G : Gm) (x : Str) : Prop := G.mg x = none
theorem e_arg {e : Expr} {es : List Expr} {f : Ev → Mn (List Slot)} {op : List D → Option D} {rl : Cx → List V → Hp → VK → Prop} (ha : SA G k sc N es f) (mk : ∀ X t, Gd G k sc N X → PA X es t → PE X e (tCB (rl X) t))
    (hr : ∀ X M H vs ds d Q, Gd G k sc N X → Ml M H → DaL G.K M H vs ds → op ds = some d → (∀ v H', Same H H' → Da G.K M H' v d → Q v H') → rl X vs H Q) :
    SE G k sc N e (fun ev => bnd (f ev) fun ss => lft ((dats ss).bind op)) := fun X W g tk => by
  refine pe_imp (mk X _ g (ha X W g tk)) fun σ H Q h => ?_
  obtain ⟨M, r, ev, rs, R, o, rs', e, w⟩ := h
  refine tAr_bnd R e w fun ss rs2 H2 vs R2 s2 d2 e2 w2 => ?_
  obtain ⟨d, e3, rfl, rfl⟩ := lft_some e2
  cases q : dats ss with
  | none => rw [q] at e3; cases e3
  | some ds => rw [q] at e3; exact hr X M H2 vs ds d Q g R2.ml (d2.dats q) e3 fun z H3 s3 d3 => w2 H3 (.of_same s3) (row_same R2.row s3) z d3
def dFn (op : List D → Option D) (f : Ev → Mn (List Slot)) (ev : Ev) : Mn D := bnd (f ev) fun ss => lft ((dats ss).bind op)
theorem e_blt {id : String} {x : Str} {e : Expr} {es : List Expr} {f : Ev → Mn (List Slot)} {op : List D → Option D} {rl : Cx → List V → Hp → VK → Prop} {p pos : Pos} (ha : SA G k sc N (e :: es) f) (cr : ∀ X, Gd G k sc N X → CallR X (.builtin id) (rl X))
    (hr : ∀ X M H vs ds d Q, Gd G k sc N X → Ml M H → DaL G.K M H vs ds → op ds = some d → (∀ v H', Same H H' → Da G.K M H' v d → Q v H') → rl X vs H Q)
    (hv : bootBuiltins x = some (.builtin id)) (hm : Mg0 G x) (hg : glB sc x = true) (hn : x ≠ "__name__") (hdb : (x == ("__debug__" : Str)) = false)
    (he : ∀ env, starEach (e :: es) env = (false, eval e env) :: starEach es env) (hpl : ∀ env, (backTo pos (starEach es env)).any (·.1) = false) : SE G k sc N (.Call (.Name x p) (e :: es) [] pos) (dFn op f) :=
  e_arg ha (fun X t g h => pe_callB (cr X g) (gl_of g hg) (by rw [g.hmg]; exact hm) hv h hn hdb (he _) (hpl _)) hr
theorem e_bty {T : String} {x : Str} {e : Expr} {es : List Expr} {f : Ev → Mn (List Slot)} {op : List D → Option D} {rl : Cx → List V → Hp → VK → Prop} {p pos : Pos} (ha : SA G k sc N (e :: es) f) (cr : ∀ X, Gd G k sc N X → CallR X (.type T) (rl X))
    (hr : ∀ X M H vs ds d Q, Gd G k sc N X → Ml M H → DaL G.K M H vs ds → op ds = some d → (∀ v H', Same H H' → Da G.K M H' v d → Q v H') → rl X vs H Q)
    (hv : bootBuiltins x = some (.type T)) (hm : Mg0 G x) (hg : glB sc x = true) (hn : x ≠ "__name__") (hdb : (x == ("__debug__" : Str)) = false)
    (he : ∀ env, starEach (e :: es) env = (false, eval e env) :: starEach es env) (hpl : ∀ env, (backTo pos (starEach es env)).any (·.1) = false) : SE G k sc N (.Call (.Name x p) (e :: es) [] pos) (dFn op f) :=
  e_arg ha (fun X t g h => pe_callTy (cr X g) (gl_of g hg) (by rw [g.hmg]; exact hm) hv h hn hdb (he _) (hpl _)) hr
def lenD : List D → Option D
  | [.tuple ds] => some (.int ds.length)
  | [.list ds] => some (.int ds.length)
  | [.str z] => if z.length ≤ sizeLine then some (.int z.length) else none
  | _ => none
theorem one_da {K : PySem.W.Frag} {M : Addr → Prop} {H : Hp} {vs : List V} {d : D} (h : DaL K M H vs [d]) : ∃ v, vs = [v] ∧ Da K M H v d := by
  cases h with
  | cons a t => cases t; exact ⟨_, rfl, a⟩
theorem two_da {K : PySem.W.Frag} {M : Addr → Prop} {H : Hp} {vs : List V} {d d' : D} (h : DaL K M H vs [d, d']) : ∃ v v', vs = [v, v'] ∧ Da K M H v d ∧ Da K M H v' d' := by
  cases h with
  | cons a t =>
    obtain ⟨v, e, q⟩ := one_da t
    subst e
    exact ⟨_, _, rfl, a, q⟩
theorem e_len {e : Expr} {f : Ev → Mn (List Slot)} {p pos : Pos} (ha : SA G k sc N [e] f) (hm : Mg0 G "len") (hg : glB sc "len" = true := by rfl) (he : ∀ env, starEach [e] env = (false, eval e env) :: starEach [] env := by intro _; rfl) :
    SE G k sc N (.Call (.Name "len" p) [e] [] pos) (dFn lenD f) :=
  e_blt ha (fun X g => call_len_seq.or call_len_str) (fun X M H vs ds d Q g ml h e hq => by
    unfold lenD at e
    split at e
    · obtain ⟨v, rfl, h1⟩ := one_da h
      cases e
      cases h1 with
      | tup h2 t => exact .inl ⟨_, _, rfl, .inr (by rw [g.hK]; exact h2), by rw [t.length]; exact hq _ H (.refl _) (.int _)⟩
    · obtain ⟨v, rfl, h1⟩ := one_da h
      cases e
      cases h1 with
      | lst h2 n t => exact .inl ⟨_, _, rfl, .inl (.of h2), by rw [t.length]; exact hq _ H (.refl _) (.int _)⟩
    · obtain ⟨v, rfl, h1⟩ := one_da h
      split at e
      · rename_i hl
        cases e
        cases h1 with
        | str z => exact .inr ⟨_, rfl, hl, hq _ H (.refl _) (.int _)⟩
      · cases e
    · cases e) PySem.boot_len hm hg (by decide) (by decide) he (fun _ => rfl)
def intD : List D → Option D
  | [.int i] => some (.int i)
  | [.bool b] => some (.int (if b then 1 else 0))
  | _ => none
theorem e_intc {e : Expr} {f : Ev → Mn (List Slot)} {p pos : Pos} (ha : SA G k sc N [e] f) (hm : Mg0 G "int") (hg : glB sc "int" = true := by rfl) (he : ∀ env, starEach [e] env = (false, eval e env) :: starEach [] env := by intro _; rfl) :
    SE G k sc N (.Call (.Name "int" p) [e] [] pos) (dFn intD f) :=
  e_bty ha (fun X g => call_int1) (fun X M H vs ds d Q g ml h e hq => by
    unfold intD at e
    split at e
    · obtain ⟨v, rfl, h1⟩ := one_da h
      cases e
      cases h1 with
      | int i => exact .inl ⟨_, rfl, hq _ H (.refl _) (.int _)⟩
    · obtain ⟨v, rfl, h1⟩ := one_da h
      cases e
      cases h1 with
      | bl b => exact .inr ⟨_, rfl, hq _ H (.refl _) (.int _)⟩
    · cases e) PyProof.Rows.boot_int hm hg (by decide) (by decide) he (fun _ => rfl)
def listD : List D → Option D
  | [.tuple ds] => some (.list ds)
  | [.list ds] => some (.list ds)
  | _ => none
theorem e_list {e : Expr} {f : Ev → Mn (List Slot)} {p pos : Pos} (ha : SA G k sc N [e] f) (hm : Mg0 G "list") (hg : glB sc "list" = true := by rfl) (he : ∀ env, starEach [e] env = (false, eval e env) :: starEach [] env := by intro _; rfl) :
    SE G k sc N (.Call (.Name "list" p) [e] [] pos) (dFn listD f) :=
  e_bty ha (fun X g => call_list_of) (fun X M H vs ds d Q g ml h e hq => by
    unfold listD at e
    split at e
    · obtain ⟨v, rfl, h1⟩ := one_da h
      cases e
      cases h1 with
      | tup h2 t => exact ⟨_, _, rfl, .inr (by rw [g.hK]; exact h2), fun l hl => hq _ _ (same_upd hl) (Da.newL ml hl t)⟩
    · obtain ⟨v, rfl, h1⟩ := one_da h
      cases e
      cases h1 with
      | lst h2 n t => exact ⟨_, _, rfl, .inl (.of h2), fun l hl => hq _ _ (same_upd hl) (Da.newL ml hl t)⟩
    · cases e) PyProof.Rows.boot_list hm hg (by decide) (by decide) he (fun _ => rfl)
/-- truth values alone -/
def bools : List D → Option (List Bool)
  | [] => some []
  | .bool b :: ds => (bools ds).map (b :: ·)
  | _ :: _ => none
theorem bools_da {K : PySem.W.Frag} {M : Addr → Prop} {H : Hp} : ∀ {vs : List V} {ds : List D} {bs : List Bool}, DaL K M H vs ds → bools ds = some bs → vs = bs.map V.bl
  | _, _, _, .nil, e => by cases e; rfl
  | _, _, _, .cons h t, e => by
    cases h with
    | bl b =>
      unfold bools at e
      cases q : bools _ with
      | none => rw [q] at e; cases e
      | some bs => rw [q] at e; cases e; rw [bools_da t q]; rfl
    | _ => cases e
def allD : List D → Option D
  | [.list ds] => (bools ds).map fun bs => .bool (bs.all id)
  | _ => none
theorem e_all {e : Expr} {f : Ev → Mn (List Slot)} {p pos : Pos} (ha : SA G k sc N [e] f) (hm : Mg0 G "all") (hg : glB sc "all" = true := by rfl) (he : ∀ env, starEach [e] env = (false, eval e env) :: starEach [] env := by intro _; rfl) :
    SE G k sc N (.Call (.Name "all" p) [e] [] pos) (dFn allD f) :=
  e_blt ha (fun X g => cr_all g.calm) (fun X M H vs ds d Q g ml h e hq => by
    unfold allD at e
    split at e
    · rename_i ds'
      obtain ⟨v, rfl, h1⟩ := one_da h
      cases h1 with
      | lst h2 n t =>
        cases q : bools ds' with
        | none => rw [q] at e; cases e
        | some bs =>
          rw [q] at e; cases e
          have e2 := bools_da t q
          subst e2
          exact ⟨_, bs, rfl, .of h2, hq _ H (.refl _) (.bl _)⟩
    · cases e) PyProof.Rows.boot_all hm hg (by decide) (by decide) he (fun _ => rfl)
inductive Ty where
  | int | bool | str | tuple | list
def Ty.nm : Ty → String
  | .int => "int"
  | .bool => "bool"
  | .str => "str"
  | .tuple => "tuple"
  | .list => "list"
def tyS : D → String
  | .none => "NoneType"
  | .bool _ => "bool"
  | .int _ => "int"
  | .str _ => "str"
  | .list _ => "list"
  | .tuple _ => "tuple"
  | .dict _ => "dict"
def isA : D → Ty → Bool
  | .bool _, .bool => true
  | .bool _, .int => true
  | .int _, .int => true
  | .str _, .str => true
  | .list _, .list => true
  | .tuple _, .tuple => true
  | _, _ => false
theorem tyx_da {K : PySem.W.Frag} {M : Addr → Prop} {H : Hp} {x : V} {d : D} (h : Da K M H x d) : TyX K H x (.type (tyS d)) := by
  cases h with
  | non => exact .base .non
  | bl b => exact .base (.bl b)
  | int i => exact .base (.int i)
  | str z => exact .base (.str z)
  | lst h n t => exact .base (.lst h)
  | tup h t =>
    rcases h with (h | ⟨o, h⟩) | ⟨o, its, n, h, c, _⟩
    · exact .base (.tup h)
    · exact .fTuple h
    · exact .kTuple h c
theorem kit_isA (d : D) (t : Ty) (h : ∀ kvs, d ≠ .dict kvs) : kitB (tyS d) t.nm = some (isA d t) := by
  cases d with
  | dict kvs => exact absurd rfl (h kvs)
  | none => cases t <;> decide +kernel
  | bool b =>
    have e : isA (.bool b) t = isA (.bool true) t := by cases t <;> rfl
    rw [e]; show kitB "bool" _ = _
    cases t <;> decide +kernel
  | int i =>
    have e : isA (.int i) t = isA (.int 0) t := by cases t <;> rfl
    rw [e]; show kitB "int" _ = _
    cases t <;> decide +kernel
  | str z =>
    have e : isA (.str z) t = isA (.str "") t := by cases t <;> rfl
    rw [e]; show kitB "str" _ = _
    cases t <;> decide +kernel
  | list ds =>
    have e : isA (.list ds) t = isA (.list []) t := by cases t <;> rfl
    rw [e]; show kitB "list" _ = _
    cases t <;> decide +kernel
  | tuple ds =>
    have e : isA (.tuple ds) t = isA (.tuple []) t := by cases t <;> rfl
    rw [e]; show kitB "tuple" _ = _
    cases t <;> decide +kernel
theorem Da.nodict {K : PySem.W.Frag} {M : Addr → Prop} {H : Hp} {x : V} {d : D} (h : Da K M H x d) : ∀ kvs, d ≠ .dict kvs := by
  intro kvs e
  subst e
  cases h
/-- a built-in class's name -/
theorem pe_tyn {X : Cx} {x : Str} {T : String} {p : Pos} (g : Gd G k sc N X) (hg : glB sc x = true) (hm : Mg0 G x) (hv : bootBuiltins x = some (.type T)) (hn : x ≠ "__name__") (hd : (x == ("__debug__" : Str)) = false) : PE X (.Name x p) (tC (.ty T)) :=
  pe_bltn (v := .ty T) (gl_of g hg) (by rw [g.hmg]; exact hm) hv rfl hn hd
def dIsi (ts : List Ty) (f : Ev → Mn D) (ev : Ev) : Mn D := bnd (f ev) fun d => pur (.bool (ts.any (isA d)))
theorem e_isi1 {e : Expr} {f : Ev → Mn D} {x : Str} {p1 p pos : Pos} (t : Ty) (ha : SE G k sc N e f) (hv : bootBuiltins x = some (.type t.nm)) (hm : Mg0 G "isinstance") (hmx : Mg0 G x) (hg : glB sc "isinstance" = true := by rfl) (hgx : glB sc x = true := by rfl) (hn : x ≠ "__name__" := by decide) (hd : (x == ("__debug__" : Str)) = false := by decide)
    (he : ∀ env, starEach [e, .Name x p1] env = (false, eval e env) :: starEach [.Name x p1] env := by intro _; rfl) :
    SE G k sc N (.Call (.Name "isinstance" p) [e, .Name x p1] [] pos) (dIsi [t] f) := fun X W g tk => by
  refine pe_imp (pe_callB call_isi (gl_of g hg) (by rw [g.hmg]; exact hm) PyProof.Rows.boot_isinstance (pa_cons (ha X W g tk) (pa_cons (pe_tyn g hgx hmx hv hn hd) pa_nil) (he _)) (by decide) (by decide) (he _) rfl) fun σ H Q h => ?_
  obtain ⟨M, r, ev, rs, R, o, rs', e, w⟩ := h
  refine tE_bnd R e w fun d rs1 H1 v R1 s1 d1 e1 w1 => ?_
  cases e1
  rw [g.hK]
  refine ⟨v, .ty t.nm, .type (tyS d), .type t.nm, isA d t, rfl, .ty _, tyx_da d1, kit_ty (kit_isA d t d1.nodict), ?_⟩
  have q := w1 H1 (.refl _) R1.row _ (.bl ([t].any (isA d)))
  simpa using q
theorem e_isi2 {e : Expr} {f : Ev → Mn D} {x y : Str} {i : Nat} {p1 p2 p3 p pos : Pos} (t u : Ty) (ha : SE G k sc N e f) (hv : bootBuiltins x = some (.type t.nm)) (hu : bootBuiltins y = some (.type u.nm)) (hm : Mg0 G "isinstance") (hmx : Mg0 G x) (hmy : Mg0 G y) (hg : glB sc "isinstance" = true := by rfl) (hgx : glB sc x = true := by rfl) (hgy : glB sc y = true := by rfl)
    (hn : x ≠ "__name__" := by decide) (hd : (x == ("__debug__" : Str)) = false := by decide) (hn2 : y ≠ "__name__" := by decide) (hd2 : (y == ("__debug__" : Str)) = false := by decide)
    (he : ∀ env, starEach [e, .Tuple [.Name x p1, .Name y p2] i p3] env = (false, eval e env) :: starEach [.Tuple [.Name x p1, .Name y p2] i p3] env := by intro _; rfl) :
    SE G k sc N (.Call (.Name "isinstance" p) [e, .Tuple [.Name x p1, .Name y p2] i p3] [] pos) (dIsi [t, u] f) := fun X W g tk => by
  refine pe_imp (pe_callB call_isiT (gl_of g hg) (by rw [g.hmg]; exact hm) PyProof.Rows.boot_isinstance (pa_cons (ha X W g tk) (pa_cons (pe_tup (pa_cons (pe_tyn g hgx hmx hv hn hd) (pa_cons (pe_tyn g hgy hmy hu hn2 hd2) pa_nil))) pa_nil) (he _)) (by decide) (by decide) (he _) rfl) fun σ H Q h => ?_
  obtain ⟨M, r, ev, rs, R, o, rs', e, w⟩ := h
  refine tE_bnd R e w fun d rs1 H1 v R1 s1 d1 e1 w1 => ?_
  cases e1
  refine ⟨by show 2 ≤ sizeLine; decide, fun tp hp => ?_⟩
  rw [g.hK]
  refine ⟨v, tp, [.ty t.nm, .ty u.nm], .type (tyS d), [.type t.nm, .type u.nm], [t, u].any (isA d), rfl, upd_same, .cons (.ty _) (.cons (.ty _) .nil), tyx_da (d1.kp R1.ml (.of_same (same_upd hp))), ?_, ?_⟩
  · refine kitAny_cons (kit_ty (kit_isA d t d1.nodict)) (fun h1 => kitAny_cons (kit_ty (kit_isA d u d1.nodict)) (fun h2 => ?_) fun h2 => by simp [h2]) fun h1 => by simp [h1]
    rw [kitAny_nil]
    simp [h1, h2]
  · exact w1 _ (.of_same (same_upd hp)) (row_same R1.row (same_upd hp)) _ (.bl _)
end
end DL
namespace DL
open PySem PySem.Spec PyProof.Rows L2
section
variable {G : Gm} {k : Nat} {sc : Sx} {N : List Str}
variable {K : PySem.W.Frag} {M M' : Addr → Prop} {H H' H1 : Hp} {r : Rw}
mutual
theorem Da.ext (m : ∀ b, M' b → M b ∨ H b = none) : ∀ {v : V} {d : D}, Da K M H v d → Da K M' H v d
  | _, _, .non => .non
  | _, _, .bl b => .bl b
  | _, _, .int i => .int i
  | _, _, .str x => .str x
  | _, _, .lst h n t => .lst h (fun z => (m _ z).elim n fun q => by rw [h] at q; cases q) (DaL.ext m t)
  | _, _, .tup h t => .tup h (DaL.ext m t)
theorem DaL.ext (m : ∀ b, M' b → M b ∨ H b = none) : ∀ {vs : List V} {ds : List D}, DaL K M H vs ds → DaL K M' H vs ds
  | _, _, .nil => .nil
  | _, _, .cons h t => .cons (Da.ext m h) (DaL.ext m t)
end
mutual
/-- from M at H1 to M' behind it -/
theorem Da.on (ml : Ml M H1) (m : ∀ b, M' b → M b ∨ H1 b = none) (k : Kp M H1 H') : ∀ {v : V} {d : D}, Da K M H1 v d → Da K M' H' v d
  | _, _, .non => .non
  | _, _, .bl b => .bl b
  | _, _, .int i => .int i
  | _, _, .str x => .str x
  | _, _, .lst h n t => .lst (k _ _ n h) (fun z => (m _ z).elim n fun q => by rw [h] at q; cases q) (DaL.on ml m k t)
  | _, _, .tup h t => .tup (sqt_kp h ml k) (DaL.on ml m k t)
theorem DaL.on (ml : Ml M H1) (m : ∀ b, M' b → M b ∨ H1 b = none) (k : Kp M H1 H') : ∀ {vs : List V} {ds : List D}, DaL K M H1 vs ds → DaL K M' H' vs ds
  | _, _, .nil => .nil
  | _, _, .cons h t => .cons (Da.on ml m k h) (DaL.on ml m k t)
end
structure JOk (K : PySem.W.Frag) (M : Addr → Prop) (J : It) (H1 : Hp) (ds : List D) : Prop where
  go : ∀ H', Kp M H1 H' → ∀ (i : Nat) d, ds[i]? = some d → J.go i H'
  yld : ∀ M' H', Kp M H1 H' → (∀ b, M' b → M b ∨ H1 b = none) → ∀ (i : Nat) d x H'', ds[i]? = some d → J.yld i H' x H'' → Same H' H'' ∧ Da K M' H'' x d
  stop : ∀ H', Kp M H1 H' → J.stop ds.length H'
def tI (K : PySem.W.Frag) (mg : Str → Option Value) (W : WX) (f : Ev → Mn (List D)) : TI := fun σ H R =>
  ∃ M r ev rs, RelE K M r σ H ev rs ∧ ∃ o rs', f ev rs = some (o, rs') ∧ Wan K mg M r H rs' (fun cls dd H' => W cls dd σ H') (fun ds H' => Ml M H' → ∀ J, JOk K M J H' ds → R J H') o
def SI (G : Gm) (k : Nat) (sc : Sx) (N : List Str) (tg e : Expr) (f : Ev → Mn (List D)) : Prop := ∀ (X : Cx) (W : WX), Gd G k sc N X → Takes X W → PI X tg e (tI G.K G.mg W f)
theorem pi_imp {X : Cx} {tg e : Expr} {t t' : TI} (h : PI X tg e t) (i : ∀ σ H Q, t' σ H Q → t σ H Q) : PI X tg e t' := ⟨fun pins s σ H Q I q => h.run pins s σ H Q I (i σ H Q q)⟩
theorem jok_list {a : Addr} {xs : List V} {ds : List D} (ml : Ml M H1) (h : H1 a = some (.lst xs)) (n : ¬ M a) (t : DaL K M H1 xs ds) : JOk K M (Itl K a) H1 ds where
  go := fun H' kp i d e => by
    obtain ⟨v, h1, h2⟩ := t.get e
    exact ⟨xs, v, .of (kp _ _ n h), h1⟩
  yld := fun M' H' kp m i d x H'' e y => by
    obtain ⟨rfl, y⟩ := y
    obtain ⟨v, h1, h2⟩ := t.get e
    have q := y xs (.of (kp _ _ n h))
    rw [h1] at q
    cases q
    exact ⟨.refl _, h2.on ml m kp⟩
  stop := fun H' kp => ⟨xs, .of (kp _ _ n h), by rw [t.length]; exact Nat.le_refl _⟩
theorem jok_tup {a : Addr} {xs : List V} {ds : List D} (ml : Ml M H1) (h : SqT K H1 a xs) (t : DaL K M H1 xs ds) : JOk K M (Itt K a) H1 ds where
  go := fun H' kp i d e => by
    obtain ⟨v, h1, h2⟩ := t.get e
    exact ⟨xs, v, sqt_kp h ml kp, h1⟩
  yld := fun M' H' kp m i d x H'' e y => by
    obtain ⟨rfl, y⟩ := y
    obtain ⟨v, h1, h2⟩ := t.get e
    have q := y xs (sqt_kp h ml kp)
    rw [h1] at q
    cases q
    exact ⟨.refl _, h2.on ml m kp⟩
  stop := fun H' kp => ⟨xs, sqt_kp h ml kp, by rw [t.length]; exact Nat.le_refl _⟩
/-- a list or a tuple, as it comes -/
def iSeq (K : PySem.W.Frag) (te : TE) : TI := fun σ H R => te σ H fun x H1 => ∃ a, x = .ref a ∧ ((∃ xs, SqL K H1 a xs) ∧ R (Itl K a) H1 ∨ (∃ xs, SqT K H1 a xs) ∧ R (Itt K a) H1)
theorem pi_seq {X : Cx} {tg l : Expr} {te : TE} (hl : PE X l te) : PI X tg l (iSeq X.K te) := by
  refine ⟨fun pins s σ H R I h => thn (hl.run pins s σ H _ I h) fun v s1 hh => ?_⟩
  obtain ⟨x, H1, I1, r1, a, e, q⟩ := hh
  subst e; cases r1
  have fin : ∀ (J : It) (tn : Nat → Heap → Prop) (o : Obj), (∀ it, Turn X.prog X.w X.K tg J [it] it tn) → R J H1 → tn 0 (s1.heap.push o) → PIE X pins σ tg R (.ref s1.heap.objs.size) { s1 with heap := s1.heap.push o } := fun J tn o T qR st => by
    refine ⟨s1.heap.objs.size, [s1.heap.objs.size], tn, J, H1, rfl, I1.kept (t' := s1.toks) (fun b u e => Heap.get?_push_of_some _ e), T _, st, fun b hb => ?_, qR⟩
    rw [List.mem_singleton.mp hb]
    exact I1.fpOk (Nat.le_refl _) (I1.hok.fresh (Nat.le_refl _))
  rcases q with ⟨⟨xs, hq⟩, q⟩ | ⟨⟨xs, hq⟩, q⟩
  · obtain ⟨its, rv, p, hz⟩ := I1.list hq
    refine wpAny_pyIter_list p.isList ?_
    obtain ⟨it, hit⟩ : ∃ it, it = s1.heap.objs.size := ⟨_, rfl⟩
    refine ⟨s1.heap.objs.size, [s1.heap.objs.size], _, _, H1, rfl, I1.kept (t' := s1.toks) (fun b u e => Heap.get?_push_of_some _ e), turn_list a _, ⟨_, Heap.get?_push_size _ rfl, rfl, rfl⟩, fun b hb => ?_, q⟩
    rw [List.mem_singleton.mp hb]
    exact I1.fpOk (Nat.le_refl _) (I1.hok.fresh (Nat.le_refl _))
  · obtain ⟨its, rv, p, hz⟩ := I1.tuple hq
    refine wpAny_pyIter_tuple (show s1.heap.IsTuple a its.toArray from p) ?_
    refine ⟨s1.heap.objs.size, [s1.heap.objs.size], _, _, H1, rfl, I1.kept (t' := s1.toks) (fun b u e => Heap.get?_push_of_some _ e), turn_tuple a _, ⟨_, Heap.get?_push_size _ rfl, rfl, rfl⟩, fun b hb => ?_, q⟩
    rw [List.mem_singleton.mp hb]
    exact I1.fpOk (Nat.le_refl _) (I1.hok.fresh (Nat.le_refl _))
def itmD : D → Option (List D)
  | .list ds => some ds
  | .tuple ds => some ds
  | _ => none
def dItm (f : Ev → Mn D) (ev : Ev) : Mn (List D) := bnd (f ev) fun x => lft (itmD x)
theorem i_seq {tg e : Expr} {f : Ev → Mn D} (h : SE G k sc N e f) : SI G k sc N tg e (dItm f) := fun X W g tk => by
  refine pi_imp (pi_seq (h X W g tk)) fun σ H Q h => ?_
  obtain ⟨M, r, ev, rs, R, o, rs', e, w⟩ := h
  refine tE_bnd R e w fun x rs1 H1 v R1 s1 d1 e1 w1 => ?_
  obtain ⟨ds, e3, rfl, rfl⟩ := lft_some e1
  rw [g.hK]
  cases d1 with
  | lst h n t => cases e3; exact ⟨_, rfl, .inl ⟨⟨_, .of h⟩, w1 H1 (.refl _) R1.row R1.ml _ (jok_list R1.ml h n t)⟩⟩
  | tup h t => cases e3; exact ⟨_, rfl, .inr ⟨⟨_, h⟩, w1 H1 (.refl _) R1.row R1.ml _ (jok_tup R1.ml h t)⟩⟩
  | _ => cases e3
/-- range(n), range(a, b) -/
def rngD (a b : Int) : List D := (List.range (b - a).toNat).map fun i => .int (a + (i : Nat))
theorem rng_get {a b : Int} {i : Nat} {d : D} (h : (rngD a b)[i]? = some d) : i < (b - a).toNat ∧ d = .int (a + (i : Nat)) := by
  unfold rngD at h
  rw [List.getElem?_map] at h
  cases q : (List.range (b - a).toNat)[i]? with
  | none => rw [q] at h; cases h
  | some j =>
    rw [q] at h; cases h
    obtain ⟨h1, h2⟩ := List.getElem?_eq_some_iff.mp q
    rw [List.getElem_range] at h2
    subst h2
    exact ⟨by simpa using h1, rfl⟩
theorem jok_rng {a b : Int} : JOk K M (Itr a (b - a).toNat) H1 (rngD a b) where
  go := fun H' kp i d e => (rng_get e).1
  yld := fun M' H' kp m i d x H'' e y => by
    obtain ⟨rfl, rfl⟩ := y
    rw [(rng_get e).2]
    exact ⟨.refl _, .int _⟩
  stop := fun H' kp => by
    show (b - a).toNat ≤ (rngD a b).length
    unfold rngD
    rw [List.length_map, List.length_range]
    exact Nat.le_refl _
def rng1 : List D → Option (List D)
  | [.int j] => if -(2 ^ 62) ≤ j ∧ j < 2 ^ 62 then some (rngD 0 j) else none
  | _ => none
def dRng (op : List D → Option (List D)) (f : Ev → Mn (List Slot)) (ev : Ev) : Mn (List D) := bnd (f ev) fun ss => lft ((dats ss).bind op)
theorem i_range1 {tg a : Expr} {f : Ev → Mn (List Slot)} {p pos : Pos} (h : SA G k sc N [a] f) (hm : Mg0 G "range") (hg : glB sc "range" = true := by rfl) (hs : ∀ env, starEach [a] env = [(false, eval a env)] := by intro _; rfl) :
    SI G k sc N tg (.Call (.Name "range" p) [a] [] pos) (dRng rng1 f) := fun X W g tk => by
  refine pi_imp (pi_range1 (gl_of g hg) (by rw [g.hmg]; exact hm) (h X W g tk) (hs _)) fun σ H Q h => ?_
  obtain ⟨M, r, ev, rs, R, o, rs', e, w⟩ := h
  refine tAr_bnd R e w fun ss rs1 H1 vs R1 s1 d1 e1 w1 => ?_
  obtain ⟨ds, e3, rfl, rfl⟩ := lft_some e1
  cases q : dats ss with
  | none => rw [q] at e3; cases e3
  | some as =>
    rw [q] at e3
    replace e3 : rng1 as = some ds := e3
    unfold rng1 at e3
    split at e3
    · rename_i j
      split at e3
      · rename_i hj
        cases e3
        obtain ⟨v, rfl, h1⟩ := one_da (d1.dats q)
        cases h1
        have z := w1 H1 (.refl _) R1.row R1.ml (Itr 0 (j - 0).toNat) jok_rng
        rw [Int.sub_zero] at z
        exact ⟨j, rfl, hj.1, hj.2, z⟩
      · cases e3
    · cases e3
/-- zip(a, b) of two tuples or two lists; the target is a written tuple -/
def zipD : List D → Option (List D)
  | [.tuple xs, .tuple ys] => some ((xs.zip ys).map fun p => .tuple [p.1, p.2])
  | [.list xs, .list ys] => some ((xs.zip ys).map fun p => .tuple [p.1, p.2])
  | _ => none
theorem zip_get {xs ys : List D} {i : Nat} {d : D} (h : ((xs.zip ys).map fun p => PyData.tuple [p.1, p.2])[i]? = some d) : ∃ x y, xs[i]? = some x ∧ ys[i]? = some y ∧ d = .tuple [x, y] := by
  rw [List.getElem?_map] at h
  cases q : (xs.zip ys)[i]? with
  | none => rw [q] at h; cases h
  | some p =>
    rw [q] at h; cases h
    obtain ⟨h1, h2⟩ := List.getElem?_zip_eq_some.mp q
    exact ⟨p.1, p.2, h1, h2, rfl⟩
theorem zip_len {xs ys : List D} {vs ws : List V} (h1 : vs.length = xs.length) (h2 : ws.length = ys.length) : vs.length ≤ ((xs.zip ys).map fun p => PyData.tuple [p.1, p.2]).length ∨ ws.length ≤ ((xs.zip ys).map fun p => PyData.tuple [p.1, p.2]).length := by
  rw [List.length_map, List.length_zip]
  omega
theorem new_pair {H' H'' : Hp} {T : Addr} {x y : V} {dx dy : D} (n : H' T = none) (e : H'' = upd H' T (.tup [x, y])) (hx : Da K M' H' x dx) (hy : Da K M' H' y dy) : Same H' H'' ∧ Da K M' H'' (.ref T) (.tuple [dx, dy]) := by
  subst e
  have s := same_upd (o := .tup [x, y]) n
  exact ⟨s, .tup (.inl (.inl upd_same)) (.cons (hx.same s) (.cons (hy.same s) .nil))⟩
theorem DaL.get' {vs : List V} {ds : List D} {i : Nat} {v : V} {d : D} (h : DaL K M H vs ds) (e1 : vs[i]? = some v) (e2 : ds[i]? = some d) : Da K M H v d := by
  obtain ⟨u, h1, h2⟩ := h.get e2
  rw [e1] at h1; cases h1
  exact h2
theorem jok_zipT {a b : Addr} {vs ws : List V} {xs ys : List D} (ml : Ml M H1) (h : SqT K H1 a vs) (h' : SqT K H1 b ws) (t : DaL K M H1 vs xs) (t' : DaL K M H1 ws ys) :
    JOk K M (RZ.ItzT K a b) H1 ((xs.zip ys).map fun p => .tuple [p.1, p.2]) where
  go := fun H' kp i d e => by
    obtain ⟨x, y, e1, e2, rfl⟩ := zip_get e
    obtain ⟨v, h1, _⟩ := t.get e1
    obtain ⟨u, h2, _⟩ := t'.get e2
    exact ⟨vs, ws, v, u, sqt_kp h ml kp, sqt_kp h' ml kp, h1, h2⟩
  yld := fun M' H' kp m i d x H'' e y => by
    obtain ⟨dx, dy, e1, e2, rfl⟩ := zip_get e
    obtain ⟨T, v, u, rfl, n, e3, q1, q2⟩ := y
    exact new_pair n e3 ((t.get' (q1 _ (sqt_kp h ml kp)) e1).on ml m kp) ((t'.get' (q2 _ (sqt_kp h' ml kp)) e2).on ml m kp)
  stop := fun H' kp => ⟨vs, ws, sqt_kp h ml kp, sqt_kp h' ml kp, zip_len t.length t'.length⟩
theorem jok_zipL {a b : Addr} {vs ws : List V} {xs ys : List D} (ml : Ml M H1) (h : H1 a = some (.lst vs)) (n : ¬ M a) (h' : H1 b = some (.lst ws)) (n' : ¬ M b) (t : DaL K M H1 vs xs) (t' : DaL K M H1 ws ys) :
    JOk K M (Itz K a b) H1 ((xs.zip ys).map fun p => .tuple [p.1, p.2]) where
  go := fun H' kp i d e => by
    obtain ⟨x, y, e1, e2, rfl⟩ := zip_get e
    obtain ⟨v, h1, _⟩ := t.get e1
    obtain ⟨u, h2, _⟩ := t'.get e2
    exact ⟨vs, ws, v, u, .of (kp _ _ n h), .of (kp _ _ n' h'), h1, h2⟩
  yld := fun M' H' kp m i d x H'' e y => by
    obtain ⟨dx, dy, e1, e2, rfl⟩ := zip_get e
    obtain ⟨T, v, u, rfl, nn, e3, q1, q2⟩ := y
    exact new_pair nn e3 ((t.get' (q1 _ (.of (kp _ _ n h))) e1).on ml m kp) ((t'.get' (q2 _ (.of (kp _ _ n' h'))) e2).on ml m kp)
  stop := fun H' kp => ⟨vs, ws, .of (kp _ _ n h), .of (kp _ _ n' h'), zip_len t.length t'.length⟩
theorem i_zip {a b : Expr} {f : Ev → Mn (List Slot)} {es : List Expr} {j : Nat} {tp p pos : Pos} (h : SA G k sc N [a, b] f) (hm : Mg0 G "zip") (hg : glB sc "zip" = true := by rfl) (hs : ∀ env, starEach [a, b] env = (false, eval a env) :: starEach [b] env := by intro _; rfl) (hs2 : ∀ env, (backTo pos (starEach [b] env)).any (·.1) = false := by intro _; rfl) :
    SI G k sc N (.Tuple es j tp) (.Call (.Name "zip" p) [a, b] [] pos) (dRng zipD f) := fun X W g tk => by
  refine pi_imp (RZ.pi_zipA (gl_of g hg) (by rw [g.hmg]; exact hm) (h X W g tk) (hs _) (hs2 _)) fun σ H Q h => ?_
  obtain ⟨M, r, ev, rs, R, o, rs', e, w⟩ := h
  refine tAr_bnd R e w fun ss rs1 H1 vs R1 s1 d1 e1 w1 => ?_
  obtain ⟨ds, e3, rfl, rfl⟩ := lft_some e1
  cases q : dats ss with
  | none => rw [q] at e3; cases e3
  | some as =>
    rw [q] at e3
    replace e3 : zipD as = some ds := e3
    unfold zipD at e3
    rw [g.hK]
    split at e3
    · cases e3
      obtain ⟨v, v', rfl, h1, h2⟩ := two_da (d1.dats q)
      cases h1 with
      | tup q1 t1 =>
        cases h2 with
        | tup q2 t2 => exact ⟨_, _, _, _, rfl, .inr ⟨q1, q2, w1 H1 (.refl _) R1.row R1.ml _ (jok_zipT R1.ml q1 q2 t1 t2)⟩⟩
    · cases e3
      obtain ⟨v, v', rfl, h1, h2⟩ := two_da (d1.dats q)
      cases h1 with
      | lst q1 n1 t1 =>
        cases h2 with
        | lst q2 n2 t2 => exact ⟨_, _, _, _, rfl, .inl ⟨.of q1, .of q2, w1 H1 (.refl _) R1.row R1.ml _ (jok_zipL R1.ml q1 n1 q2 n2 t1 t2)⟩⟩
    · cases e3
inductive Tgt where
  | name (i : Nat)
  | tup (is : List Nat)
def Tgt.ix : Tgt → List Nat
  | .name i => [i]
  | .tup is => is
def Tgt.of : Tgt → D → Option (List D)
  | .name _, d => some [d]
  | .tup is, .tuple ds => if ds.length = is.length then some ds else none
  | .tup _, _ => none
def setV (σ : L2.St) : List Nat → List V → L2.St
  | i :: is, v :: vs => setV (σ.set i (some v)) is vs
  | _, _ => σ
def setE (ev : Ev) : List Nat → List D → Ev
  | i :: is, d :: ds => setE (ev.set i (.dat d)) is ds
  | _, _ => ev
def PGt (G : Gm) (k : Nat) (sc : Sx) (N : List Str) (tg : Expr) (t : Tgt) : Prop :=
  ∃ u : TG, (∀ (X : Cx), Gd G k sc N X → PG X tg u) ∧ ∀ M (σ : L2.St) H v d ds Q, Da G.K M H v d → t.of d = some ds → (∀ vs, DaL G.K M H vs ds → Q (setV σ t.ix vs) H) → u v σ H Q
def locB (sc : Sx) (x : Str) : Bool := match sc.sc.names.lookup x with
  | some .local => true
  | some .cell => sc.fc x
  | _ => false
theorem loc_of {X : Cx} {x : Str} (g : Gd G k sc N X) (h : locB sc x = true) : Loc X.env.scope x ∧ (X.fn x = true ∨ X.env.scope.names.lookup x = some .local) := by
  unfold locB at h
  rw [g.hsc]
  split at h
  · rename_i e; exact ⟨.inl e, .inr e⟩
  · rename_i e; exact ⟨.inr e, .inl (g.hfc x h)⟩
  · cases h
theorem pg_at {X : Cx} {i : Nat} {x : Str} {p : Pos} (g : Gd G k sc N X) (hi : N[i]? = some x) (hl : locB sc x = true) : PG X (.Name x p) (gName i) :=
  pg_name (by rw [g.hN]; exact g.nd) (by rw [g.hN]; exact hi) (loc_of g hl).1 (loc_of g hl).2
theorem g_name (i : Nat) {x : Str} {p : Pos} (hi : N[i]? = some x := by rfl) (hl : locB sc x = true := by rfl) : PGt G k sc N (.Name x p) (.name i) :=
  ⟨_, fun X g => pg_at g hi hl, fun M σ H v d ds Q hd e q => by cases e; exact q [v] (.cons hd .nil)⟩
/-- the names of a written tuple -/
inductive GNs (sc : Sx) (N : List Str) : List Expr → List Nat → Prop where
  | nil : GNs sc N [] []
  | cons {i : Nat} {x : Str} {p : Pos} {es : List Expr} {is : List Nat} (hi : N[i]? = some x) (hl : locB sc x = true) (t : GNs sc N es is) : GNs sc N (.Name x p :: es) (i :: is)
theorem gns_go : ∀ {es : List Expr} {is : List Nat}, GNs sc N es is → ∃ u : TGs, (∀ (X : Cx), Gd G k sc N X → PGs X es u ∧ (assignEach es X.env).length = is.length ∧ (assignEach es X.env).findIdx? (·.1) = none) ∧ ∀ (σ : L2.St) H vs Q, vs.length = is.length → Q (setV σ is vs) H → u vs σ H Q
  | _, _, .nil => ⟨_, fun X g => ⟨pgs_nil, rfl, rfl⟩, fun σ H vs Q e q => by
    cases vs with
    | nil => exact ⟨rfl, q⟩
    | cons v vs => cases e⟩
  | _, _, .cons (i := i) (x := x) (p := p) (es := es) (is := is) hi hl t => by
    obtain ⟨u, h1, h4⟩ := gns_go t
    refine ⟨gCons (gName i) u, fun X g => ?_, fun σ H vs Q e q => ?_⟩
    · obtain ⟨h1, h2, h3⟩ := h1 X g
      refine ⟨pgs_cons (pg_at g hi hl) h1 (by rfl), ?_, ?_⟩
      · show (assignEach es X.env).length + 1 = is.length + 1
        rw [h2]
      · show (List.findIdx? (·.1) ((false, assign (.Name x p) X.env) :: assignEach es X.env)) = none
        rw [List.findIdx?_cons]
        simp [h3]
    · cases vs with
      | nil => cases e
      | cons v vs => exact ⟨v, vs, rfl, h4 _ H vs Q (by simpa using e) q⟩
theorem g_tup (is : List Nat) {es : List Expr} {j : Nat} {p : Pos} (h : GNs sc N es is) : PGt G k sc N (.Tuple es j p) (.tup is) := by
  obtain ⟨u, h1, h4⟩ := gns_go (G := G) (k := k) h
  refine ⟨gTup G.K is.length u, fun X g => ?_, fun M σ H v d ds Q hd e q => ?_⟩
  · obtain ⟨h1, h2, h3⟩ := h1 X g
    rw [← g.hK]
    exact pg_tup g.calm h1 h2 h3
  · cases hd with
    | tup a t =>
      rename_i ad xs es'
      replace e : (if es'.length = is.length then some es' else none) = some ds := e
      split at e
      · rename_i hl
        cases e
        exact ⟨_, _, rfl, a, by rw [t.length]; exact hl, h4 σ H _ Q (by rw [t.length]; exact hl) (q _ t)⟩
      · cases e
    | _ => cases e
end
end DL
namespace DL
open PySem PySem.Spec PyProof.Rows L2
section
variable {G : Gm} {k : Nat} {sc : Sx} {N : List Str}
variable {K : PySem.W.Frag} {mg : Str → Option Value} {M M' : Addr → Prop} {H H' H1 : Hp} {r : Rw} {σ : L2.St} {ev : Ev} {rs rs' : RS} {W : WX}
theorem RelE.set1 {i : Nat} {v : V} {d : D} (R : RelE K M r σ H ev rs) (h : Da K M H v d) : RelE K M r (σ.set i (some v)) H (ev.set i (.dat d)) rs := by
  refine ⟨R.mr, R.ml, R.row, fun j s e => ?_, by rw [List.length_set, List.length_set]; exact R.len⟩
  by_cases hj : i = j
  · subst hj
    have hl : i < ev.length := by
      have := (List.getElem?_eq_some_iff.mp e).1
      rwa [List.length_set] at this
    rw [List.getElem?_set_self hl] at e
    cases e
    exact ⟨v, List.getElem?_set_self (Nat.lt_of_lt_of_le hl R.len), h⟩
  · rw [List.getElem?_set_ne hj] at e
    have q := R.slots j s e
    cases s with
    | hid => trivial
    | own _ => trivial
    | dat d' => obtain ⟨u, e1, e2⟩ := q; exact ⟨u, by rw [List.getElem?_set_ne hj]; exact e1, e2⟩
    | row => show (σ.set i (some v))[j]? = _; rw [List.getElem?_set_ne hj]; exact q
theorem RelE.setL : ∀ {is : List Nat} {vs : List V} {ds : List D} {σ : L2.St} {ev : Ev}, RelE K M r σ H ev rs → DaL K M H vs ds → RelE K M r (setV σ is vs) H (setE ev is ds) rs
  | [], _, _, _, _, R, _ => R
  | _ :: _, _, _, _, _, R, .nil => R
  | i :: is, _, _, _, _, R, .cons h t => RelE.setL (is := is) (R.set1 h) t
def wipeE (ev : Ev) : List Nat → Ev
  | [] => ev
  | v :: vs => (wipeE ev vs).set v .hid
theorem RelE.hid1 {i : Nat} {o : Option V} (R : RelE K M r σ H ev rs) : RelE K M r (σ.set i o) H (ev.set i .hid) rs := by
  refine ⟨R.mr, R.ml, R.row, fun j s e => ?_, by rw [List.length_set, List.length_set]; exact R.len⟩
  by_cases hj : i = j
  · subst hj
    have hl : i < ev.length := by
      have := (List.getElem?_eq_some_iff.mp e).1
      rwa [List.length_set] at this
    rw [List.getElem?_set_self hl] at e
    cases e
    trivial
  · rw [List.getElem?_set_ne hj] at e
    have q := R.slots j s e
    cases s with
    | hid => trivial
    | own _ => trivial
    | dat d' => obtain ⟨u, e1, e2⟩ := q; exact ⟨u, by rw [List.getElem?_set_ne hj]; exact e1, e2⟩
    | row => show (σ.set i o)[j]? = _; rw [List.getElem?_set_ne hj]; exact q
theorem RelE.wiped (R : RelE K M r σ H ev rs) : ∀ vs : List Nat, RelE K M r (wipe σ vs) H (wipeE ev vs) rs
  | [] => R
  | v :: vs => (RelE.wiped R vs).hid1
theorem wipe_get {σ : L2.St} {j : Nat} : ∀ {vs : List Nat}, j ∉ vs → (wipe σ vs)[j]? = σ[j]?
  | [], _ => rfl
  | v :: vs, h => by
    simp only [List.mem_cons, not_or] at h
    show ((wipe σ vs).set v none)[j]? = _
    rw [List.getElem?_set_ne (Ne.symm h.1), wipe_get h.2]
theorem wipe_in {σ : L2.St} {j : Nat} : ∀ {vs : List Nat}, j ∈ vs → j < σ.length → (wipe σ vs)[j]? = some none
  | v :: vs, h, hl => by
    show ((wipe σ vs).set v none)[j]? = _
    by_cases e : v = j
    · subst e
      exact List.getElem?_set_self (by rw [wipe_length]; exact hl)
    · rw [List.getElem?_set_ne e]
      refine wipe_in ?_ hl
      rcases List.mem_cons.mp h with q | q
      · exact absurd q.symm e
      · exact q
/-- stores within vs are wiped -/
theorem wipe_set {σ σ' : L2.St} {vs : List Nat} (hl : σ'.length = σ.length) (h : ∀ j, j ∉ vs → σ'[j]? = σ[j]?) : wipe σ' vs = wipe σ vs := by
  apply List.ext_getElem?
  intro j
  by_cases hj : j ∈ vs
  · by_cases hlt : j < σ.length
    · rw [wipe_in hj hlt, wipe_in hj (by rw [hl]; exact hlt)]
    · rw [List.getElem?_eq_none (by rw [wipe_length]; omega), List.getElem?_eq_none (by rw [wipe_length]; omega)]
  · rw [wipe_get hj, wipe_get hj, h j hj]
theorem setV_length : ∀ {is : List Nat} {vs : List V} {σ : L2.St}, (setV σ is vs).length = σ.length
  | [], _, _ => rfl
  | _ :: _, [], _ => rfl
  | i :: is, v :: vs, σ => by
    show (setV (σ.set i (some v)) is vs).length = _
    rw [setV_length, List.length_set]
theorem setV_out {j : Nat} : ∀ {is : List Nat} {vs : List V} {σ : L2.St}, j ∉ is → (setV σ is vs)[j]? = σ[j]?
  | [], _, _, _ => rfl
  | _ :: _, [], _, _ => rfl
  | i :: is, v :: vs, σ, h => by
    simp only [List.mem_cons, not_or] at h
    show (setV (σ.set i (some v)) is vs)[j]? = _
    rw [setV_out h.2, List.getElem?_set_ne (Ne.symm h.1)]
theorem wipe_turn {is own : List Nat} {vs : List V} (h : ∀ i ∈ is, i ∈ own) : wipe (setV (wipe σ own) is vs) own = wipe σ own := by
  refine wipe_set (by rw [setV_length, wipe_length]) fun j hj => ?_
  rw [setV_out fun z => hj (h j z), wipe_get hj]
def nox {α : Type} (m : Mn α) : Mn α := fun rs => match m rs with
  | some (.val a, rs') => some (.val a, rs')
  | _ => none
theorem nox_some {α : Type} {m : Mn α} {rs rs' : RS} {o : Out α} (h : nox m rs = some (o, rs')) : ∃ a, o = .val a ∧ m rs = some (.val a, rs') := by
  unfold nox at h
  split at h
  · rename_i e; cases h; exact ⟨_, rfl, e⟩
  · cases h
theorem bnd_nox {α β : Type} {m : Mn α} {f : α → Mn β} {rs rs' : RS} {o : Out β} (h : bnd (nox m) f rs = some (o, rs')) : ∃ a rs1, m rs = some (.val a, rs1) ∧ f a rs1 = some (o, rs') := by
  rcases bnd_some h with ⟨a, rs1, e1, e2⟩ | ⟨x, i, e1, _⟩
  · obtain ⟨b, eb, e3⟩ := nox_some e1
    cases eb
    exact ⟨a, rs1, e3, e2⟩
  · obtain ⟨b, eb, _⟩ := nox_some e1
    cases eb
def compGo (t : Tgt) (cond : Ev → Mn Bool) (elt : Ev → Mn D) (ev : Ev) : List D → Mn (List D)
  | [] => pur []
  | d :: ds => bnd (lft (t.of d)) fun es => bnd (nox (cond (setE ev t.ix es))) fun c =>
    if c = true then bnd (nox (elt (setE ev t.ix es))) fun x => bnd (compGo t cond elt ev ds) fun xs => pur (x :: xs) else compGo t cond elt ev ds
def dComp (own : List Nat) (src : Ev → Mn (List D)) (t : Tgt) (cond : Ev → Mn Bool) (elt : Ev → Mn D) (ev : Ev) : Mn D :=
  bnd (src ev) fun ds => bnd (compGo t cond elt (wipeE ev own) ds) fun out => lft (if out.length ≤ sizeLine then some (.list out) else none)
theorem compGo_val {t : Tgt} {cond : Ev → Mn Bool} {elt : Ev → Mn D} {ev : Ev} : ∀ {ds : List D} {rs rs' : RS} {o : Out (List D)}, compGo t cond elt ev ds rs = some (o, rs') → ∃ xs, o = .val xs
  | [], _, _, _, h => by cases h; exact ⟨_, rfl⟩
  | d :: ds, rs, rs', o, h => by
    obtain ⟨es, _, h⟩ := bnd_lft h
    obtain ⟨c, rs1, _, h⟩ := bnd_nox h
    split at h
    · obtain ⟨x, rs2, _, h⟩ := bnd_nox h
      rcases bnd_some h with ⟨a, rs3, e1, e2⟩ | ⟨x, i, e1, rfl⟩
      · cases e2; exact ⟨_, rfl⟩
      · obtain ⟨xs, e⟩ := compGo_val e1
        cases e
    · exact compGo_val h
theorem tI_bnd {β : Type} {fa : Ev → Mn (List D)} {kk : List D → Mn β} {o : Out β} {Vb : β → Hp → Prop} {Q1 : It → Hp → Prop} (R : RelE K M r σ H ev rs) (h : bnd (fa ev) kk rs = some (o, rs')) (w : Wan K mg M r H rs' (fun cls dd H' => W cls dd σ H') Vb o)
    (c : ∀ ds rs1 H1 J, RelE K M r σ H1 ev rs1 → Stp r H H1 → JOk K M J H1 ds → kk ds rs1 = some (o, rs') → Wan K mg M r H1 rs' (fun cls dd H' => W cls dd σ H') Vb o → Q1 J H1) : tI K mg W fa σ H Q1 := by
  rcases bnd_some h with ⟨x, rs1, e1, e2⟩ | ⟨x, i, e1, rfl⟩
  · refine ⟨M, r, ev, rs, R, .val x, rs1, e1, fun H1 s1 w1 m1 J j1 => ?_⟩
    exact c x rs1 H1 J (R.stp s1 w1) s1 j1 e2 (w.stp s1)
  · exact ⟨M, r, ev, rs, R, .exc x i, rs', e1, w.exc⟩
def Sx.blk (sc : Sx) (scope : Scope) : Sx := ⟨relS scope sc.sc, fun x => scope.names.lookup x == some .cell⟩
theorem Gd.blk {X : Cx} (g : Gd G k sc N X) (s : Shared) (H : Hp) (scope : Scope) (cl : List (Str × Addr)) (C : Addr) (fp : List Addr) : Gd G k (sc.blk scope) N (X.blk s H scope (compEnvC scope cl C X.env) fp) where
  hN := g.hN
  nd := g.nd
  hsc := by
    show relS scope X.env.scope = relS scope sc.sc
    rw [g.hsc]
  hfc := fun x h => h
  calm := g.calm
  room := g.room
  hP := g.hP
  hw := g.hw
  hK := g.hK
  hmg := g.hmg
  hb := g.hb
abbrev W0 : WX := fun _ _ _ _ => False
def SP1 (G : Gm) (k : Nat) (sc : Sx) (N : List Str) (ifs : List Expr) (f : Ev → Mn Bool) : Prop := ∀ (X : Cx) (W : WX), Gd G k sc N X → Takes X W → PTs X ifs (tT G.K G.mg W f)
def dYes (_ : Ev) : Mn Bool := pur true
theorem p_nil : SP1 G k sc N [] dYes := fun X W g tk => ⟨fun pins s σ H Q I h => by
  obtain ⟨M, r, ev, rs, R, o, rs', e, w⟩ := h
  cases e
  exact pts_nil.run pins s σ H Q I (w H (.refl H) R.row)⟩
theorem p_one {c : Expr} {f : Ev → Mn Bool} (h : ST G k sc N c f) : SP1 G k sc N [c] f := fun X W g tk => pts_one (h X W g tk)
/-- M and one new list -/
def And1 (M : Addr → Prop) (p : Addr) : Addr → Prop := fun b => M b ∨ b = p
theorem RelE.and1 {p : Addr} {xs : List V} (R : RelE K M r σ H ev rs) (hp : H p = none) : RelE K (And1 M p) r σ (upd H p (.lst xs)) ev rs := by
  have ne : ∀ b o, H b = some o → b ≠ p := fun b o e => ne_of_none e hp
  have R1 := R.new (o := .lst xs) hp
  have ext : ∀ {v : V} {d : D}, Da K M H v d → Da K (And1 M p) (upd H p (.lst xs)) v d := fun h => (h.ext fun b m => m.elim .inl fun e => .inr (by rw [e]; exact hp)).same (same_upd hp)
  refine ⟨.inl R.mr, fun b m => ?_, ?_, fun i s e => ?_, R.len⟩
  · rcases m with m | rfl
    · exact R.ml.upd hp b m
    · exact ⟨xs, upd_same⟩
  · obtain ⟨⟨e1, e1'⟩, e2⟩ := R.row
    refine ⟨⟨by rw [upd_ne (ne _ _ e1)]; exact e1, e1'⟩, ?_⟩
    rcases e2 with ⟨h | ⟨o, h⟩, n⟩ | h
    · exact .inl ⟨.inl (by rw [upd_ne (ne _ _ h)]; exact h), fun z => z.elim n fun e => ne _ _ h e⟩
    · exact .inl ⟨.inr ⟨o, by rw [upd_ne (ne _ _ h)]; exact h⟩, fun z => z.elim n fun e => ne _ _ h e⟩
    · exact .inr h
  · have q := R.slots i s e
    cases s with
    | hid => trivial
    | own _ => trivial
    | row => exact q
    | dat d => obtain ⟨v, e1, e2⟩ := q; exact ⟨v, e1, ext e2⟩
theorem row_sub {K : PySem.W.Frag} {M M' : Addr → Prop} {H : Hp} {r : Rw} {rs : RS} (h : RowAt K M H r rs) (s : ∀ b, M' b → M b) : RowAt K M' H r rs := by
  obtain ⟨e1, e2⟩ := h
  exact ⟨e1, sqlm_sub e2 s⟩
/-- all that was tracked but the row and one more -/
def Same' (r : Rw) (p : Addr) (H H' : Hp) : Prop := ∀ b o, b ≠ p → b ≠ r.a → H b = some o → H' b = some o
/-- a comprehension of one clause, as its rule wants it -/
theorem lc_imp {X : Cx} {W : WX} {fi : Ev → Mn (List D)} {t : Tgt} {fc : Ev → Mn Bool} {fe : Ev → Mn D} {own : List (Str × Nat)} {u : TG} (g : Gd G k sc N X) (hu2 : ∀ M (σ : L2.St) H v d ds Q, Da G.K M H v d → t.of d = some ds → (∀ vs, DaL G.K M H vs ds → Q (setV σ t.ix vs) H) → u v σ H Q) (hix : ∀ i ∈ t.ix, i ∈ own.map (·.2)) :
    ∀ σ H Q, tE G.K G.mg W (dComp (own.map (·.2)) fi t fc fe) σ H Q → tLc (tI G.K G.mg W fi) u (tT G.K G.mg W0 fc) (tE G.K G.mg W0 fe) (own.map (·.2)) σ H Q := fun σ H Q h => by
  obtain ⟨M, r, ev, rs, R, o, rs', e, w⟩ := h
  refine tI_bnd R e w fun ds rs1 H1 J R1 s1 jok e1 w1 => ?_
  intro P hP
  -- what the whole makes
  obtain ⟨out, eo⟩ : ∃ out, compGo t fc fe (wipeE ev (own.map (·.2))) ds rs1 = some (.val out, rs') ∧ o = .val (.list out) ∧ out.length ≤ sizeLine := by
    rcases bnd_some e1 with ⟨a, rs2, q1, q2⟩ | ⟨x, i, q1, _⟩
    · obtain ⟨d, q3, rfl, rfl⟩ := lft_some q2
      split at q3
      · rename_i hl; cases q3; exact ⟨a, q1, rfl, hl⟩
      · cases q3
    · obtain ⟨xs, q⟩ := compGo_val q1
      cases q
  obtain ⟨eg, rfl, hlen⟩ := eo
  have M1r : And1 M P r.a := .inl R.mr
  refine ⟨fun i m H' => m = ds.length - i ∧ i ≤ ds.length ∧ ∃ acc accD rest rsi, H' P = some (.lst acc) ∧ DaL G.K (And1 M P) H' acc accD ∧ Same' r P H1 H' ∧ RelE G.K (And1 M P) r (wipe σ (own.map (·.2))) H' (wipeE ev (own.map (·.2))) rsi ∧ compGo t fc fe (wipeE ev (own.map (·.2))) (ds.drop i) rsi = some (.val rest, rs') ∧ accD ++ rest = out, ⟨_, rfl, Nat.zero_le _, [], [], out, rs1, upd_same, .nil, fun b o hb hr e => by rw [upd_ne hb]; exact e, (R1.wiped _).and1 hP, by rw [List.drop_zero]; exact eg, rfl⟩, ?_⟩
  rintro i m H2 ⟨rfl, hil, acc, accD, rest, rsi, hD, hacc, hsm, R2, hgo, happ⟩
  have kp : Kp M H1 H2 := fun b o n e => hsm b o (ne_of_none e hP) (fun z => n (z ▸ R.mr)) e
  by_cases hlt : i < ds.length
  · have hd := List.getElem?_eq_getElem hlt
    refine .inr ⟨jok.go H2 kp i _ hd, fun H' => ds.length - (i + 1) = ds.length - (i + 1) ∧ i + 1 ≤ ds.length ∧ ∃ acc accD rest rsi, H' P = some (.lst acc) ∧ DaL G.K (And1 M P) H' acc accD ∧ Same' r P H1 H' ∧ RelE G.K (And1 M P) r (wipe σ (own.map (·.2))) H' (wipeE ev (own.map (·.2))) rsi ∧ compGo t fc fe (wipeE ev (own.map (·.2))) (ds.drop (i + 1)) rsi = some (.val rest, rs') ∧ accD ++ rest = out, fun H' q => ⟨_, by omega, q⟩, fun x H3 hy => ?_⟩
    obtain ⟨sm3, dx⟩ := jok.yld (And1 M P) H2 kp (fun b z => z.elim .inl fun e => .inr (by rw [e]; exact hP)) i _ x H3 hd hy
    rw [List.drop_eq_getElem_cons hlt] at hgo
    obtain ⟨es, ht1, hgo⟩ := bnd_lft hgo
    obtain ⟨c, rs2, hc1, hgo⟩ := bnd_nox hgo
    have R3 : RelE G.K (And1 M P) r (wipe σ (own.map (·.2))) H3 (wipeE ev (own.map (·.2))) rsi := R2.stp (.of_same sm3) (row_same R2.row sm3)
    refine hu2 _ _ _ _ _ _ _ dx ht1 fun vs hvs => ?_
    refine ⟨wipe_turn hix, ?_⟩
    have R4 := R3.setL (is := t.ix) hvs
    refine ⟨_, _, _, rsi, R4, .val c, rs2, hc1, fun H5 s5 w5 => ?_⟩
    have R5 := R4.stp s5 w5
    have back : ∀ {H' : Hp} {rsx : RS}, Stp r H3 H' → RowAt G.K (And1 M P) H' r rsx → RelE G.K (And1 M P) r (wipe σ (own.map (·.2))) H' (wipeE ev (own.map (·.2))) rsx := fun s w => R3.stp s w
    have same5 : Same' r P H1 H5 := fun b o hb hr e => s5 b o hr (sm3 b o (hsm b o hb hr e))
    cases c with
    | false =>
      rw [if_neg (by decide)] at hgo
      show if false = true then _ else _
      rw [if_neg (by decide)]
      have kp5 : Kp (And1 M P) H2 H5 := ((Kp.of_same sm3).trans (s5.kp M1r))
      have rP : P ≠ r.a := fun z => by
        obtain ⟨⟨e1, _⟩, _⟩ := R1.row
        rw [z, e1] at hP; cases hP
      exact ⟨rfl, hlt, acc, accD, rest, rs2, s5 _ _ rP (sm3 _ _ hD), hacc.kp R2.ml kp5, same5, back s5 w5, hgo, happ⟩
    | true =>
      rw [if_pos rfl] at hgo
      show if true = true then _ else _
      rw [if_pos rfl]
      obtain ⟨y, rs3, hy1, hgo⟩ := bnd_nox hgo
      rcases bnd_some hgo with ⟨rest', rs4, q1, q2⟩ | ⟨_, _, q1, q2⟩
      · cases q2
        refine ⟨_, _, _, rs2, R5, .val y, rs3, hy1, fun H6 s6 w6 v dv => ?_⟩
        have rP : P ≠ r.a := fun z => by
          obtain ⟨⟨e1, _⟩, _⟩ := R1.row
          rw [z, e1] at hP; cases hP
        have s36 : Stp r H3 H6 := s5.trans s6
        have hD6 : H6 P = some (.lst acc) := s36 _ _ rP (sm3 _ _ hD)
        have kp6 : Kp (And1 M P) H2 H6 := ((Kp.of_same sm3).trans (s36.kp M1r))
        have ml6 : Ml (And1 M P) H6 := R5.ml.stp M1r s6 w6
        have acc6 : DaL G.K (And1 M P) H6 acc accD := hacc.kp R2.ml kp6
        have lacc : acc.length < sizeLine := by
          rw [acc6.length]
          have : accD.length + (y :: rest').length = out.length := by rw [← happ, List.length_append]
          simp only [List.length_cons] at this
          omega
        have k7 : Kp (And1 M P) H6 (upd H6 P (.lst (acc ++ [v]))) := fun b o n e => by rw [upd_ne fun z => n (.inr z)]; exact e
        have s7 : ∀ b o, b ≠ P → H6 b = some o → (upd H6 P (.lst (acc ++ [v]))) b = some o := fun b o n e => by rw [upd_ne n]; exact e
        have row7 : RowAt G.K (And1 M P) (upd H6 P (.lst (acc ++ [v]))) r rs3 := by
          obtain ⟨⟨e1, e1'⟩, e2⟩ := w6
          exact ⟨⟨s7 _ _ rP.symm e1, e1'⟩, sqlm_kp e2 k7⟩
        have R7 : RelE G.K (And1 M P) r (wipe σ (own.map (·.2))) (upd H6 P (.lst (acc ++ [v]))) (wipeE ev (own.map (·.2))) rs3 := by
          have R6 := back s36 w6
          refine ⟨R6.mr, fun b m => ?_, row7, fun j s e => (R6.slots j s e).kp R6.ml k7, R6.len⟩
          by_cases hb : b = P
          · exact ⟨_, by rw [hb]; exact upd_same⟩
          · obtain ⟨xs, e⟩ := R6.ml b m
            exact ⟨xs, s7 _ _ hb e⟩
        refine ⟨acc, hD6, lacc, rfl, hlt, acc ++ [v], accD ++ [y], rest', rs3, upd_same, ?_, fun b o hb hr e => s7 _ _ hb (s36 b o hr (sm3 b o (hsm b o hb hr e))), R7, q1, by rw [List.append_assoc]; exact happ⟩
        exact DaL.kp ml6 k7 (acc6.append (.cons dv .nil))
      · cases q2
  · have ei : i = ds.length := by omega
    subst ei
    rw [List.drop_length] at hgo
    cases hgo
    rw [List.append_nil] at happ
    subst happ
    refine .inl ⟨jok.stop H2 kp, ?_⟩
    have s12 : Stp r H1 H2 := fun b o n e => hsm b o (ne_of_none e hP) n e
    exact w1 H2 s12 (row_sub R2.row fun b m => .inl m) _ (.lst hD (R1.ml.fresh hP) (hacc.sub fun b m => .inl m))
theorem e_lc {elt tg iter : Expr} {ifs : List Expr} {scope : Scope} {pos : Pos} {fi : Ev → Mn (List D)} {t : Tgt} {fc : Ev → Mn Bool} {fe : Ev → Mn D} (own : List (Str × Nat)) (hi : SI G k sc N tg iter fi) (ht : PGt G k (sc.blk scope) N tg t) (hc : SP1 G k (sc.blk scope) N ifs fc) (he : SE G k (sc.blk scope) N elt fe)
    (hb : blkC N sc.sc scope own = true := by decide +kernel) (hix : ∀ i ∈ t.ix, i ∈ own.map (·.2) := by decide) (hs : ∀ env x, foldedSetIterable iter env x = pure x := by intro _ _; rfl) :
    SE G k sc N (.ListComp elt [⟨tg, iter, ifs, 0⟩] scope pos) (dComp (own.map (·.2)) fi t fc fe) := fun X W g tk => by
  have ok : BlkOk X.N X.env.scope scope own := by
    rw [g.hN, g.hsc]
    exact blkOk_by hb
  have nd : X.N.Nodup := by rw [g.hN]; exact g.nd
  obtain ⟨u, hu1, hu2⟩ := ht
  refine pe_imp (pe_lc (own := own) g.calm nd (hi X W g tk) ok (fun s H C cl fp => hu1 _ (g.blk s H scope cl C fp)) (fun s H C cl fp => hc _ W0 (g.blk s H scope cl C fp) L2.takes0) (fun s H C cl fp => he _ W0 (g.blk s H scope cl C fp) L2.takes0) (hs _)) (lc_imp g hu2 hix)
end
end DL
namespace DL
open PySem PySem.Spec PyProof.Rows L2
inductive Res where
  | nx (ev : Ev)
  | ret (d : D)
  | bk (ev : Ev)
  | ct (ev : Ev)
  | exc (x : Str) (i : Option Int)
abbrev Ms := RS → Option (Res × RS)
def isOwn (ev : Ev) (i : Nat) : Prop := ∃ ds, ev[i]? = some (.own ds)
/-- the addresses of the frame's own lists beside M -/
def Av (M : Addr → Prop) (ev : Ev) (oa : Nat → Addr) : Addr → Prop := fun b => M b ∨ ∃ i, isOwn ev i ∧ b = oa i
structure RelS (K : PySem.W.Frag) (M : Addr → Prop) (r : Rw) (Pr : Addr → HO → Prop) (σ : L2.St) (H : Hp) (ev : Ev) (rs : RS) (oa : Nat → Addr) : Prop where
  e : RelE K (Av M ev oa) r σ H ev rs
  mr : M r.a
  prot : ∀ b o, Pr b o → H b = some o
  nr : ∀ o, ¬ Pr r.a o
  pm : ∀ b, M b → b ≠ r.a → ∃ xs, Pr b (.lst xs)
  own : ∀ i ds, ev[i]? = some (.own ds) → ∃ xs, σ[i]? = some (some (.ref (oa i))) ∧ H (oa i) = some (.lst xs) ∧ DaL K (Av M ev oa) H xs ds ∧ (∀ o, ¬ Pr (oa i) o) ∧ oa i ≠ r.a
  inj : ∀ i j, isOwn ev i → isOwn ev j → oa i = oa j → i = j
section
variable {K : PySem.W.Frag} {mg : Str → Option Value} {M : Addr → Prop} {H H' H1 : Hp} {r : Rw} {σ σ' : L2.St} {ev ev' : Ev} {rs rs' : RS} {W : WX} {Pr : Addr → HO → Prop} {oa : Nat → Addr}
/-- own lists, lent: they may be read as data, then nothing may be kept of them -/
def lendS : Slot → Slot
  | .own ds => .dat (.list ds)
  | s => s
def lend (ev : Ev) : Ev := ev.map lendS
theorem lend_get {i : Nat} {s : Slot} (h : (lend ev)[i]? = some s) : ∃ t, ev[i]? = some t ∧ s = lendS t := by
  unfold lend at h
  rw [List.getElem?_map] at h
  cases q : ev[i]? with
  | none => rw [q] at h; cases h
  | some t => rw [q] at h; cases h; exact ⟨t, rfl, rfl⟩
theorem RelS.ownM (R : RelS K M r Pr σ H ev rs oa) {i : Nat} (h : isOwn ev i) : ¬ M (oa i) := fun m => by
  obtain ⟨ds, e⟩ := h
  obtain ⟨xs, _, _, _, np, nr⟩ := R.own i ds e
  obtain ⟨ys, q⟩ := R.pm _ m nr
  exact np _ q
theorem RelS.lent (R : RelS K M r Pr σ H ev rs oa) : RelE K M r σ H (lend ev) rs := by
  refine ⟨R.mr, fun b m => R.e.ml b (.inl m), row_sub R.e.row fun b m => .inl m, fun i s e => ?_, by unfold lend; rw [List.length_map]; exact R.e.len⟩
  obtain ⟨t, e1, rfl⟩ := lend_get e
  have q := R.e.slots i t e1
  cases t with
  | hid => trivial
  | row => exact q
  | dat d => obtain ⟨v, h1, h2⟩ := q; exact ⟨v, h1, h2.sub fun b m => .inl m⟩
  | own ds =>
    obtain ⟨xs, h1, h2, h3, _, _⟩ := R.own i ds e1
    exact ⟨_, h1, .lst h2 (R.ownM ⟨ds, e1⟩) (h3.sub fun b m => .inl m)⟩
theorem lend_own (i : Nat) : ¬ isOwn (lend ev) i := fun ⟨ds, h⟩ => by
  obtain ⟨t, _, e⟩ := lend_get h
  cases t <;> cases e
theorem av_lend {b : Addr} (h : Av M (lend ev) oa b) : M b := h.elim id fun ⟨i, q, _⟩ => absurd q (lend_own i)
/-- own lists, given up: data from now on -/
theorem RelS.freeze (R : RelS K M r Pr σ H ev rs oa) : RelS K M r Pr σ H (lend ev) rs oa := by
  have L := R.lent
  refine ⟨⟨.inl R.mr, fun b m => L.ml b (av_lend m), ?_, fun i s e => ?_, L.len⟩, R.mr, R.prot, R.nr, R.pm, fun i ds e => absurd ⟨ds, e⟩ (lend_own i), fun i j h => absurd h (lend_own i)⟩
  · exact row_sub L.row fun b m => av_lend m
  · have q := L.slots i s e
    cases s with
    | hid => trivial
    | row => exact q
    | own _ => trivial
    | dat d => obtain ⟨v, h1, h2⟩ := q; exact ⟨v, h1, h2.sub fun b m => av_lend m⟩
theorem RelE.sub (R : RelE K M r σ H ev rs) {M' : Addr → Prop} (s : ∀ b, M' b → M b) (m : M' r.a) : RelE K M' r σ H ev rs := by
  refine ⟨m, fun b q => R.ml b (s b q), row_sub R.row s, fun i t e => ?_, R.len⟩
  have q := R.slots i t e
  cases t with
  | hid => trivial
  | own _ => trivial
  | row => exact q
  | dat d => obtain ⟨v, h1, h2⟩ := q; exact ⟨v, h1, h2.sub s⟩
/-- behind what keeps all but the row -/
theorem RelS.stp (R : RelS K M r Pr σ H ev rs oa) {M' : Addr → Prop} (s : Stp r H H') (w : RowAt K M' H' r rs') : RelS K M r Pr σ H' ev rs' oa := by
  have w2 : RowAt K (Av M ev oa) H' r rs' := ⟨w.1, sqlm_kp R.e.row.2 (s.kp R.e.mr)⟩
  refine ⟨R.e.stp s w2, R.mr, fun b o p => s b o (fun z => R.nr o (z ▸ p)) (R.prot b o p), R.nr, R.pm, fun i ds e => ?_, R.inj⟩
  obtain ⟨xs, h1, h2, h3, h4, h5⟩ := R.own i ds e
  exact ⟨xs, h1, s _ _ h5 h2, h3.kp R.e.ml (s.kp R.e.mr), h4, h5⟩
def PrK (Pr : Addr → HO → Prop) (H : Hp) : Prop := ∀ b o, Pr b o → H b = some o
def WanS (K : PySem.W.Frag) (mg : Str → Option Value) (M : Addr → Prop) (r : Rw) (Pr : Addr → HO → Prop) (rs' : RS) (W : WX) (D : Ends) : Res → Prop
  | .nx ev => ∀ σ H oa, RelS K M r Pr σ H ev rs' oa → D.nx σ H
  | .bk ev => ∀ σ H oa, RelS K M r Pr σ H ev rs' oa → D.bk σ H
  | .ct ev => ∀ σ H oa, RelS K M r Pr σ H ev rs' oa → D.ct σ H
  | .ret d => ∀ v H, PrK Pr H → RowAt K M H r rs' → Da K M H v d → D.rt v H
  | .exc x i => ∀ cls dd σ H, PrK Pr H → RowAt K M H r rs' → ExA mg x i cls dd H → W cls dd σ H
def tS (K : PySem.W.Frag) (mg : Str → Option Value) (W : WX) (f : Ev → Ms) : TS := fun D σ H =>
  ∃ M r Pr ev rs oa, RelS K M r Pr σ H ev rs oa ∧ ∃ o rs', f ev rs = some (o, rs') ∧ WanS K mg M r Pr rs' W D o
theorem RelS.evE (R : RelS K M r Pr σ H ev rs oa) {M' : Addr → Prop} {ev' : Ev} (R' : RelE K M' r σ H ev' rs) (hM : ∀ b, M b → M' b) {f : Ev → Mn D} {o : Out D} {Q : VK} (e : f ev' rs = some (o, rs'))
    (cv : ∀ d, o = .val d → ∀ v H', RelS K M r Pr σ H' ev rs' oa → Stp r H H' → Da K M' H' v d → Q v H') (cx : ∀ x i, o = .exc x i → ∀ cls dd σ H, PrK Pr H → RowAt K M H r rs' → ExA mg x i cls dd H → W cls dd σ H) : tE K mg W f σ H Q := by
  refine ⟨M', r, ev', rs, R', o, rs', e, ?_⟩
  cases o with
  | val d => exact fun H' s w v dv => cv d rfl v H' (R.stp s w) s dv
  | exc x i => exact fun cls dd H' s w a => cx x i rfl cls dd σ H' (R.stp s w).prot (row_sub w hM) a
theorem RelS.evT (R : RelS K M r Pr σ H ev rs oa) {f : Ev → Mn Bool} {o : Out Bool} {Q : Bool → Hp → Prop} (e : f (lend ev) rs = some (o, rs'))
    (cv : ∀ b, o = .val b → ∀ H', RelS K M r Pr σ H' ev rs' oa → Q b H') (cx : ∀ x i, o = .exc x i → ∀ cls dd σ H, PrK Pr H → RowAt K M H r rs' → ExA mg x i cls dd H → W cls dd σ H) : tT K mg W f σ H Q := by
  refine ⟨M, r, lend ev, rs, R.lent, o, rs', e, ?_⟩
  cases o with
  | val d => exact fun H' s w => cv d rfl H' (R.stp s w)
  | exc x i => exact fun cls dd H' s w a => cx x i rfl cls dd σ H' (R.stp s w).prot w a
theorem isOwn_set {i j : Nat} {s : Slot} (hs : ∀ ds, s ≠ .own ds) (h : isOwn (ev.set i s) j) : isOwn ev j ∧ i ≠ j := by
  obtain ⟨ds, e⟩ := h
  by_cases hj : i = j
  · subst hj
    have hl : i < ev.length := by
      have := (List.getElem?_eq_some_iff.mp e).1
      rwa [List.length_set] at this
    rw [List.getElem?_set_self hl] at e
    exact absurd (Option.some.inj e) (hs ds)
  · rw [List.getElem?_set_ne hj] at e
    exact ⟨⟨ds, e⟩, hj⟩
theorem RelS.set1 (R : RelS K M r Pr σ H ev rs oa) {i : Nat} {v : V} {d : D} (h : Da K (Av M ev oa) H v d) : RelS K M r Pr (σ.set i (some v)) H (ev.set i (.dat d)) rs oa := by
  have nd : ∀ ds, Slot.dat d ≠ .own ds := fun ds e => by cases e
  have sub : ∀ b, Av M (ev.set i (.dat d)) oa b → Av M ev oa b := fun b m => m.elim .inl fun ⟨j, o, e⟩ => .inr ⟨j, (isOwn_set nd o).1, e⟩
  refine ⟨(R.e.set1 h).sub sub (.inl R.mr), R.mr, R.prot, R.nr, R.pm, fun j ds e => ?_, fun j j' o o' => R.inj j j' (isOwn_set nd o).1 (isOwn_set nd o').1⟩
  obtain ⟨_, hj⟩ := isOwn_set nd ⟨ds, e⟩
  rw [List.getElem?_set_ne hj] at e
  obtain ⟨xs, h1, h2, h3, h4⟩ := R.own j ds e
  exact ⟨xs, by rw [List.getElem?_set_ne hj]; exact h1, h2, h3.sub sub, h4⟩
theorem RelS.setL : ∀ {is : List Nat} {vs : List V} {ds : List D} {σ : L2.St} {ev : Ev}, RelS K M r Pr σ H ev rs oa → DaL K (Av M ev oa) H vs ds → RelS K M r Pr (setV σ is vs) H (setE ev is ds) rs oa
  | [], _, _, _, _, R, _ => R
  | _ :: _, _, _, _, _, R, .nil => R
  | i :: is, _, _, σ, ev, R, .cons (d := d) h t => by
    refine RelS.setL (is := is) (R.set1 h) (t.sub fun b m => m.elim .inl fun ⟨j, o, e⟩ => .inr ⟨j, (isOwn_set (fun ds e => by cases e) o).1, e⟩)
theorem RelE.setAny {i : Nat} {o : Option V} {s : Slot} (hs : SlotAt K M r (σ.set i o) H i s) (R : RelE K M r σ H ev rs) : RelE K M r (σ.set i o) H (ev.set i s) rs := by
  refine ⟨R.mr, R.ml, R.row, fun j t e => ?_, by rw [List.length_set, List.length_set]; exact R.len⟩
  by_cases hj : i = j
  · subst hj
    have hl : i < ev.length := by
      have := (List.getElem?_eq_some_iff.mp e).1
      rwa [List.length_set] at this
    rw [List.getElem?_set_self hl] at e
    cases e
    exact hs
  · rw [List.getElem?_set_ne hj] at e
    have q := R.slots j t e
    cases t with
    | hid => trivial
    | own _ => trivial
    | dat d' => obtain ⟨u, e1, e2⟩ := q; exact ⟨u, by rw [List.getElem?_set_ne hj]; exact e1, e2⟩
    | row => show (σ.set i o)[j]? = _; rw [List.getElem?_set_ne hj]; exact q
/-- a new own list at slot i -/
theorem RelS.newOwn (R : RelS K M r Pr σ H ev rs oa) {i : Nat} {p : Addr} {xs : List V} {ds : List D} (hp : H p = none) (h : DaL K (Av M ev oa) H xs ds) :
    RelS K M r Pr (σ.set i (some (.ref p))) (upd H p (.lst xs)) (ev.set i (.own ds)) rs (fun j => if j = i then p else oa j) := by
  have ne : ∀ {b o}, H b = some o → b ≠ p := fun e => ne_of_none e hp
  have own_ne : ∀ {j}, i ≠ j → isOwn (ev.set i (.own ds)) j → isOwn ev j := fun {j} hj ⟨es, e⟩ => ⟨es, by rw [List.getElem?_set_ne hj] at e; exact e⟩
  have sub : ∀ b, Av M (ev.set i (.own ds)) (fun j => if j = i then p else oa j) b → And1 (Av M ev oa) p b := fun b m => by
    rcases m with m | ⟨j, o, e⟩
    · exact .inl (.inl m)
    · by_cases hj : i = j
      · subst hj
        exact .inr (by simpa using e)
      · replace e : b = if j = i then p else oa j := e
        rw [if_neg (Ne.symm hj)] at e
        exact .inl (.inr ⟨j, own_ne hj o, e⟩)
  have big : RelE K (And1 (Av M ev oa) p) r (σ.set i (some (.ref p))) (upd H p (.lst xs)) (ev.set i (.own ds)) rs := (R.e.and1 hp).setAny trivial
  have ext : ∀ {vs : List V} {es : List D}, DaL K (Av M ev oa) H vs es → DaL K (Av M (ev.set i (.own ds)) (fun j => if j = i then p else oa j)) (upd H p (.lst xs)) vs es := fun h => ((h.ext (M' := And1 (Av M ev oa) p) fun b m => m.elim .inl fun e => .inr (by rw [e]; exact hp)).same (same_upd hp)).sub sub
  have rp : p ≠ r.a := fun z => by
    have q := R.e.row.1.1
    rw [← z, hp] at q; cases q
  refine ⟨big.sub sub (.inl R.mr), R.mr, fun b o q => same_upd hp b o (R.prot b o q), R.nr, R.pm, fun j es e => ?_, fun j j' o o' e => ?_⟩
  · by_cases hj : i = j
    · subst hj
      have hl : i < ev.length := by
        have := (List.getElem?_eq_some_iff.mp e).1
        rwa [List.length_set] at this
      rw [List.getElem?_set_self hl] at e
      cases e
      rw [if_pos rfl]
      refine ⟨xs, List.getElem?_set_self (Nat.lt_of_lt_of_le hl R.e.len), upd_same, ext h, fun o q => ?_, rp⟩
      have z := R.prot _ _ q
      rw [hp] at z; cases z
    · rw [List.getElem?_set_ne hj] at e
      obtain ⟨ys, h1, h2, h3, h4⟩ := R.own j es e
      rw [if_neg (Ne.symm hj)]
      exact ⟨ys, by rw [List.getElem?_set_ne hj]; exact h1, same_upd hp _ _ h2, ext h3, h4⟩
  · by_cases hj : i = j
    · by_cases hj' : i = j'
      · rw [← hj, ← hj']
      · obtain ⟨es, q⟩ := own_ne hj' o'
        obtain ⟨ys, _, h2, _⟩ := R.own j' es q
        simp only [hj, if_pos, if_neg (Ne.symm hj')] at e
        subst hj
        rw [if_neg (Ne.symm hj')] at e
        exact absurd e.symm (ne h2)
    · by_cases hj' : i = j'
      · obtain ⟨es, q⟩ := own_ne hj o
        obtain ⟨ys, _, h2, _⟩ := R.own j es q
        subst hj'
        simp only [if_pos, if_neg (Ne.symm hj)] at e
        exact absurd e (ne h2)
      · simp only [if_neg (Ne.symm hj), if_neg (Ne.symm hj')] at e
        exact R.inj j j' (own_ne hj o) (own_ne hj' o') e
/-- an own list changes -/
theorem RelS.mut (R : RelS K M r Pr σ H ev rs oa) {i : Nat} {ds es : List D} {ys : List V} (hi : ev[i]? = some (.own ds)) (h : DaL K (Av M ev oa) H ys es) : RelS K M r Pr σ (upd H (oa i) (.lst ys)) (ev.set i (.own es)) rs oa := by
  obtain ⟨xs, g1, g2, g3, g4, g5⟩ := R.own i ds hi
  have hl : i < ev.length := (List.getElem?_eq_some_iff.mp hi).1
  have io : isOwn ev i := ⟨ds, hi⟩
  have kp : Kp (Av M ev oa) H (upd H (oa i) (.lst ys)) := fun b o n e => by rw [upd_ne fun z => n (.inr ⟨i, io, z⟩)]; exact e
  have own_iff : ∀ {j}, isOwn (ev.set i (.own es)) j → isOwn ev j := fun {j} ⟨fs, e⟩ => by
    by_cases hj : i = j
    · rw [← hj]; exact io
    · rw [List.getElem?_set_ne hj] at e; exact ⟨fs, e⟩
  have sub : ∀ b, Av M (ev.set i (.own es)) oa b → Av M ev oa b := fun b m => m.elim .inl fun ⟨j, o, e⟩ => .inr ⟨j, own_iff o, e⟩
  have ml : Ml (Av M ev oa) (upd H (oa i) (.lst ys)) := fun b m => by
    by_cases hb : b = oa i
    · exact ⟨ys, by rw [hb]; exact upd_same⟩
    · obtain ⟨zs, e⟩ := R.e.ml b m
      exact ⟨zs, by rw [upd_ne hb]; exact e⟩
  have big : RelE K (Av M ev oa) r σ (upd H (oa i) (.lst ys)) (ev.set i (.own es)) rs := by
    refine ⟨R.e.mr, ml, ⟨⟨by rw [upd_ne (Ne.symm g5)]; exact R.e.row.1.1, R.e.row.1.2⟩, sqlm_kp R.e.row.2 kp⟩, fun j t e => ?_, by rw [List.length_set]; exact R.e.len⟩
    by_cases hj : i = j
    · subst hj
      rw [List.getElem?_set_self hl] at e
      cases e
      trivial
    · rw [List.getElem?_set_ne hj] at e
      exact (R.e.slots j t e).kp R.e.ml kp
  refine ⟨big.sub sub (.inl R.mr), R.mr, fun b o q => ?_, R.nr, R.pm, fun j fs e => ?_, fun j j' o o' => R.inj j j' (own_iff o) (own_iff o')⟩
  · rw [upd_ne fun z => g4 o (by rw [← z]; exact q)]
    exact R.prot b o q
  · by_cases hj : i = j
    · subst hj
      rw [List.getElem?_set_self hl] at e
      cases e
      exact ⟨ys, g1, upd_same, (h.kp R.e.ml kp).sub sub, g4, g5⟩
    · rw [List.getElem?_set_ne hj] at e
      obtain ⟨zs, h1, h2, h3, h4⟩ := R.own j fs e
      have ne : oa j ≠ oa i := fun z => hj (R.inj i j io ⟨fs, e⟩ z.symm)
      exact ⟨zs, h1, by rw [upd_ne ne]; exact h2, (h3.kp R.e.ml kp).sub sub, h4⟩
end
end DL
namespace DL
open PySem PySem.Spec PyProof.Rows L2
section
variable {G : Gm} {k : Nat} {sc : Sx} {N : List Str}
variable {K : PySem.W.Frag} {mg : Str → Option Value} {M : Addr → Prop} {H H' H1 : Hp} {r : Rw} {σ σ' : L2.St} {ev ev' : Ev} {rs rs' : RS} {W : WX} {Pr : Addr → HO → Prop} {oa : Nat → Addr}
def SS (G : Gm) (k : Nat) (sc : Sx) (N : List Str) (st : Stmt) (f : Ev → Ms) : Prop := ∀ (X : Cx) (W : WX), Gd G k sc N X → Takes X W → PassesOwn (model X.prog X.w) X.A X.env X.xe → PS X st (tS G.K G.mg W f)
def SB (G : Gm) (k : Nat) (sc : Sx) (N : List Str) (st : List Stmt) (f : Ev → Ms) : Prop := ∀ (X : Cx) (W : WX), Gd G k sc N X → Takes X W → PassesOwn (model X.prog X.w) X.A X.env X.xe → PSs X st (tS G.K G.mg W f)
def sNil (ev : Ev) : Ms := fun rs => some (.nx ev, rs)
def seqM (f g : Ev → Ms) (ev : Ev) : Ms := fun rs => match f ev rs with
  | some (.nx ev', rs') => g ev' rs'
  | q => q
theorem s_nil : SB G k sc N [] sNil := fun X W g tk po => pss_imp pss_nil fun D σ H h => by
  obtain ⟨M, r, Pr, ev, rs, oa, R, o, rs', e, w⟩ := h
  cases e
  exact w σ H oa R
theorem seqM_some {f g : Ev → Ms} {o : Res} (h : seqM f g ev rs = some (o, rs')) : (∃ ev1 rs1, f ev rs = some (.nx ev1, rs1) ∧ g ev1 rs1 = some (o, rs')) ∨ (f ev rs = some (o, rs') ∧ ∀ e, o ≠ .nx e) := by
  unfold seqM at h
  split at h
  · rename_i ev1 rs1 e; exact .inl ⟨ev1, rs1, e, h⟩
  · rename_i q hq
    refine .inr ⟨h, fun e1 e2 => ?_⟩
    subst e2
    exact hq _ _ h
theorem s_cons {st : Stmt} {rest : List Stmt} {f g : Ev → Ms} (h1 : SS G k sc N st f) (h2 : SB G k sc N rest g) : SB G k sc N (st :: rest) (seqM f g) := fun X W gd tk po => by
  refine pss_imp (pss_cons (h1 X W gd tk po) (h2 X W gd tk po)) fun D σ H h => ?_
  obtain ⟨M, r, Pr, ev, rs, oa, R, o, rs', e, w⟩ := h
  rcases seqM_some e with ⟨ev1, rs1, e1, e2⟩ | ⟨e1, hn⟩
  · exact ⟨M, r, Pr, ev, rs, oa, R, .nx ev1, rs1, e1, fun σ1 H1 oa1 R1 => ⟨M, r, Pr, ev1, rs1, oa1, R1, o, rs', e2, w⟩⟩
  · refine ⟨M, r, Pr, ev, rs, oa, R, o, rs', e1, ?_⟩
    cases o with
    | nx e' => exact absurd rfl (hn e')
    | ret d => exact w
    | bk e => exact w
    | ct e => exact w
    | exc x i => exact w
theorem s_one {st : Stmt} {f : Ev → Ms} (h1 : SS G k sc N st f) : SB G k sc N [st] f := fun X W gd tk po => pss_one (h1 X W gd tk po)
def bnS {α : Type} (m : Mn α) (f : α → Ms) : Ms := fun rs => match m rs with
  | none => none
  | some (.val a, rs') => f a rs'
  | some (.exc x i, rs') => some (.exc x i, rs')
theorem bnS_some {α : Type} {m : Mn α} {f : α → Ms} {o : Res} (h : bnS m f rs = some (o, rs')) : (∃ a rs1, m rs = some (.val a, rs1) ∧ f a rs1 = some (o, rs')) ∨ ∃ x i, m rs = some (.exc x i, rs') ∧ o = .exc x i := by
  unfold bnS at h
  split at h
  · cases h
  · rename_i a rs1 e; exact .inl ⟨a, rs1, e, h⟩
  · rename_i x i rs1 e; cases h; exact .inr ⟨x, i, e, rfl⟩
/-- own lists in sight: what is kept must be free of lists -/
def dyn (f : Ev → Mn D) (ev : Ev) : Mn D := fun rs => match f ev rs with
  | some q => some q
  | none => match f (lend ev) rs with
    | some (.val d, rs') => if noL d = true then some (.val d, rs') else none
    | _ => none
theorem RelS.dynE (R : RelS K M r Pr σ H ev rs oa) {f : Ev → Mn D} {o : Out D} {Q : VK} (e : dyn f ev rs = some (o, rs'))
    (cv : ∀ d, o = .val d → ∀ v H', RelS K M r Pr σ H' ev rs' oa → Stp r H H' → Da K (Av M ev oa) H' v d → Q v H') (cx : ∀ x i, o = .exc x i → ∀ cls dd σ H, PrK Pr H → RowAt K M H r rs' → ExA mg x i cls dd H → W cls dd σ H) : tE K mg W f σ H Q := by
  unfold dyn at e
  split at e
  · rename_i q eq
    cases e
    exact R.evE R.e (fun b m => .inl m) eq cv cx
  · split at e
    · rename_i d rs1 eq
      split at e
      · rename_i hn
        cases e
        exact R.evE R.lent (fun b m => m) eq (fun d' ed v H' R' s dv => cv d' ed v H' R' s (by cases ed; exact dv.any hn)) cx
      · cases e
    · cases e
def sSet (i : Nat) (f : Ev → Mn D) (ev : Ev) : Ms := bnS (dyn f ev) fun d rs => some (.nx (ev.set i (.dat d)), rs)
/-- a, b = e (e a tuple as data) -/
def sTgt (t : Tgt) (f : Ev → Mn D) (ev : Ev) : Ms := bnS (bnd (dyn f ev) fun d => lft (t.of d)) fun ds rs => some (.nx (setE ev t.ix ds), rs)
/-- a new list of the frame's own: x = [..] -/
def sOwn (i : Nat) (f : Ev → Mn (List Slot)) (ev : Ev) : Ms := bnS (bnd (f ev) fun ss => lft (if ss.length ≤ sizeLine then dats ss else none)) fun ds rs => some (.nx (ev.set i (.own ds)), rs)
theorem s_own (i : Nat) {x : Str} {es : List Expr} {p p' p2 : Pos} {f : Ev → Mn (List Slot)} (h : SA G k sc N es f) (hi : N[i]? = some x := by rfl) (hl : locB sc x = true := by rfl)
    (hs : ∀ env, env.scope = sc.sc → swapsWith (.List es p2) (some (.Name x p')) p.line env = pure false := by intro env h; first | rfl | (cases env; cases h; rfl)) : SS G k sc N (.Assign [.Name x p'] (.List es p2) p) (sOwn i f) := fun X W g tk po => by
  refine ps_imp (ps_set (i := i) (by rw [g.hN]; exact g.nd) (by rw [g.hN]; exact hi) (loc_of g hl).1 (pe_lst (h X W g tk)) (hs _ g.hsc) (loc_of g hl).2) fun D σ H h => ?_
  obtain ⟨M, r, Pr, ev, rs, oa, R, o, rs', e, w⟩ := h
  show tAr G.K G.mg W f σ H _
  rcases bnS_some e with ⟨ds, rs1, e1, e2⟩ | ⟨x, j, e1, rfl⟩
  · cases e2
    rcases bnd_some e1 with ⟨ss, rs2, e3, e4⟩ | ⟨_, _, _, e4⟩
    · obtain ⟨ds', e5, e6, rfl⟩ := lft_some e4
      cases e6
      split at e5
      · rename_i hl
        refine ⟨_, r, ev, rs, R.e, .val ss, _, e3, fun H1 s1 w1 vs hvs => ⟨by rw [hvs.length]; exact hl, fun q hq => ?_⟩⟩
        have R1 := R.stp s1 w1
        exact w _ _ _ (R1.newOwn hq (hvs.dats e5))
      · cases e5
    · cases e4
  · rcases bnd_some e1 with ⟨d, rs2, e3, e4⟩ | ⟨y, j', e3, e4⟩
    · obtain ⟨ds', e5, e6, rfl⟩ := lft_some e4
      cases e6
    · cases e4
      refine ⟨_, r, ev, rs, R.e, .exc x j, rs', e3, fun cls dd H' s w1 a => w cls dd σ H' (R.stp s w1).prot (row_sub w1 fun b m => .inl m) a⟩
/-- x += e, ints -/
def sAug (i : Nat) (f : Ev → Mn D) (op : Int → Int → Int) (ev : Ev) : Ms := bnS (bnd (lft (getE ev i)) fun a => bnd (f (lend ev)) fun b => lft (match a, b with
  | .int x, .int y => some (PyData.int (op x y))
  | _, _ => none)) fun d rs => some (.nx (ev.set i (.dat d)), rs)
def sRet (f : Ev → Mn D) (ev : Ev) : Ms := bnS (f (lend ev)) fun d rs => some (.ret d, rs)
theorem s_ret {e : Expr} {p : Pos} {f : Ev → Mn D} (h : SE G k sc N e f) : SS G k sc N (.Return (some e) p) (sRet f) := fun X W g tk po => by
  refine ps_imp (ps_ret (h X W g tk)) fun D σ H h => ?_
  obtain ⟨M, r, Pr, ev, rs, oa, R, o, rs', e, w⟩ := h
  rcases bnS_some e with ⟨d, rs1, e1, e2⟩ | ⟨x, j, e1, rfl⟩
  · cases e2
    refine ⟨M, r, lend ev, rs, R.lent, .val d, rs', e1, fun H' s w1 v dv => w v H' (R.stp s w1).prot w1 dv⟩
  · exact R.evE R.lent (fun b m => m) e1 (fun _ ed => by cases ed) fun y j ed => by cases ed; exact w
def sRetN (_ : Ev) : Ms := fun rs => some (.ret .none, rs)
def sBk (ev : Ev) : Ms := fun rs => some (.bk ev, rs)
def sCt (ev : Ev) : Ms := fun rs => some (.ct ev, rs)
def sDrop (f : Ev → Mn D) (ev : Ev) : Ms := bnS (f (lend ev)) fun _ rs => some (.nx ev, rs)
def sIf (t : Ev → Mn Bool) (f g : Ev → Ms) (ev : Ev) : Ms := bnS (t (lend ev)) fun c => if c = true then f ev else g ev
theorem s_if {c : Expr} {a b : List Stmt} {p : Pos} {t : Ev → Mn Bool} {f g : Ev → Ms} (hc : ST G k sc N c t) (ha : SB G k sc N a f) (hb : SB G k sc N b g) : SS G k sc N (.If c a b p) (sIf t f g) := fun X W gd tk po => by
  refine ps_imp (ps_if (hc X W gd tk) (ha X W gd tk po) (hb X W gd tk po)) fun D σ H h => ?_
  obtain ⟨M, r, Pr, ev, rs, oa, R, o, rs', e, w⟩ := h
  rcases bnS_some e with ⟨c, rs1, e1, e2⟩ | ⟨x, j, e1, rfl⟩
  · refine R.evT e1 (fun c' ec H' R' => ?_) fun _ _ ed => by cases ed
    cases ec
    cases c with
    | true => rw [if_pos rfl] at e2; rw [if_pos rfl]; exact ⟨M, r, Pr, ev, rs1, oa, R', o, rs', e2, w⟩
    | false => rw [if_neg (by decide)] at e2; rw [if_neg (by decide)]; exact ⟨M, r, Pr, ev, rs1, oa, R', o, rs', e2, w⟩
  · exact R.evT e1 (fun _ ed => by cases ed) fun y j ed => by cases ed; exact w
end
end DL
namespace DL
open PySem PySem.Spec PyProof.Rows L2
section
variable {G : Gm} {k : Nat} {sc : Sx} {N : List Str}
variable {K : PySem.W.Frag} {mg : Str → Option Value} {M : Addr → Prop} {H H' H1 : Hp} {r : Rw} {σ σ' : L2.St} {ev ev' : Ev} {rs rs' : RS} {W : WX} {Pr Pr' : Addr → HO → Prop} {oa : Nat → Addr}
theorem RelS.weak (R : RelS K M r Pr' σ H ev rs oa) (h : ∀ b o, Pr b o → Pr' b o) (pm : ∀ b, M b → b ≠ r.a → ∃ xs, Pr b (.lst xs)) : RelS K M r Pr σ H ev rs oa :=
  ⟨R.e, R.mr, fun b o p => R.prot b o (h b o p), fun o p => R.nr o (h _ o p), pm, fun i ds e => by
    obtain ⟨xs, h1, h2, h3, h4, h5⟩ := R.own i ds e
    exact ⟨xs, h1, h2, h3, fun o p => h4 o (h _ o p), h5⟩, R.inj⟩
/-- what stands at the loop's start is kept through it -/
def PrL (M : Addr → Prop) (r : Rw) (Pr : Addr → HO → Prop) (H : Hp) (ev : Ev) (oa : Nat → Addr) : Addr → HO → Prop := fun b o => Pr b o ∨ (H b = some o ∧ ¬ Av M ev oa b)
theorem RelS.loop (R : RelS K M r Pr σ H ev rs oa) : RelS K M r (PrL M r Pr H ev oa) σ H ev rs oa :=
  ⟨R.e, R.mr, fun b o p => p.elim (R.prot b o) fun q => q.1, fun o p => p.elim (R.nr o) fun q => q.2 (.inl R.mr), fun b m n => by
    obtain ⟨xs, p⟩ := R.pm b m n
    exact ⟨xs, .inl p⟩, fun i ds e => by
    obtain ⟨xs, h1, h2, h3, h4, h5⟩ := R.own i ds e
    exact ⟨xs, h1, h2, h3, fun o p => p.elim (h4 o) fun q => q.2 (.inr ⟨i, ⟨ds, e⟩, rfl⟩), h5⟩, R.inj⟩
def forGo (t : Tgt) (body : Ev → Ms) : List D → Ev → Ms
  | [], ev => fun rs => some (.nx ev, rs)
  | d :: ds, ev => fun rs => match t.of d with
    | none => none
    | some es => match body (setE ev t.ix es) rs with
      | some (.nx ev', rs') => forGo t body ds ev' rs'
      | some (.ct ev', rs') => forGo t body ds ev' rs'
      | some (.bk ev', rs') => some (.nx ev', rs')
      | some (.ret d, rs') => some (.ret d, rs')
      | some (.exc x i, rs') => some (.exc x i, rs')
      | none => none
def sFor (fz : Bool) (src : Ev → Mn (List D)) (t : Tgt) (body : Ev → Ms) (ev : Ev) : Ms := bnS (src (if fz = true then lend ev else ev)) fun ds => forGo t body ds (if fz = true then lend ev else ev)
theorem s_for (fz : Bool) {tg iter : Expr} {body : List Stmt} {p : Pos} {src : Ev → Mn (List D)} {t : Tgt} {f : Ev → Ms} (hi : SI G k sc N tg iter src) (ht : PGt G k sc N tg t) (hb : SB G k sc N body f) (hs : ∀ env x, foldedSetIterable iter env x = pure x := by intro _ _; rfl) :
    SS G k sc N (.For tg iter body [] p) (sFor fz src t f) := fun X W g tk po => by
  obtain ⟨u, hu1, hu2⟩ := ht
  refine ps_imp (ps_for po g.calm (hi X W g tk) (hu1 X g) (hb X W g tk po) (hs _)) fun D σ H h => ?_
  obtain ⟨M, r, Pr, ev0, rs, oa, R0, o, rs', e, w⟩ := h
  obtain ⟨ev, eev⟩ : ∃ ev, ev = if fz = true then lend ev0 else ev0 := ⟨_, rfl⟩
  have R : RelS G.K M r Pr σ H ev rs oa := by
    rw [eev]
    split
    · exact R0.freeze
    · exact R0
  unfold sFor at e
  rw [← eev] at e
  rcases bnS_some e with ⟨ds, rs1, e1, e2⟩ | ⟨x, j, e1, rfl⟩
  · refine ⟨_, r, ev, rs, R.e, .val ds, rs1, e1, fun H1 s1 w1 ml1 J jok => ?_⟩
    have R1 : RelS G.K M r Pr σ H1 ev rs1 oa := R.stp s1 w1
    refine ⟨fun i m σ H => m = ds.length - i ∧ i ≤ ds.length ∧ ∃ ev' rs2 oa', RelS G.K M r (PrL M r Pr H1 ev oa) σ H ev' rs2 oa' ∧ forGo t f (ds.drop i) ev' rs2 = some (o, rs'), ⟨_, rfl, Nat.zero_le _, ev, rs1, oa, R1.loop, e2⟩, ?_⟩
    rintro i m σ2 H2 ⟨rfl, hil, ev2, rs2, oa2, R2, hgo⟩
    have kp : Kp (Av M ev oa) H1 H2 := fun b o n q => R2.prot b o (.inr ⟨q, n⟩)
    by_cases hlt : i < ds.length
    · have hd := List.getElem?_eq_getElem hlt
      refine .inr ⟨jok.go H2 kp i _ hd, fun σ' H' => ds.length - (i + 1) = ds.length - (i + 1) ∧ i + 1 ≤ ds.length ∧ ∃ ev' rs2 oa', RelS G.K M r (PrL M r Pr H1 ev oa) σ' H' ev' rs2 oa' ∧ forGo t f (ds.drop (i + 1)) ev' rs2 = some (o, rs'), fun σ' H' q => ⟨_, by omega, q⟩, fun x H3 hy => ?_⟩
      obtain ⟨sm3, dx⟩ := jok.yld (Av M ev2 oa2) H2 kp (fun b z => by
        rcases z with z | ⟨j, ⟨es, ej⟩, eb⟩
        · exact .inl (.inl z)
        · obtain ⟨xs, _, _, _, np, _⟩ := R2.own j es ej
          by_cases ha : Av M ev oa b
          · exact .inl ha
          · cases q : H1 b with
            | none => exact .inr rfl
            | some o => exact absurd (.inr ⟨by rw [← eb]; exact q, by rw [← eb]; exact ha⟩) (np o)) i _ x H3 hd hy
      rw [List.drop_eq_getElem_cons hlt] at hgo
      have R3 : RelS G.K M r (PrL M r Pr H1 ev oa) σ2 H3 ev2 rs2 oa2 := R2.stp (M' := Av M ev2 oa2) (.of_same sm3) (row_same R2.e.row sm3)
      unfold forGo at hgo
      split at hgo
      · cases hgo
      · rename_i es ht1
        refine hu2 _ _ _ _ _ _ _ dx ht1 fun vs hvs => ?_
        have R4 := R3.setL (is := t.ix) hvs
        have prk : ∀ {H'}, PrK (PrL M r Pr H1 ev oa) H' → PrK Pr H' := fun q b o p => q b o (.inl p)
        cases hbd : f (setE ev2 t.ix es) rs2 with
        | none => rw [hbd] at hgo; cases hgo
        | some q =>
          obtain ⟨ro, rs3⟩ := q
          rw [hbd] at hgo
          refine ⟨M, r, _, _, rs2, oa2, R4, ro, rs3, hbd, ?_⟩
          cases ro with
          | nx ev' => exact fun σ' H' oa' R' => ⟨rfl, hlt, ev', rs3, oa', R', hgo⟩
          | ct ev' => exact fun σ' H' oa' R' => ⟨rfl, hlt, ev', rs3, oa', R', hgo⟩
          | bk ev' => cases hgo; exact fun σ' H' oa' R' => w σ' H' oa' (R'.weak (fun b o p => .inl p) R.pm)
          | ret d => cases hgo; exact fun v H' pk row da => w v H' (prk pk) row da
          | exc x i => cases hgo; exact fun cls dd σ' H' pk row a => w cls dd σ' H' (prk pk) row a
    · have ei : i = ds.length := by omega
      subst ei
      rw [List.drop_length] at hgo
      cases hgo
      exact .inl ⟨jok.stop H2 kp, w σ2 H2 oa2 (R2.weak (fun b o p => .inl p) R.pm)⟩
  · exact ⟨_, r, ev, rs, R.e, .exc x j, rs', e1, fun cls dd H' s w1 a => w cls dd σ H' (R.stp s w1).prot (row_sub w1 fun b m => .inl m) a⟩
def whileN (t : Ev → Mn Bool) (body : Ev → Ms) : Nat → Ev → Ms
  | 0, _ => fun _ => none
  | n + 1, ev => bnS (t (lend ev)) fun c => if c = true then (fun rs => match body ev rs with
      | some (.nx ev', rs') => whileN t body n ev' rs'
      | some (.ct ev', rs') => whileN t body n ev' rs'
      | some (.bk ev', rs') => some (.nx ev', rs')
      | some (.ret d, rs') => some (.ret d, rs')
      | some (.exc x i, rs') => some (.exc x i, rs')
      | none => none) else fun rs => some (.nx ev, rs)
theorem s_while (n : Nat) {c : Expr} {body : List Stmt} {p : Pos} {t : Ev → Mn Bool} {f : Ev → Ms} (hc : ST G k sc N c t) (hb : SB G k sc N body f) : SS G k sc N (.While c body [] p) (whileN t f n) := fun X W g tk po => by
  refine ps_imp (ps_while po (hc X W g tk) (hb X W g tk po)) fun D σ H h => ?_
  obtain ⟨M, r, Pr, ev, rs, oa, R, o, rs', e, w⟩ := h
  refine ⟨fun m σ H => ∃ ev rs oa, RelS G.K M r Pr σ H ev rs oa ∧ whileN t f m ev rs = some (o, rs'), ⟨n, ev, rs, oa, R, e⟩, ?_⟩
  rintro m σ2 H2 ⟨ev2, rs2, oa2, R2, e2⟩
  cases m with
  | zero => cases e2
  | succ m =>
    rcases bnS_some e2 with ⟨c, rs3, e3, e4⟩ | ⟨x, j, e3, rfl⟩
    · refine R2.evT e3 (fun c' ec H' R' => ?_) fun _ _ ed => by cases ed
      cases ec
      cases c with
      | false => rw [if_neg (by decide)] at e4; rw [if_neg (by decide)]; cases e4; exact w _ _ _ R'
      | true =>
        rw [if_pos rfl] at e4; rw [if_pos rfl]
        refine ⟨fun σ H => ∃ ev rs oa, RelS G.K M r Pr σ H ev rs oa ∧ whileN t f m ev rs = some (o, rs'), fun σ' H' q => ⟨m, Nat.lt_succ_self m, q⟩, ?_⟩
        cases hbd : f ev2 rs3 with
        | none => rw [hbd] at e4; cases e4
        | some q =>
          obtain ⟨ro, rs4⟩ := q
          rw [hbd] at e4
          refine ⟨M, r, Pr, ev2, rs3, oa2, R', ro, rs4, hbd, ?_⟩
          cases ro with
          | nx ev' => exact fun σ' H' oa' R' => ⟨ev', rs4, oa', R', e4⟩
          | ct ev' => exact fun σ' H' oa' R' => ⟨ev', rs4, oa', R', e4⟩
          | bk ev' => cases e4; exact w
          | ret d => cases e4; exact w
          | exc x i => cases e4; exact w
    · exact R2.evT e3 (fun _ ed => by cases ed) fun y j ed => by cases ed; exact w
def getO (ev : Ev) (i : Nat) : Option (List D) := match ev[i]? with
  | some (.own ds) => some ds
  | _ => none
theorem getO_some {i : Nat} {ds : List D} (h : getO ev i = some ds) : ev[i]? = some (.own ds) := by
  unfold getO at h
  split at h
  · rename_i e; cases h; exact e
  · cases h
def sApp (i : Nat) (f : Ev → Mn D) (ev : Ev) : Ms := bnS (bnd (lft (getO ev i)) fun ds => bnd (dyn f ev) fun d => lft (if ds.length < sizeLine then some (ds ++ [d]) else none)) fun es rs => some (.nx (ev.set i (.own es)), rs)
theorem pe_at {X : Cx} {i : Nat} {x : Str} {p : Pos} (g : Gd G k sc N X) (hi : N[i]? = some x) (hv : visB sc x = true) (hd : (x == ("__debug__" : Str)) = false) (hcd : (x == ("__classdict__" : Str)) = false) : PE X (.Name x p) (tVar i) :=
  pe_var (i := i) (by rw [g.hN]; exact hi) (by rw [g.hsc]; exact vis_of hv) hd hcd
theorem RelS.at1 (R : RelS K M r Pr σ H ev rs oa) {i : Nat} {ds : List D} (h : getO ev i = some ds) : ∃ xs, σ[i]? = some (some (.ref (oa i))) ∧ H (oa i) = some (.lst xs) ∧ DaL K (Av M ev oa) H xs ds ∧ oa i ≠ r.a := by
  obtain ⟨xs, h1, h2, h3, _, h5⟩ := R.own i ds (getO_some h)
  exact ⟨xs, h1, h2, h3, h5⟩
theorem s_app (i : Nat) {x : Str} {e : Expr} {p1 p2 p3 p4 : Pos} {f : Ev → Mn D} (h : SE G k sc N e f) (hi : N[i]? = some x := by rfl) (hv : visB sc x = true := by rfl) (hd : (x == ("__debug__" : Str)) = false := by decide) (hcd : (x == ("__classdict__" : Str)) = false := by decide)
    (hs : ∀ env, swapsWith (.Call (.Attribute (.Name x p1) "append" p2) [e] [] p3) none p4.line env = pure false := by intro _; rfl) (h1 : ∀ env, starEach [e] env = (false, eval e env) :: starEach [] env := by intro _; rfl)
    (hf : ∀ env, ((backTo p3 (starEach [e] env)).all (fun x => !x.1) && (backToKw p3 (keywordEach [] env)).all (fun x => x.1.isSome) && decide (([e] : List Expr).length + ([] : List Keyword).length + (if ([] : List Keyword).isEmpty then 0 else 1) < 30)) = true := by intro _; rfl)
    (hl : (p2.endLine == p3.line) = true := by rfl) : SS G k sc N (.Expr (.Call (.Attribute (.Name x p1) "append" p2) [e] [] p3) p4) (sApp i f) := fun X W g tk po => by
  refine ps_imp (ps_expr (pe_bm PySem.F.plainAttrs_list PySem.F.slot_list_append PySem.F.type_list_append mt_append (pe_at g hi hv hd hcd) (pa_cons (h X W g tk) pa_nil (h1 _)) (by rfl) (hf _) hl (h1 _) (by rfl)) (hs _)) fun D σ H h => ?_
  obtain ⟨M, r, Pr, ev, rs, oa, R, o, rs', e, w⟩ := h
  have key : ∀ {ds : List DL.D} {o1 : Out (List DL.D)} {rs1 : RS}, getO ev i = some ds → (bnd (dyn f ev) fun d => lft (if ds.length < sizeLine then some (ds ++ [d]) else none)) rs = some (o1, rs1) →
      (∀ es, o1 = .val es → WanS G.K G.mg M r Pr rs1 W D (.nx (ev.set i (.own es)))) → (∀ x j, o1 = .exc x j → WanS G.K G.mg M r Pr rs1 W D (.exc x j)) →
      tDrop (tBM X.K "list" rAppend (tVar i) (tCons (tE G.K G.mg W f) tNil)) D σ H := fun {ds o1 rs1} hg hb cv cx => by
    obtain ⟨xs, a1, a2, a3, a5⟩ := R.at1 hg
    refine ⟨_, a1, .inl ⟨rfl, _, .of a2⟩, ?_⟩
    rcases bnd_some hb with ⟨d, rs2, e3, e4⟩ | ⟨y, j, e3, rfl⟩
    · obtain ⟨es, e5, rfl, rfl⟩ := lft_some e4
      split at e5
      · rename_i hlt
        cases e5
        refine R.dynE e3 (fun d' ed v H' R' s dv => ?_) fun _ _ ed => by cases ed
        cases ed
        obtain ⟨xs', b1, b2, b3, b5⟩ := R'.at1 hg
        rw [s _ _ a5 a2] at b2
        cases b2
        refine ⟨_, xs, v, rfl, rfl, s _ _ a5 a2, by rw [b3.length]; exact hlt, cv _ rfl _ _ oa (R'.mut (getO_some hg) (b3.append (.cons dv .nil)))⟩
      · cases e5
    · exact R.dynE e3 (fun _ ed => by cases ed) fun y j ed => by cases ed; exact cx _ _ rfl
  rcases bnS_some e with ⟨es, rs1, e1, e2⟩ | ⟨y, j, e1, rfl⟩
  · cases e2
    obtain ⟨ds, hg, hb⟩ := bnd_lft e1
    exact key hg hb (fun _ q => by cases q; exact w) fun _ _ q => by cases q
  · obtain ⟨ds, hg, hb⟩ := bnd_lft e1
    exact key hg hb (fun _ q => by cases q) fun _ _ q => by cases q; exact w
/-- x.extend(e), e a list -/
def lstD : D → Option (List D)
  | .list ds => some ds
  | _ => none
def sExt (i : Nat) (f : Ev → Mn D) (ev : Ev) : Ms := bnS (bnd (lft (getO ev i)) fun ds => bnd (f ev) fun d => lft ((lstD d).bind fun es => if ds.length + es.length ≤ sizeLine then some (ds ++ es) else none)) fun es rs => some (.nx (ev.set i (.own es)), rs)
theorem s_ext (i : Nat) {x : Str} {e : Expr} {p1 p2 p3 p4 : Pos} {f : Ev → Mn D} (h : SE G k sc N e f) (hi : N[i]? = some x := by rfl) (hv : visB sc x = true := by rfl) (hd : (x == ("__debug__" : Str)) = false := by decide) (hcd : (x == ("__classdict__" : Str)) = false := by decide)
    (hs : ∀ env, swapsWith (.Call (.Attribute (.Name x p1) "extend" p2) [e] [] p3) none p4.line env = pure false := by intro _; rfl) (h1 : ∀ env, starEach [e] env = (false, eval e env) :: starEach [] env := by intro _; rfl)
    (hf : ∀ env, ((backTo p3 (starEach [e] env)).all (fun x => !x.1) && (backToKw p3 (keywordEach [] env)).all (fun x => x.1.isSome) && decide (([e] : List Expr).length + ([] : List Keyword).length + (if ([] : List Keyword).isEmpty then 0 else 1) < 30)) = true := by intro _; rfl)
    (hl : (p2.endLine == p3.line) = true := by rfl) : SS G k sc N (.Expr (.Call (.Attribute (.Name x p1) "extend" p2) [e] [] p3) p4) (sExt i f) := fun X W g tk po => by
  refine ps_imp (ps_expr (pe_bm PySem.F.plainAttrs_list PySem.F.slot_list_extend PySem.F.type_list_extend mt_extend (pe_at g hi hv hd hcd) (pa_cons (h X W g tk) pa_nil (h1 _)) (by rfl) (hf _) hl (h1 _) (by rfl)) (hs _)) fun D σ H h => ?_
  obtain ⟨M, r, Pr, ev, rs, oa, R, o, rs', e, w⟩ := h
  have key : ∀ {ds : List DL.D} {o1 : Out (List DL.D)} {rs1 : RS}, getO ev i = some ds → (bnd (f ev) fun d => lft ((lstD d).bind fun es => if ds.length + es.length ≤ sizeLine then some (ds ++ es) else none)) rs = some (o1, rs1) →
      (∀ es, o1 = .val es → WanS G.K G.mg M r Pr rs1 W D (.nx (ev.set i (.own es)))) → (∀ x j, o1 = .exc x j → WanS G.K G.mg M r Pr rs1 W D (.exc x j)) →
      tDrop (tBM X.K "list" rExtend (tVar i) (tCons (tE G.K G.mg W f) tNil)) D σ H := fun {ds o1 rs1} hg hb cv cx => by
    obtain ⟨xs, a1, a2, a3, a5⟩ := R.at1 hg
    refine ⟨_, a1, .inl ⟨rfl, _, .of a2⟩, ?_⟩
    rcases bnd_some hb with ⟨d, rs2, e3, e4⟩ | ⟨y, j, e3, rfl⟩
    · obtain ⟨es, e5, rfl, rfl⟩ := lft_some e4
      cases hd : lstD d with
      | none => rw [hd] at e5; cases e5
      | some fs =>
        rw [hd] at e5
        replace e5 : (if ds.length + fs.length ≤ sizeLine then some (ds ++ fs) else none) = some es := e5
        split at e5
        · rename_i hlt
          cases e5
          refine R.evE R.e (fun b m => .inl m) e3 (fun d' ed v H' R' s dv => ?_) fun _ _ ed => by cases ed
          cases ed
          obtain ⟨xs', b1, b2, b3, b5⟩ := R'.at1 hg
          rw [s _ _ a5 a2] at b2
          cases b2
          cases dv with
          | lst q1 q2 q3 =>
            cases hd
            refine ⟨_, _, xs, _, rfl, rfl, s _ _ a5 a2, q1, by rw [b3.length, q3.length]; exact hlt, cv _ rfl _ _ oa (R'.mut (getO_some hg) (b3.append q3))⟩
          | _ => cases hd
        · cases e5
    · exact R.evE R.e (fun b m => .inl m) e3 (fun _ ed => by cases ed) fun y j ed => by cases ed; exact cx _ _ rfl
  rcases bnS_some e with ⟨es, rs1, e1, e2⟩ | ⟨y, j, e1, rfl⟩
  · cases e2
    obtain ⟨ds, hg, hb⟩ := bnd_lft e1
    exact key hg hb (fun _ q => by cases q; exact w) fun _ _ q => by cases q
  · obtain ⟨ds, hg, hb⟩ := bnd_lft e1
    exact key hg hb (fun _ q => by cases q) fun _ _ q => by cases q; exact w
/-- y = x.pop() -/
def sPop (j i : Nat) (ev : Ev) : Ms := bnS (lft ((getO ev i).bind fun ds => (ds[ds.length - 1]?).map fun d => (ds.dropLast, d))) fun q rs => some (.nx ((ev.set i (.own q.1)).set j (.dat q.2)), rs)
theorem DaL.get_last {vs : List V} {ds : List D} {d : D} (h : DaL K M H vs ds) (e : ds[ds.length - 1]? = some d) : ∃ v, vs[vs.length - 1]? = some v ∧ Da K M H v d := by
  rw [h.length]
  exact h.get e
structure ExcF (G : Gm) (x : Str) : Prop where
  ex : ∃ C, G.mg x = some (.ref C) ∧ PySem.W.excIn G.K C [.type "ValueError", .type "Exception", .type "BaseException", .type "object"] "ValueError.__new__" = true ∧ PySem.W.keepIn G.K (.ref C) = true ∧
    PySem.W.subIn G.K (.ref C) (.type "BaseException") = some true ∧ PySem.W.typeIn G.K (.ref C) = some (.type "type")
def sRaise (x : Str) (_ : Ev) : Ms := fun rs => some (.exc x none, rs)
theorem s_raise {x m : Str} {j : Nat} {p p2 pos pos2 : Pos} (F : ExcF G x) (hg : glB sc x = true := by rfl) (hdb : (x == ("__debug__" : Str)) = false := by decide) : SS G k sc N (.Raise (some (.Call (.Name x p) [.Constant (.str m) j p2] [] pos)) none pos2) (sRaise x) := fun X W g tk po => by
  obtain ⟨C, h1, h2, h3, h4, h5⟩ := F.ex
  refine ps_imp (ps_raise g.calm tk (pmk_own PySem.F.excBase_ValueError (by rw [g.hK]; exact h2) (by rw [g.hmg]; exact h1) (by rw [g.hK]; exact h3) (raises_own (by rw [g.hK]; exact h4) (by rw [g.hK]; exact h5)) (gl_of g hg) hdb)) fun D σ H h => ?_
  obtain ⟨M, r, Pr, ev, rs, oa, R, o, rs', e, w⟩ := h
  cases e
  exact w _ _ σ H R.prot (row_sub R.e.row fun b m => .inl m) ⟨⟨C, h1, rfl⟩, rfl⟩
end
section
variable {G : Gm} {k : Nat}
def dFun (n m : Nat) (f : Ev → Ms) (ss : List Slot) : Mn D := fun rs => if ss.length = n then (match f (ss ++ List.replicate (m - n) .hid) rs with
  | some (.nx _, rs') => some (.val .none, rs')
  | some (.ret d, rs') => some (.val d, rs')
  | some (.exc x i, rs') => some (.exc x i, rs')
  | _ => none) else none
theorem arg_slots {K : PySem.W.Frag} {M : Addr → Prop} {r : Rw} {H : Hp} : ∀ {vs : List V} {ss : List Slot} (j : Nat), ArgL K M r H vs ss → ∀ (i : Nat) s, ss[i]? = some s → ∀ σ : L2.St, (∀ i v, vs[i]? = some v → σ[j + i]? = some (some v)) → SlotAt K M r σ H (j + i) s
  | _, _, j, .nil, i, s, e, σ, _ => by simp at e
  | _, _, j, .dat h t, 0, s, e, σ, hσ => by
    simp at e; subst e
    exact ⟨_, hσ 0 _ rfl, h⟩
  | _, _, j, .row t, 0, s, e, σ, hσ => by
    simp at e; subst e
    exact hσ 0 _ rfl
  | _, _, j, .dat h t, i + 1, s, e, σ, hσ => by
    have q := arg_slots (j + 1) t i s (by simpa using e) σ fun i' v h => by
      have z := hσ (i' + 1) v (by simpa using h)
      rwa [show j + (i' + 1) = j + 1 + i' by omega] at z
    rwa [show j + 1 + i = j + (i + 1) by omega] at q
  | _, _, j, .row t, i + 1, s, e, σ, hσ => by
    have q := arg_slots (j + 1) t i s (by simpa using e) σ fun i' v h => by
      have z := hσ (i' + 1) v (by simpa using h)
      rwa [show j + (i' + 1) = j + 1 + i' by omega] at z
    rwa [show j + 1 + i = j + (i + 1) by omega] at q
theorem ArgL.noown {K : PySem.W.Frag} {M : Addr → Prop} {r : Rw} {H : Hp} : ∀ {vs : List V} {ss : List Slot}, ArgL K M r H vs ss → ∀ (i : Nat) ds, ss[i]? ≠ some (.own ds)
  | _, _, .nil, i, ds, e => by simp at e
  | _, _, .dat h t, 0, ds, e => by simp at e
  | _, _, .row t, 0, ds, e => by simp at e
  | _, _, .dat h t, i + 1, ds, e => t.noown i ds (by simpa using e)
  | _, _, .row t, i + 1, ds, e => t.noown i ds (by simpa using e)
theorem fo_of {x : Str} {st : Stmt} {N ps : List Str} {f : Addr} {fd : FuncData} {den : Ev → Ms} (hmg : G.mg x = some (.ref f)) (F : Fun G.K x x st f fd) (S : FnScope N ps (defScope st)) (bd : Binds G.K fd ps []) (h : SB G k ⟨defScope st, fun _ => true⟩ N (defBody st) den) :
    FO G (k + 1) x ps.length (dFun ps.length N.length den) := by
  refine ⟨f, fd, ps, hmg, F.kp, bd, rfl, F.okX S (fun vs H Q E h => h.1) fun cdv A outer s H vs Q E hr hsp => ?_⟩
  have g : Gd G k ⟨defScope st, fun _ => true⟩ N (cxOf (L2.CX G.P G.w) G.P G.w G.K G.mg G.base N x (defScope st) f cdv A outer s H E) := ⟨rfl, S.nd, rfl, fun _ _ => rfl, rfl, hr, rfl, rfl, rfl, rfl, rfl⟩
  refine ⟨_, h _ (fun cls d _ H => E cls d H) g (takes_of rfl rfl rfl rfl) (passes_of rfl), ?_⟩
  obtain ⟨hn, M, r, ss, rs, mr, ml, row, ar, o, rs', e, w⟩ := hsp
  have hl : ss.length = ps.length := by rw [← ar.length]; exact hn
  unfold dFun at e
  rw [if_pos hl] at e
  have lenN : ps.length ≤ N.length := by
    have q := congrArg List.length S.pre
    rw [List.length_take] at q
    omega
  have R : RelS G.K M r (fun b o => H b = some o ∧ b ≠ r.a) (L2.start N vs) H (ss ++ List.replicate (N.length - ps.length) .hid) rs fun _ => 0 := by
    have no : ∀ i, ¬ isOwn (ss ++ List.replicate (N.length - ps.length) .hid) i := fun i ⟨ds, e⟩ => by
      by_cases hi : i < ss.length
      · rw [List.getElem?_append_left hi] at e
        exact ar.noown i ds e
      · rw [List.getElem?_append_right (by omega), List.getElem?_replicate] at e
        split at e <;> cases e
    have sub : ∀ b, Av M (ss ++ List.replicate (N.length - ps.length) .hid) (fun _ => 0) b → M b := fun b m => m.elim id fun ⟨i, q, _⟩ => absurd q (no i)
    refine ⟨RelE.sub (M := M) ⟨mr, ml, row, fun i s e => ?_, ?_⟩ sub (.inl mr), mr, fun b o p => p.1, fun o p => p.2 rfl, fun b m n => ?_, fun i ds e => absurd ⟨ds, e⟩ (no i), fun i j q => absurd q (no i)⟩
    · by_cases hi : i < ss.length
      · rw [List.getElem?_append_left hi] at e
        have q := arg_slots 0 ar i s e (L2.start N vs) fun i' v h => by
          unfold L2.start
          have hi' : i' < vs.length := (List.getElem?_eq_some_iff.mp h).1
          rw [Nat.zero_add, List.getElem?_append_left (by rw [List.length_map]; exact hi'), List.getElem?_map, h]
          rfl
        rwa [Nat.zero_add] at q
      · rw [List.getElem?_append_right (by omega), List.getElem?_replicate] at e
        split at e
        · cases e; trivial
        · cases e
    · unfold L2.start
      rw [List.length_append, List.length_append, List.length_map, List.length_replicate, List.length_replicate, ar.length, hl]
      exact Nat.le_refl _
    · obtain ⟨xs, q⟩ := ml b m
      exact ⟨xs, q, n⟩
  have stp : ∀ {H'}, PrK (fun b o => H b = some o ∧ b ≠ r.a) H' → Stp r H H' := fun p b o n q => p b o ⟨q, n⟩
  cases hden : den (ss ++ List.replicate (N.length - ps.length) .hid) rs with
  | none => rw [hden] at e; cases e
  | some q =>
    obtain ⟨ro, rs2⟩ := q
    rw [hden] at e
    refine ⟨M, r, _, _, rs, _, R, ro, rs2, hden, ?_⟩
    cases ro with
    | nx ev' => cases e; exact fun σ' H' oa' R' => w H' (stp R'.prot) (row_sub R'.e.row fun b m => .inl m) _ .non
    | ret d => cases e; exact fun v H' pk ro dv => w H' (stp pk) ro v dv
    | exc y i => cases e; exact fun cls dd σ' H' pk ro a => w cls dd H' (stp pk) ro a
    | bk ev' => cases e
    | ct ev' => cases e
end
end DL
namespace DL
open PySem PySem.Spec PyProof.Rows L2
section
variable {G : Gm} {k : Nat} {sc : Sx} {N : List Str}
def dBin (op : D → D → Option D) (fa fb : Ev → Mn D) (ev : Ev) : Mn D := bnd (fa ev) fun x => bnd (fb ev) fun y => lft (op x y)
def dUn (op : D → Option D) (fa : Ev → Mn D) (ev : Ev) : Mn D := bnd (fa ev) fun x => lft (op x)
def dCmpE (op : D → D → Option Bool) (fa fb : Ev → Mn D) (ev : Ev) : Mn D := bnd (fa ev) fun x => bnd (fb ev) fun y => lft ((op x y).map .bool)
def dCmp (op : D → D → Option Bool) (fa fb : Ev → Mn D) (ev : Ev) : Mn Bool := bnd (fa ev) fun x => bnd (fb ev) fun y => lft (op x y)
theorem E_ix {a b : Expr} {fa fb : Ev → Mn D} {p : Pos} (ha : SE G k sc N a fa) (hb : SE G k sc N b fb) (hs : ∀ o i, subscripted b false o i = operate [o, i] (getItem o i) := by intro _ _; rfl) : SE G k sc N (.Subscript a b p) (dBin ixD fa fb) := e_ix ha hb hs
theorem E_slLo {a b : Expr} {fa fb : Ev → Mn D} {p1 p2 : Pos} (ha : SE G k sc N a fa) (hb : SE G k sc N b fb) : SE G k sc N (.Subscript a (.Slice (some b) none none p1) p2) (dBin slLo fa fb) := e_slLo ha hb
theorem E_add {a b : Expr} {fa fb : Ev → Mn D} {p : Pos} (ha : SE G k sc N a fa) (hb : SE G k sc N b fb) : SE G k sc N (.BinOp a .Add b p) (dBin addD fa fb) := e_add ha hb
theorem E_sub {a b : Expr} {fa fb : Ev → Mn D} {p : Pos} (ha : SE G k sc N a fa) (hb : SE G k sc N b fb) : SE G k sc N (.BinOp a .Sub b p) (dBin subD fa fb) := e_sub ha hb
theorem E_neg {a : Expr} {fa : Ev → Mn D} {p : Pos} (ha : SE G k sc N a fa) : SE G k sc N (.UnaryOp .USub a p) (dUn negD fa) := e_neg ha
theorem E_cmp {a b : Expr} {fa fb : Ev → Mn D} {op : CmpOp} {f : D → D → Option Bool} {p : Pos} (c : CmpR G k sc N op f) (ha : SE G k sc N a fa) (hb : SE G k sc N b fb) (hm : behindInMarks op b = false := by first | exact nomark _ (by decide) (by decide) | rfl) : SE G k sc N (.Compare a [op] [b] p) (dCmpE f fa fb) := e_cmp c ha hb hm
theorem T_cmp {a b : Expr} {fa fb : Ev → Mn D} {op : CmpOp} {f : D → D → Option Bool} {p : Pos} (c : CmpR G k sc N op f) (ha : SE G k sc N a fa) (hb : SE G k sc N b fb) (hm : behindInMarks op b = false := by first | exact nomark _ (by decide) (by decide) | rfl) : ST G k sc N (.Compare a [op] [b] p) (dCmp f fa fb) := t_cmp c ha hb hm
def KTab := List (Str × D)
structure GlK (G : Gm) (x : Str) (t : KTab) : Prop where
  ex : ∃ d es n, G.mg x = some (.ref d) ∧ KDict G.K G.w d es n ∧ ∀ z : Str, (match t.lookup z with
    | some dd => ∃ u v, PySem.W.nsIn G.K d z = some (some u) ∧ RelV v u ∧ ∀ M H, Da G.K M H v dd
    | none => PySem.W.nsIn G.K d z = some none)
def kgetD (t : KTab) : D → Option D
  | .str z => t.lookup z
  | _ => none
def kinD (t : KTab) : D → Option Bool
  | .str z => some (t.lookup z).isSome
  | _ => none
def dKget (t : KTab) (fb : Ev → Mn D) (ev : Ev) : Mn D := bnd (fb ev) fun y => lft (kgetD t y)
def dKin (t : KTab) (fb : Ev → Mn D) (ev : Ev) : Mn Bool := bnd (fb ev) fun y => lft (kinD t y)
def dKnin (t : KTab) (fb : Ev → Mn D) (ev : Ev) : Mn Bool := bnd (fb ev) fun y => lft ((kinD t y).map (!·))
theorem E_kget {x : Str} {t : KTab} {b : Expr} {fb : Ev → Mn D} {p p2 : Pos} (h : GlK G x t) (hb : SE G k sc N b fb) (hg : glB sc x = true := by rfl) (hdb : (x == ("__debug__" : Str)) = false := by decide) (hs : ∀ o i, subscripted b false o i = operate [o, i] (getItem o i) := by intro _ _; rfl) :
    SE G k sc N (.Subscript (.Name x p) b p2) (dKget t fb) := by
  obtain ⟨d, es, n, h1, h2, h3⟩ := h.ex
  refine e_one (rl := fun X y H Q => rIxD X.K X.w (.ref d) y H Q) hb (fun X ta g h => pe_imp (pe_ix ix_kdict (pe_glob (v := .ref d) (gl_of g hg) (by rw [g.hmg]; exact h1) rfl hdb) h hs) fun σ H Q q => q) fun X M H y dy dd Q g ml hy e hq => ?_
  rw [g.hK, g.hw]
  cases hy with
  | str z =>
    have q := h3 z
    have e : t.lookup z = some dd := e
    rw [e] at q
    obtain ⟨u, v, q1, q2, q3⟩ := q
    exact ⟨d, z, v, rfl, rfl, ⟨es, n, u, h2.at_, h2.lit, q1, q2⟩, hq v H (.refl _) (q3 M H)⟩
  | _ => cases e
theorem T_kin {x : Str} {t : KTab} {b : Expr} {fb : Ev → Mn D} {p p2 : Pos} (h : GlK G x t) (hb : SE G k sc N b fb) (hg : glB sc x = true := by rfl) (hdb : (x == ("__debug__" : Str)) = false := by decide) (hm : behindInMarks .In (.Name x p) = false := by rfl) :
    ST G k sc N (.Compare b [.In] [.Name x p] p2) (dKin t fb) := fun X W g tk => by
  obtain ⟨d, es, n, h1, h2, h3⟩ := h.ex
  refine pt_imp (pt_cmpR (op_in_kd (by rw [g.hK, g.hw]; exact h2)) (hb X W g tk) (pe_glob (v := .ref d) (gl_of g hg) (by rw [g.hmg]; exact h1) rfl hdb) hm) fun σ H Q h => ?_
  obtain ⟨M, r, ev, rs, R, o, rs', e, w⟩ := h
  refine tE_bnd R e w fun y rs1 H1 v R1 s1 d1 e1 w1 => ?_
  obtain ⟨c, e3, rfl, rfl⟩ := lft_some e1
  rw [g.hK]
  cases d1 with
  | str z =>
    cases e3
    have q := h3 z
    cases hz : t.lookup z with
    | none =>
      rw [hz] at q
      exact ⟨z, _, rfl, rfl, q, false, rfl, by have := w1 H1 (.refl _) R1.row; rwa [hz] at this⟩
    | some dd =>
      rw [hz] at q
      obtain ⟨u, v, q1, q2, q3⟩ := q
      exact ⟨z, _, rfl, rfl, q1, true, rfl, by have := w1 H1 (.refl _) R1.row; rwa [hz] at this⟩
  | _ => cases e3
theorem T_knin {x : Str} {t : KTab} {b : Expr} {fb : Ev → Mn D} {p p2 : Pos} (h : GlK G x t) (hb : SE G k sc N b fb) (hg : glB sc x = true := by rfl) (hdb : (x == ("__debug__" : Str)) = false := by decide) (hm : behindInMarks .NotIn (.Name x p) = false := by rfl) :
    ST G k sc N (.Compare b [.NotIn] [.Name x p] p2) (dKnin t fb) := fun X W g tk => by
  obtain ⟨d, es, n, h1, h2, h3⟩ := h.ex
  refine pt_imp (pt_cmpR (op_notIn_kd (by rw [g.hK, g.hw]; exact h2)) (hb X W g tk) (pe_glob (v := .ref d) (gl_of g hg) (by rw [g.hmg]; exact h1) rfl hdb) hm) fun σ H Q h => ?_
  obtain ⟨M, r, ev, rs, R, o, rs', e, w⟩ := h
  refine tE_bnd R e w fun y rs1 H1 v R1 s1 d1 e1 w1 => ?_
  obtain ⟨c, e3, rfl, rfl⟩ := lft_some e1
  rw [g.hK]
  cases d1 with
  | str z =>
    have q := h3 z
    replace e3 : some (!(t.lookup z).isSome) = some c := e3
    cases hz : t.lookup z with
    | none =>
      rw [hz] at q e3
      cases e3
      exact ⟨z, _, rfl, rfl, q, true, rfl, w1 H1 (.refl _) R1.row⟩
    | some dd =>
      rw [hz] at q e3
      cases e3
      obtain ⟨u, v, q1, q2, q3⟩ := q
      exact ⟨z, _, rfl, rfl, q1, false, rfl, w1 H1 (.refl _) R1.row⟩
  | _ => cases e3
variable {K : PySem.W.Frag} {mg : Str → Option Value} {M : Addr → Prop} {H H' H1 : Hp} {r : Rw} {σ σ' : L2.St} {ev ev' : Ev} {rs rs' : RS} {W : WX} {Pr Pr' : Addr → HO → Prop} {oa : Nat → Addr}
def pSet (i : Nat) (f : Ev → Mn D) (ev : Ev) : Ms := bnS (f ev) fun d rs => some (.nx (ev.set i (.dat d)), rs)
theorem P_set (i : Nat) {x : Str} {e : Expr} {p p' : Pos} {f : Ev → Mn D} (h : SE G k sc N e f) (hi : N[i]? = some x := by rfl) (hl : locB sc x = true := by rfl)
    (hs : ∀ env, env.scope = sc.sc → swapsWith e (some (.Name x p')) p.line env = pure false := by intro env h; first | rfl | (cases env; cases h; rfl)) : SS G k sc N (.Assign [.Name x p'] e p) (pSet i f) := fun X W g tk po => by
  refine ps_imp (ps_set (i := i) (by rw [g.hN]; exact g.nd) (by rw [g.hN]; exact hi) (loc_of g hl).1 (h X W g tk) (hs _ g.hsc) (loc_of g hl).2) fun D σ H h => ?_
  obtain ⟨M, r, Pr, ev, rs, oa, R, o, rs', e, w⟩ := h
  rcases bnS_some e with ⟨d, rs1, e1, e2⟩ | ⟨x, j, e1, rfl⟩
  · cases e2
    exact R.evE R.e (fun b m => .inl m) e1 (fun d' ed v H' R' s dv => by cases ed; exact w _ _ oa (R'.set1 dv)) fun _ _ ed => by cases ed
  · exact R.evE R.e (fun b m => .inl m) e1 (fun _ ed => by cases ed) fun y j ed => by cases ed; exact w
def pTgt (t : Tgt) (f : Ev → Mn D) (ev : Ev) : Ms := bnS (bnd (f ev) fun d => lft (t.of d)) fun ds rs => some (.nx (setE ev t.ix ds), rs)
theorem P_tgt {t : Tgt} {tg e : Expr} {p : Pos} {f : Ev → Mn D} (h : SE G k sc N e f) (ht : PGt G k sc N tg t) (hs : ∀ env, swapsWithSole [tg] e p.line env = pure false := by intro _; rfl) (hw : ∀ env, env.scope = sc.sc → swappedStores [tg] e env = pure none := by intro env h; first | rfl | (cases env; cases h; rfl))
    (h1 : ∀ env, (assignEach [tg] env).map (·.2) = [assign tg env] := by intro _; rfl) : SS G k sc N (.Assign [tg] e p) (pTgt t f) := fun X W g tk po => by
  obtain ⟨u, hu1, hu2⟩ := ht
  refine ps_imp (ps_asg (h X W g tk) (hu1 X g) (hs _) (hw _ g.hsc) (h1 _)) fun D σ H h => ?_
  obtain ⟨M, r, Pr, ev, rs, oa, R, o, rs', e, w⟩ := h
  rcases bnS_some e with ⟨ds, rs1, e1, e2⟩ | ⟨x, j, e1, rfl⟩
  · cases e2
    rcases bnd_some e1 with ⟨d, rs2, e3, e4⟩ | ⟨_, _, _, e4⟩
    · obtain ⟨ds', e5, e6, rfl⟩ := lft_some e4
      cases e6
      exact R.evE R.e (fun b m => .inl m) e3 (fun d' ed v H' R' s dv => by cases ed; exact hu2 _ _ _ _ _ _ _ dv e5 fun vs hvs => w _ _ oa (R'.setL hvs)) fun _ _ ed => by cases ed
    · cases e4
  · rcases bnd_some e1 with ⟨d, rs2, e3, e4⟩ | ⟨y, j', e3, e4⟩
    · obtain ⟨ds', e5, e6, rfl⟩ := lft_some e4
      cases e6
    · cases e4
      exact R.evE R.e (fun b m => .inl m) e3 (fun _ ed => by cases ed) fun y j ed => by cases ed; exact w
/-- a, b = x, y with plain local names -/
def pPar (i j : Nat) (f : Ev → Mn (List Slot)) (ev : Ev) : Ms := bnS (bnd (f ev) fun ss => lft (dats ss)) fun ds rs => match ds with
  | [d, e] => some (.nx ((ev.set i (.dat d)).set j (.dat e)), rs)
  | _ => none
def plocB (sc : Sx) (x : Str) : Bool := match sc.sc.names.lookup x with
  | some .local => true
  | _ => false
theorem ploc_of {X : Cx} {x : Str} (g : Gd G k sc N X) (h : plocB sc x = true) : X.env.scope.names.lookup x = some .local := by
  unfold plocB at h
  rw [g.hsc]
  split at h
  · assumption
  · cases h
theorem P_par (i j : Nat) {x y : Str} {a b : Expr} {px py pt p pt2 : Pos} {kt k2 : Nat} {f : Ev → Mn (List Slot)} (h : SA G k sc N [a, b] f) (hi : N[i]? = some x := by rfl) (hj : N[j]? = some y := by rfl) (hij : i ≠ j := by decide) (hx : plocB sc x = true := by rfl) (hy : plocB sc y = true := by rfl)
    (hw : ∀ env, env.scope = sc.sc → swappedStores [.Tuple [.Name x px, .Name y py] kt pt] (.Tuple [a, b] k2 pt2) env = pure (some [x, y]) := by intro env h; first | rfl | (cases env; cases h; rfl))
    (hs : ∀ env, swapsWithSole [.Tuple [.Name x px, .Name y py] kt pt] (.Tuple [a, b] k2 pt2) p.line env = pure false := by intro _; rfl) :
    SS G k sc N (.Assign [.Tuple [.Name x px, .Name y py] kt pt] (.Tuple [a, b] k2 pt2) p) (pPar i j f) := fun X W g tk po => by
  refine ps_imp (ps_par (i := i) (j := j) g.calm (by rw [g.hN]; exact g.nd) (by rw [g.hN]; exact hi) (by rw [g.hN]; exact hj) hij (ploc_of g hx) (ploc_of g hy) (h X W g tk) (hw _ g.hsc) (hs _)) fun D σ H h => ?_
  obtain ⟨M, r, Pr, ev, rs, oa, R, o, rs', e, w⟩ := h
  rcases bnS_some e with ⟨ds, rs1, e1, e2⟩ | ⟨x, j, e1, rfl⟩
  · split at e2
    · rename_i d1 d2
      cases e2
      rcases bnd_some e1 with ⟨ss, rs2, e3, e4⟩ | ⟨_, _, _, e4⟩
      · obtain ⟨ds', e5, e6, rfl⟩ := lft_some e4
        cases e6
        refine ⟨_, r, ev, rs, R.e, .val ss, _, e3, fun H1 s1 w1 vs hvs => ?_⟩
        obtain ⟨v, v', rfl, h1, h2⟩ := two_da (hvs.dats e5)
        have R1 := R.stp s1 w1
        exact ⟨v, v', rfl, w _ _ oa ((R1.set1 h1).set1 (h2.sub fun b m => m.elim .inl fun ⟨j', o, e⟩ => .inr ⟨j', (isOwn_set (fun ds e => by cases e) o).1, e⟩))⟩
      · cases e4
    · cases e2
  · rcases bnd_some e1 with ⟨d, rs2, e3, e4⟩ | ⟨y, j', e3, e4⟩
    · obtain ⟨ds', e5, e6, rfl⟩ := lft_some e4
      cases e6
    · cases e4
      exact ⟨_, r, ev, rs, R.e, .exc x j, rs', e3, fun cls dd H' s w1 a => w cls dd σ H' (R.stp s w1).prot (row_sub w1 fun b m => .inl m) a⟩
def pRet (f : Ev → Mn D) (ev : Ev) : Ms := bnS (f ev) fun d rs => some (.ret d, rs)
theorem P_ret {e : Expr} {p : Pos} {f : Ev → Mn D} (h : SE G k sc N e f) : SS G k sc N (.Return (some e) p) (pRet f) := fun X W g tk po => by
  refine ps_imp (ps_ret (h X W g tk)) fun D σ H h => ?_
  obtain ⟨M, r, Pr, ev, rs, oa, R, o, rs', e, w⟩ := h
  rcases bnS_some e with ⟨d, rs1, e1, e2⟩ | ⟨x, j, e1, rfl⟩
  · cases e2
    exact R.evE R.e (fun b m => .inl m) e1 (fun d' ed v H' R' s dv => by cases ed; exact w v H' R'.prot (row_sub R'.e.row fun b m => .inl m) (dv.sub fun b m => .inl m)) fun _ _ ed => by cases ed
  · exact R.evE R.e (fun b m => .inl m) e1 (fun _ ed => by cases ed) fun y j ed => by cases ed; exact w
def pDrop (f : Ev → Mn D) (ev : Ev) : Ms := bnS (f ev) fun _ rs => some (.nx ev, rs)
theorem P_expr {e : Expr} {p : Pos} {f : Ev → Mn D} (h : SE G k sc N e f) (hs : ∀ env, swapsWith e none p.line env = pure false := by intro _; rfl) : SS G k sc N (.Expr e p) (pDrop f) := fun X W g tk po => by
  refine ps_imp (ps_expr (h X W g tk) (hs _)) fun D σ H h => ?_
  obtain ⟨M, r, Pr, ev, rs, oa, R, o, rs', e, w⟩ := h
  rcases bnS_some e with ⟨d, rs1, e1, e2⟩ | ⟨x, j, e1, rfl⟩
  · cases e2
    exact R.evE R.e (fun b m => .inl m) e1 (fun d' ed v H' R' s dv => w _ _ oa R') fun _ _ ed => by cases ed
  · exact R.evE R.e (fun b m => .inl m) e1 (fun _ ed => by cases ed) fun y j ed => by cases ed; exact w
def pIf (t : Ev → Mn Bool) (f g : Ev → Ms) (ev : Ev) : Ms := bnS (t ev) fun c => if c = true then f ev else g ev
theorem P_if {c : Expr} {a b : List Stmt} {p : Pos} {t : Ev → Mn Bool} {f g : Ev → Ms} (hc : ST G k sc N c t) (ha : SB G k sc N a f) (hb : SB G k sc N b g) : SS G k sc N (.If c a b p) (pIf t f g) := fun X W gd tk po => by
  refine ps_imp (ps_if (hc X W gd tk) (ha X W gd tk po) (hb X W gd tk po)) fun D σ H h => ?_
  obtain ⟨M, r, Pr, ev, rs, oa, R, o, rs', e, w⟩ := h
  rcases bnS_some e with ⟨c, rs1, e1, e2⟩ | ⟨x, j, e1, rfl⟩
  · refine ⟨_, r, ev, rs, R.e, .val c, rs1, e1, fun H' s w1 => ?_⟩
    have R' := R.stp s w1
    cases c with
    | true => rw [if_pos rfl] at e2; exact iteT ⟨M, r, Pr, ev, rs1, oa, R', o, rs', e2, w⟩
    | false => rw [if_neg (by decide)] at e2; exact iteF ⟨M, r, Pr, ev, rs1, oa, R', o, rs', e2, w⟩
  · exact ⟨_, r, ev, rs, R.e, .exc x j, rs', e1, fun cls dd H' s w1 a => w cls dd σ H' (R.stp s w1).prot (row_sub w1 fun b m => .inl m) a⟩
end
end DL
namespace DL
open PySem PySem.Spec PyProof.Rows L2
structure HasF (G : Gm) (x : Str) (st : Stmt) (ps : List Str) : Prop where
  ex : ∃ (f : Addr) (fd : FuncData), G.mg x = some (.ref f) ∧ Fun G.K x x st f fd ∧ Binds G.K fd ps []
section
variable {G : Gm} {k : Nat}
theorem fo_has {x : Str} {st : Stmt} {N ps : List Str} {den : Ev → Ms} (h : HasF G x st ps) (S : FnScope N ps (defScope st)) (b : SB G k ⟨defScope st, fun _ => true⟩ N (defBody st) den) : FO G (k + 1) x ps.length (dFun ps.length N.length den) := by
  obtain ⟨f, fd, h1, h2, h3⟩ := h.ex
  exact fo_of h1 h2 S h3 b
/-- nothing is said -/
theorem fo_zero {x : Str} {st : Stmt} {ps : List Str} {n : Nat} (h : HasF G x st ps) (hn : ps.length = n) : FO G k x n (fun _ _ => none) := by
  obtain ⟨f, fd, h1, h2, h3⟩ := h.ex
  have no : ∀ {vs H Q E}, ¬ spF G n (fun _ _ => none) vs H Q E := fun {vs H Q E} h => by
    obtain ⟨_, _, _, _, _, _, _, _, _, _, _, e, _⟩ := h
    cases e
  exact ⟨f, fd, ps, h1, h2.kp, h3, hn, ⟨fun vs H Q E q => absurd q no, fun A outer s H args us vs Q E _ _ _ _ q => absurd q no⟩⟩
end
mutual
inductive KDa (K : PySem.W.Frag) : Value → D → Prop
  | non : KDa K .none .none
  | bl (b : Bool) : KDa K (.bool b) (.bool b)
  | int (i : Int) (t : Tok) : KDa K (.int i t) (.int i)
  | str (x : Str) (t : Tok) : KDa K (.str x t) (.str x)
  | tup {a : Addr} {dd : Option Addr} {its : Array Value} {n : Nat} {sl : Array (Option Value)} {ds : List D} (h : K.lookup a = some ⟨.type "tuple", dd, .seq its n, sl⟩) (hs : its.size ≤ sizeLine) (t : KDaL K its.toList ds) : KDa K (.ref a) (.tuple ds)
inductive KDaL (K : PySem.W.Frag) : List Value → List D → Prop
  | nil : KDaL K [] []
  | cons {v : Value} {vs : List Value} {d : D} {ds : List D} (h : KDa K v d) (t : KDaL K vs ds) : KDaL K (v :: vs) (d :: ds)
end
mutual
theorem KDa.da {K : PySem.W.Frag} {M : Addr → Prop} {H : Hp} : ∀ {u : Value} {d : D}, KDa K u d → ∃ v, absV u = some v ∧ RelV v u ∧ Da K M H v d
  | _, _, .non => ⟨.non, rfl, rfl, .non⟩
  | _, _, .bl b => ⟨.bl b, rfl, rfl, .bl b⟩
  | _, _, .int i t => ⟨.int i, rfl, ⟨t, rfl⟩, .int i⟩
  | _, _, .str x t => ⟨.str x, rfl, ⟨t, rfl⟩, .str x⟩
  | _, _, .tup (a := a) h hs t => by
    obtain ⟨vs, r, q⟩ := KDaL.da (M := M) (H := H) t
    exact ⟨.ref a, rfl, rfl, .tup (.inr ⟨_, _, _, h, rfl, rfl, hs, r⟩) q⟩
theorem KDaL.da {K : PySem.W.Frag} {M : Addr → Prop} {H : Hp} : ∀ {us : List Value} {ds : List D}, KDaL K us ds → ∃ vs, Vals vs us ∧ DaL K M H vs ds
  | _, _, .nil => ⟨[], .nil, .nil⟩
  | _, _, .cons h t => by
    obtain ⟨v, _, r, q⟩ := KDa.da (M := M) (H := H) h
    obtain ⟨vs, rs, qs⟩ := KDaL.da (M := M) (H := H) t
    exact ⟨v :: vs, .cons r rs, .cons q qs⟩
end
theorem KDa.all {K : PySem.W.Frag} {u : Value} {d : D} (h : KDa K u d) : ∃ v, RelV v u ∧ ∀ M H, Da K M H v d := by
  obtain ⟨v, a, r, _⟩ := h.da (M := fun _ => False) (H := fun _ => none)
  refine ⟨v, r, fun M H => ?_⟩
  obtain ⟨v', a', _, q⟩ := h.da (M := M) (H := H)
  rw [a] at a'
  cases a'
  exact q
theorem GlD.mk' {G : Gm} {x : Str} {u : Value} {d : D} (h : G.mg x = some u) (q : KDa G.K u d) : GlD G x d := by
  obtain ⟨v, r, z⟩ := q.all
  exact ⟨u, v, h, r, z⟩
inductive KEs (K : PySem.W.Frag) : List DictEntry → KTab → Prop
  | nil : KEs K [] []
  | cons {h : Int} {x : Str} {t : Tok} {v : Value} {d : D} {es : List DictEntry} {tb : KTab} (hv : KDa K v d) (r : KEs K es tb) : KEs K (⟨h, .str x t, v⟩ :: es) ((x, d) :: tb)
theorem KEs.look {K : PySem.W.Frag} : ∀ {es : List DictEntry} {tb : KTab}, KEs K es tb → ∀ z : Str, (match List.lookup z tb with
    | some dd => ∃ e, es.find? (·.key.isStr z) = some e ∧ KDa K e.val dd
    | none => es.find? (·.key.isStr z) = none ∧ es.any (·.refKey) = false)
  | _, _, .nil, z => ⟨rfl, rfl⟩
  | _, _, .cons (h := h) (x := x) (t := t) (v := v) (d := d) (es := es) (tb := tb) hv r, z => by
    have ih := KEs.look r z
    have k1 : (⟨h, Value.str x t, v⟩ : DictEntry).key.isStr z = (x == z) := rfl
    have k2 : (⟨h, Value.str x t, v⟩ : DictEntry).refKey = false := rfl
    by_cases hz : z = x
    · subst hz
      have e1 : List.lookup z ((z, d) :: tb) = some d := by simp [List.lookup]
      rw [e1]
      exact ⟨⟨h, .str z t, v⟩, by rw [List.find?_cons, k1]; simp, hv⟩
    · have b1 : (z == x) = false := by simpa using hz
      have b2 : (x == z) = false := by simpa using Ne.symm hz
      have e1 : List.lookup z ((x, d) :: tb) = List.lookup z tb := by simp [List.lookup, b1]
      have e2 : (⟨h, Value.str x t, v⟩ :: es : List DictEntry).find? (·.key.isStr z) = es.find? (·.key.isStr z) := by rw [List.find?_cons, k1, b2]
      rw [e1, e2]
      cases q : List.lookup z tb with
      | some dd => rw [q] at ih; exact ih
      | none =>
        rw [q] at ih
        exact ⟨ih.1, by rw [List.any_cons, k2, ih.2]; rfl⟩
theorem GlK.mk' {G : Gm} {x : Str} {d : Addr} {es : Array DictEntry} {n : Nat} {tb : KTab} (h : G.mg x = some (.ref d)) (hl : G.K.lookup d = some ⟨.type "dict", none, .dict es n, #[]⟩) (lit : PySem.W.KeysLit G.w.params es.toList) (low : (d == sysModules) = false) (q : KEs G.K es.toList tb) : GlK G x tb := by
  refine ⟨d, es, n, h, ⟨hl, lit, low⟩, fun z => ?_⟩
  have q' := q.look z
  have un : PySem.W.nsIn G.K d z = (match es.toList.find? (·.key.isStr z) with
      | some e => some (some e.val)
      | none => if es.toList.any (·.refKey) then none else some none) := by
    unfold PySem.W.nsIn
    rw [hl]
    rfl
  cases hz : List.lookup z tb with
  | some dd =>
    rw [hz] at q'
    obtain ⟨e, e1, e2⟩ := q'
    obtain ⟨v, r, a⟩ := e2.all
    exact ⟨e.val, v, by rw [un, e1], r, a⟩
  | none =>
    rw [hz] at q'
    rw [un, q'.1, q'.2]
    rfl
theorem ExcF.mk' {G : Gm} {x : Str} {C : Addr} (h1 : G.mg x = some (.ref C)) (h2 : PySem.W.excIn G.K C [.type "ValueError", .type "Exception", .type "BaseException", .type "object"] "ValueError.__new__" = true) (h3 : PySem.W.keepIn G.K (.ref C) = true)
    (h4 : PySem.W.subIn G.K (.ref C) (.type "BaseException") = some true) (h5 : PySem.W.typeIn G.K (.ref C) = some (.type "type")) : ExcF G x := ⟨C, h1, h2, h3, h4, h5⟩
theorem HasF.mk' {G : Gm} {x : Str} {st : Stmt} {ps : List Str} {f : Addr} {oc kV doc pm cdv ct : Value} {od an : Option Addr} {osl : Array (Option Value)} (h1 : G.mg x = some (.ref f))
    (l : G.K.lookup f = some ⟨oc, od, .func (PySem.W.fnOf x x (defArgs st) (defBody st) (defScope st) .none kV doc pm an cdv ct), osl⟩) (c : PySem.W.codeIn G.K cdv x = true) (k : PySem.W.keepIn G.K (.ref f) = true)
    (b : ∀ (kV doc pm : Value) (an : Option Addr) (cdv ct : Value) (us : List Value), us.length = ps.length → bindArgs (PySem.W.fnOf x x (defArgs st) (defBody st) (defScope st) .none kV doc pm an cdv ct) ⟨us, []⟩ = pure (ps.zip us)) : HasF G x st ps := by
  have F := fun_mk (st := st) l c k
  exact ⟨f, _, h1, F, F.binds b⟩
end DL
namespace DL
open PySem PySem.Spec PyProof.Rows L2
def nxM (ev : Ev) : Ms := fun rs => some (.nx ev, rs)
def rtM (d : D) : Ms := fun rs => some (.ret d, rs)
def exM (x : Str) (i : Option Int) : Ms := fun rs => some (.exc x i, rs)
def exc {α : Type} (x : Str) (i : Option Int) : Mn α := fun rs => some (.exc x i, rs)
def stk {α : Type} : Mn α := fun _ => none
def stS : Ms := fun _ => none
def sq (m : Ms) (g : Ev → Ms) : Ms := fun rs => match m rs with
  | some (.nx ev', rs') => g ev' rs'
  | q => q
def fin (m : Ms) : Mn D := fun rs => match m rs with
  | some (.nx _, rs') => some (.val .none, rs')
  | some (.ret d, rs') => some (.val d, rs')
  | some (.exc x i, rs') => some (.exc x i, rs')
  | _ => none
section
variable {α β γ : Type} {ev : Ev} {f g : Ev → Ms}
@[simp] theorem bnd_pur (a : α) (k : α → Mn β) : bnd (pur a) k = k a := rfl
@[simp] theorem bnd_exc (x : Str) (i : Option Int) (k : α → Mn β) : bnd (exc x i) k = exc x i := rfl
@[simp] theorem bnd_stk (k : α → Mn β) : bnd stk k = stk := rfl
@[simp] theorem bnS_pur (a : α) (k : α → Ms) : bnS (pur a) k = k a := rfl
@[simp] theorem bnS_exc (x : Str) (i : Option Int) (k : α → Ms) : bnS (exc x i) k = exM x i := rfl
@[simp] theorem bnS_stk (k : α → Ms) : bnS stk k = stS := rfl
theorem bnd_bnd (m : Mn α) (k : α → Mn β) (h : β → Mn γ) : bnd (bnd m k) h = bnd m fun a => bnd (k a) h := by
  funext rs
  unfold bnd
  cases m rs with
  | none => rfl
  | some q =>
    obtain ⟨q1, q2⟩ := q
    cases q1 <;> rfl
theorem bnS_bnd (m : Mn α) (k : α → Mn β) (h : β → Ms) : bnS (bnd m k) h = bnS m fun a => bnS (k a) h := by
  funext rs
  unfold bnS bnd
  cases m rs with
  | none => rfl
  | some q =>
    obtain ⟨q1, q2⟩ := q
    cases q1 <;> rfl
@[simp] theorem lft_some' (a : α) : lft (some a) = pur a := rfl
@[simp] theorem lft_none : lft (none : Option α) = stk := rfl
@[simp] theorem bnd_ite (c : Prop) [Decidable c] (a b : Mn α) (k : α → Mn β) : bnd (if c then a else b) k = if c then bnd a k else bnd b k := by split <;> rfl
@[simp] theorem bnS_ite (c : Prop) [Decidable c] (a b : Mn α) (k : α → Ms) : bnS (if c then a else b) k = if c then bnS a k else bnS b k := by split <;> rfl
@[simp] theorem sq_nx (e : Ev) : sq (nxM e) g = g e := rfl
@[simp] theorem sq_rt (d : D) : sq (rtM d) g = rtM d := rfl
@[simp] theorem sq_ex (x : Str) (i : Option Int) : sq (exM x i) g = exM x i := rfl
@[simp] theorem sq_st : sq stS g = stS := rfl
@[simp] theorem sq_ite (c : Prop) [Decidable c] (a b : Ms) : sq (if c then a else b) g = if c then sq a g else sq b g := by split <;> rfl
theorem sq_bnS (m : Mn α) (k : α → Ms) : sq (bnS m k) g = bnS m fun a => sq (k a) g := by
  funext rs
  unfold sq bnS
  cases m rs with
  | none => rfl
  | some q =>
    obtain ⟨q1, q2⟩ := q
    cases q1 <;> rfl
@[simp] theorem fin_nx (e : Ev) : fin (nxM e) = pur .none := rfl
@[simp] theorem fin_rt (d : D) : fin (rtM d) = pur d := rfl
@[simp] theorem fin_ex (x : Str) (i : Option Int) : fin (exM x i) = exc x i := rfl
@[simp] theorem fin_st : fin stS = stk := rfl
@[simp] theorem fin_ite (c : Prop) [Decidable c] (a b : Ms) : fin (if c then a else b) = if c then fin a else fin b := by split <;> rfl
theorem fin_bnS (m : Mn α) (k : α → Ms) : fin (bnS m k) = bnd m fun a => fin (k a) := by
  funext rs
  unfold fin bnS bnd
  cases m rs with
  | none => rfl
  | some q =>
    obtain ⟨q1, q2⟩ := q
    cases q1 <;> rfl
theorem dFun_eq (n m : Nat) (f : Ev → Ms) (ss : List Slot) : dFun n m f ss = if ss.length = n then fin (f (ss ++ List.replicate (m - n) .hid)) else stk := by
  funext rs
  unfold dFun
  split
  · rfl
  · rfl
@[simp] theorem seqM_eq (f g : Ev → Ms) : seqM f g ev = sq (f ev) g := rfl
@[simp] theorem sNil_eq : sNil ev = nxM ev := rfl
@[simp] theorem pRet_eq (f : Ev → Mn D) : pRet f ev = bnS (f ev) rtM := rfl
@[simp] theorem sRet_eq (f : Ev → Mn D) : sRet f ev = bnS (f (lend ev)) rtM := rfl
@[simp] theorem sRetN_eq : sRetN ev = rtM .none := rfl
@[simp] theorem pSet_eq (i : Nat) (f : Ev → Mn D) : pSet i f ev = bnS (f ev) fun d => nxM (ev.set i (.dat d)) := rfl
@[simp] theorem pDrop_eq (f : Ev → Mn D) : pDrop f ev = bnS (f ev) fun _ => nxM ev := rfl
@[simp] theorem pIf_eq (t : Ev → Mn Bool) : pIf t f g ev = bnS (t ev) fun c => if c = true then f ev else g ev := rfl
@[simp] theorem sIf_eq (t : Ev → Mn Bool) : sIf t f g ev = bnS (t (lend ev)) fun c => if c = true then f ev else g ev := rfl
@[simp] theorem sRaise_eq (x : Str) : sRaise x ev = exM x none := rfl
@[simp] theorem pTgt_eq (t : Tgt) (f : Ev → Mn D) : pTgt t f ev = bnS (bnd (f ev) fun d => lft (t.of d)) fun ds => nxM (setE ev t.ix ds) := rfl
theorem pPar_eq (i j : Nat) (f : Ev → Mn (List Slot)) : pPar i j f ev = bnS (bnd (f ev) fun ss => lft (dats ss)) fun ds => match ds with
  | [d, e] => nxM ((ev.set i (.dat d)).set j (.dat e))
  | _ => stS := by
  unfold pPar
  congr 1
  funext ds
  rcases ds with _ | ⟨a, _ | ⟨b, _ | ⟨c, t⟩⟩⟩ <;> rfl
@[simp] theorem dVar_eq (i : Nat) : dVar i ev = lft (getE ev i) := rfl
@[simp] theorem dLit_eq (d : D) : dLit d ev = pur d := rfl
@[simp] theorem dNil_eq : dNil ev = pur [] := rfl
@[simp] theorem dCons_eq (f : Ev → Mn D) (g : Ev → Mn (List Slot)) : dCons f g ev = bnd (f ev) fun d => bnd (g ev) fun ss => pur (.dat d :: ss) := rfl
@[simp] theorem dRow_eq (i : Nat) (g : Ev → Mn (List Slot)) : dRow i g ev = if isRow ev[i]? = true then bnd (g ev) fun ss => pur (.row :: ss) else stk := rfl
@[simp] theorem dTup_eq (f : Ev → Mn (List Slot)) : dTup f ev = bnd (f ev) fun ss => lft (if ss.length ≤ sizeLine then (dats ss).map .tuple else none) := rfl
@[simp] theorem dLst_eq (f : Ev → Mn (List Slot)) : dLst f ev = bnd (f ev) fun ss => lft (if ss.length ≤ sizeLine then (dats ss).map .list else none) := rfl
@[simp] theorem dCl_eq (n : Nat) (φ : List Slot → Mn D) (f : Ev → Mn (List Slot)) : dCl n φ f ev = bnd (f ev) fun ss => if ss.length = n then φ ss else stk := rfl
@[simp] theorem dBin_eq (op : D → D → Option D) (fa fb : Ev → Mn D) : dBin op fa fb ev = bnd (fa ev) fun x => bnd (fb ev) fun y => lft (op x y) := rfl
@[simp] theorem dUn_eq (op : D → Option D) (fa : Ev → Mn D) : dUn op fa ev = bnd (fa ev) fun x => lft (op x) := rfl
@[simp] theorem dCmp_eq (op : D → D → Option Bool) (fa fb : Ev → Mn D) : dCmp op fa fb ev = bnd (fa ev) fun x => bnd (fb ev) fun y => lft (op x y) := rfl
@[simp] theorem dCmpE_eq (op : D → D → Option Bool) (fa fb : Ev → Mn D) : dCmpE op fa fb ev = bnd (fa ev) fun x => bnd (fb ev) fun y => lft ((op x y).map .bool) := rfl
@[simp] theorem dTru_eq (f : Ev → Mn D) : dTru f ev = bnd (f ev) fun x => lft (truD x) := rfl
@[simp] theorem dAnd_eq (fa fb : Ev → Mn Bool) : dAnd fa fb ev = bnd (fa ev) fun c => if c = true then fb ev else pur false := rfl
@[simp] theorem dOr_eq (fa fb : Ev → Mn Bool) : dOr fa fb ev = bnd (fa ev) fun c => if c = true then pur true else fb ev := rfl
@[simp] theorem dNot_eq (f : Ev → Mn Bool) : dNot f ev = bnd (f ev) fun c => pur (!c) := rfl
@[simp] theorem dAndV_eq (fa fb : Ev → Mn D) : dAndV fa fb ev = bnd (fa ev) fun x => bnd (lft (truD x)) fun c => if c = true then fb ev else pur x := rfl
@[simp] theorem dOrV_eq (fa fb : Ev → Mn D) : dOrV fa fb ev = bnd (fa ev) fun x => bnd (lft (truD x)) fun c => if c = true then pur x else fb ev := rfl
@[simp] theorem dNotV_eq (f : Ev → Mn D) : dNotV f ev = bnd (f ev) fun x => lft ((truD x).map fun c => .bool (!c)) := rfl
@[simp] theorem dIf_eq (t : Ev → Mn Bool) (fa fb : Ev → Mn D) : dIf t fa fb ev = bnd (t ev) fun c => if c = true then fa ev else fb ev := rfl
@[simp] theorem dChain_eq (p q : D → D → Option Bool) (fa fb fc : Ev → Mn D) : dChain p q fa fb fc ev = bnd (fa ev) fun x => bnd (fb ev) fun y => bnd (lft (p x y)) fun c => if c = true then bnd (fc ev) fun z => lft ((q y z).map .bool) else pur (.bool false) := rfl
@[simp] theorem dChainT_eq (p q : D → D → Option Bool) (fa fb fc : Ev → Mn D) : dChainT p q fa fb fc ev = bnd (fa ev) fun x => bnd (fb ev) fun y => bnd (lft (p x y)) fun c => if c = true then bnd (fc ev) fun z => lft (q y z) else pur false := rfl
@[simp] theorem dFn_eq (op : List D → Option D) (f : Ev → Mn (List Slot)) : dFn op f ev = bnd (f ev) fun ss => lft ((dats ss).bind op) := rfl
@[simp] theorem dIsi_eq (ts : List Ty) (f : Ev → Mn D) : dIsi ts f ev = bnd (f ev) fun d => pur (.bool (ts.any (isA d))) := rfl
@[simp] theorem dRng_eq (op : List D → Option (List D)) (f : Ev → Mn (List Slot)) : dRng op f ev = bnd (f ev) fun ss => lft ((dats ss).bind op) := rfl
@[simp] theorem dItm_eq (f : Ev → Mn D) : dItm f ev = bnd (f ev) fun x => lft (itmD x) := rfl
@[simp] theorem dKget_eq (t : KTab) (f : Ev → Mn D) : dKget t f ev = bnd (f ev) fun y => lft (kgetD t y) := rfl
@[simp] theorem dKin_eq (t : KTab) (f : Ev → Mn D) : dKin t f ev = bnd (f ev) fun y => lft (kinD t y) := rfl
@[simp] theorem dKnin_eq (t : KTab) (f : Ev → Mn D) : dKnin t f ev = bnd (f ev) fun y => lft ((kinD t y).map (!·)) := rfl
@[simp] theorem dYes_eq : dYes ev = pur true := rfl
@[simp] theorem dComp_eq (own : List Nat) (src : Ev → Mn (List D)) (t : Tgt) (c : Ev → Mn Bool) (e : Ev → Mn D) : dComp own src t c e ev = bnd (src ev) fun ds => bnd (compGo t c e (wipeE ev own) ds) fun out => lft (if out.length ≤ sizeLine then some (.list out) else none) := rfl
@[simp] theorem nox_pur (a : α) : nox (pur a) = pur a := rfl
@[simp] theorem nox_ite (c : Prop) [Decidable c] (a b : Mn α) : nox (if c then a else b) = if c then nox a else nox b := by split <;> rfl
@[simp] theorem nox_stk : nox (stk : Mn α) = stk := rfl
@[simp] theorem compGo_nil (t : Tgt) (c : Ev → Mn Bool) (e : Ev → Mn D) : compGo t c e ev [] = pur [] := rfl
@[simp] theorem compGo_cons (t : Tgt) (c : Ev → Mn Bool) (e : Ev → Mn D) (d : D) (ds : List D) : compGo t c e ev (d :: ds) = bnd (lft (t.of d)) fun es => bnd (nox (c (setE ev t.ix es))) fun b =>
    if b = true then bnd (nox (e (setE ev t.ix es))) fun x => bnd (compGo t c e ev ds) fun xs => pur (x :: xs) else compGo t c e ev ds := rfl
@[simp] theorem tgt_name (i : Nat) (d : D) : (Tgt.name i).of d = some [d] := rfl
@[simp] theorem tgt_tup (is : List Nat) (ds : List D) : (Tgt.tup is).of (.tuple ds) = if ds.length = is.length then some ds else none := rfl
@[simp] theorem tix_name (i : Nat) : (Tgt.name i).ix = [i] := rfl
@[simp] theorem tix_tup (is : List Nat) : (Tgt.tup is).ix = is := rfl
@[simp] theorem setE_nil (ds : List D) : setE ev [] ds = ev := rfl
@[simp] theorem setE_nil2 (is : List Nat) : setE ev is [] = ev := by cases is <;> rfl
@[simp] theorem setE_cons (i : Nat) (is : List Nat) (d : D) (ds : List D) : setE ev (i :: is) (d :: ds) = setE (ev.set i (.dat d)) is ds := rfl
@[simp] theorem wipe_nil : wipeE ev [] = ev := rfl
@[simp] theorem wipe_cons (v : Nat) (vs : List Nat) : wipeE ev (v :: vs) = (wipeE ev vs).set v .hid := rfl
@[simp] theorem getE_z (d : D) (r : Ev) : getE (.dat d :: r) 0 = some d := rfl
@[simp] theorem getE_s (s : Slot) (r : Ev) (i : Nat) : getE (s :: r) (i + 1) = getE r i := by unfold getE; rw [List.getElem?_cons_succ]
@[simp] theorem dats_nil : dats [] = some [] := rfl
@[simp] theorem dats_cons (d : D) (ss : List Slot) : dats (.dat d :: ss) = (dats ss).map (d :: ·) := rfl
@[simp] theorem isRow_row : isRow (some .row) = true := rfl
@[simp] theorem lend_nil : lend [] = [] := rfl
@[simp] theorem lend_cons (s : Slot) (r : Ev) : lend (s :: r) = lendS s :: lend r := rfl
@[simp] theorem lendS_d (d : D) : lendS (.dat d) = .dat d := rfl
@[simp] theorem lendS_h : lendS .hid = .hid := rfl
@[simp] theorem lendS_r : lendS .row = .row := rfl
@[simp] theorem lendS_o (ds : List D) : lendS (.own ds) = .dat (.list ds) := rfl
@[simp] theorem size_ok (n : Nat) (h : n ≤ 1000 := by decide) : n ≤ sizeLine := Nat.le_of_lt (small1000 h)
end
end DL
namespace DL
open PySem PySem.Spec PyProof.Rows L2
theorem ofString_inj {s t : String} (h : Str.ofString s = Str.ofString t) : s = t := by
  rw [Str.ofString_eq_toList, Str.ofString_eq_toList] at h
  have h1 : (s.toList.map Char.toNat).toArray = (t.toList.map Char.toNat).toArray := congrArg Str.cps h
  have h2 : s.toList.map Char.toNat = t.toList.map Char.toNat := by simpa using h1
  have inj : ∀ a b : Char, a.toNat = b.toNat → a = b := fun a b e => Char.ext (UInt32.toNat_inj.mp e)
  have go : ∀ {l m : List Char}, l.map Char.toNat = m.map Char.toNat → l = m := by
    intro l
    induction l with
    | nil => intro m h; cases m with
      | nil => rfl
      | cons b m => simp at h
    | cons a l ih => intro m h; cases m with
      | nil => simp at h
      | cons b m =>
        simp only [List.map_cons, List.cons.injEq] at h
        rw [inj a b h.1, ih h.2]
  exact String.ext (go h2)
@[simp] theorem beqS (s t : String) : (Str.ofString s == Str.ofString t) = (s == t) := by
  by_cases h : s = t
  · subst h; simp
  · have h2 : Str.ofString s ≠ Str.ofString t := fun e => h (ofString_inj e)
    have e1 : (s == t) = false := by simpa using h
    have e2 : (Str.ofString s == Str.ofString t) = false := by simpa using h2
    rw [e1, e2]
@[simp] theorem eqS (s t : String) : (Str.ofString s = Str.ofString t) = (s = t) := by
  apply propext
  exact ⟨ofString_inj, fun h => by rw [h]⟩
theorem strOk_of (s : String) : PyData.strOk (Str.ofString s) = true := by
  rw [Str.ofString_eq_toList]
  unfold PyData.strOk
  simp only [List.all_toArray, List.all_eq_true, List.mem_map, decide_eq_true_eq]
  rintro x ⟨c, _, rfl⟩
  have h : c.val.toNat.isValidChar := c.valid
  unfold Nat.isValidChar at h
  show c.val.toNat < 1114112
  omega
@[simp] theorem lay_str (s : String) : PyData.canLay0 (.str (Str.ofString s)) = true := by simp [PyData.canLay0, strOk_of]
theorem sh_none : SeqAt.shaped .none = true := by simp [SeqAt.shaped, PyData.canLay0, PyData.depth]
theorem sh_bool (b : Bool) : SeqAt.shaped (.bool b) = true := by simp [SeqAt.shaped, PyData.canLay0, PyData.depth]
theorem sh_int (i : Int) : SeqAt.shaped (.int i) = true := by simp [SeqAt.shaped, PyData.canLay0, PyData.depth]
@[simp] theorem eq_ss (s t : String) : eqD (.str (Str.ofString s)) (.str (Str.ofString t)) = some (s == t) := by simp [eqD, SeqAt.shaped, PyData.depth, PyData.eqv]
@[simp] theorem ne_ss (s t : String) : neD (.str (Str.ofString s)) (.str (Str.ofString t)) = some (!(s == t)) := by simp [neD, SeqAt.shaped, PyData.depth, PyData.eqv]
@[simp] theorem eq_ii (i j : Int) : eqD (.int i) (.int j) = some (i == j) := by simp [eqD, sh_int, PyData.eqv]
@[simp] theorem ne_ii (i j : Int) : neD (.int i) (.int j) = some (!(i == j)) := by simp [neD, sh_int, PyData.eqv]
@[simp] theorem eq_bb (i j : Bool) : eqD (.bool i) (.bool j) = some (i == j) := by simp [eqD, sh_bool, PyData.eqv]
@[simp] theorem ne_bb (i j : Bool) : neD (.bool i) (.bool j) = some (!(i == j)) := by simp [neD, sh_bool, PyData.eqv]
@[simp] theorem eq_nn : eqD .none .none = some true := by simp [eqD, sh_none, PyData.eqv]
@[simp] theorem eq_ni (j : Int) : eqD .none (.int j) = some false := by simp [eqD, sh_none, sh_int, PyData.eqv]
@[simp] theorem eq_in (j : Int) : eqD (.int j) .none = some false := by simp [eqD, sh_none, sh_int, PyData.eqv]
@[simp] theorem eq_nb (j : Bool) : eqD .none (.bool j) = some false := by simp [eqD, sh_none, sh_bool, PyData.eqv]
@[simp] theorem eq_bn (j : Bool) : eqD (.bool j) .none = some false := by simp [eqD, sh_none, sh_bool, PyData.eqv]
@[simp] theorem ev_ss (s t : String) : PyData.eqv (.str (Str.ofString s)) (.str (Str.ofString t)) = (s == t) := by simp [PyData.eqv]
@[simp] theorem ev_ii (i j : Int) : PyData.eqv (.int i) (.int j) = (i == j) := by simp [PyData.eqv]
@[simp] theorem ev_bb (i j : Bool) : PyData.eqv (.bool i) (.bool j) = (i == j) := by simp [PyData.eqv]
@[simp] theorem ev_nn : PyData.eqv .none .none = true := by simp [PyData.eqv]
@[simp] theorem ev_ns (t : Str) : PyData.eqv .none (.str t) = false := by simp [PyData.eqv]
@[simp] theorem ev_sn (t : Str) : PyData.eqv (.str t) .none = false := by simp [PyData.eqv]
@[simp] theorem ev_ni (t : Int) : PyData.eqv .none (.int t) = false := by simp [PyData.eqv]
@[simp] theorem ev_in (t : Int) : PyData.eqv (.int t) .none = false := by simp [PyData.eqv]
@[simp] theorem ev_is (i : Int) (t : Str) : PyData.eqv (.int i) (.str t) = false := by simp [PyData.eqv]
@[simp] theorem ev_si (i : Int) (t : Str) : PyData.eqv (.str t) (.int i) = false := by simp [PyData.eqv]
@[simp] theorem ev_nb (t : Bool) : PyData.eqv .none (.bool t) = false := by simp [PyData.eqv]
@[simp] theorem ev_bn (t : Bool) : PyData.eqv (.bool t) .none = false := by simp [PyData.eqv]
theorem in_tup (x : D) (ds : List D) (hx : inD.flatD x = true) (hd : ds.all inD.flatD = true) : inD x (.tuple ds) = some (ds.any fun z => PyData.eqv z x) := by simp [inD, hx, hd]
theorem atI_z (a : D) (l : List D) : atI (a :: l) 0 = some a := atI_nat (j := 0) rfl
theorem atI_1 (a b : D) (l : List D) : atI (a :: b :: l) 1 = some b := atI_nat (j := 1) rfl
theorem atI_2 (a b c : D) (l : List D) : atI (a :: b :: c :: l) 2 = some c := atI_nat (j := 2) rfl
theorem atI_3 (a b c d : D) (l : List D) : atI (a :: b :: c :: d :: l) 3 = some d := atI_nat (j := 3) rfl
theorem atI_4 (a b c d e : D) (l : List D) : atI (a :: b :: c :: d :: e :: l) 4 = some e := atI_nat (j := 4) rfl
@[simp] theorem ix_t0 (a : D) (l : List D) : ixD (.tuple (a :: l)) (.int 0) = some a := atI_z a l
@[simp] theorem ix_t1 (a b : D) (l : List D) : ixD (.tuple (a :: b :: l)) (.int 1) = some b := atI_1 a b l
@[simp] theorem ix_t2 (a b c : D) (l : List D) : ixD (.tuple (a :: b :: c :: l)) (.int 2) = some c := atI_2 a b c l
@[simp] theorem ix_t3 (a b c d : D) (l : List D) : ixD (.tuple (a :: b :: c :: d :: l)) (.int 3) = some d := atI_3 a b c d l
@[simp] theorem ix_t4 (a b c d e : D) (l : List D) : ixD (.tuple (a :: b :: c :: d :: e :: l)) (.int 4) = some e := atI_4 a b c d e l
@[simp] theorem ix_l0 (a : D) (l : List D) : ixD (.list (a :: l)) (.int 0) = some a := atI_z a l
@[simp] theorem ix_l1 (a b : D) (l : List D) : ixD (.list (a :: b :: l)) (.int 1) = some b := atI_1 a b l
@[simp] theorem ix_l2 (a b c : D) (l : List D) : ixD (.list (a :: b :: c :: l)) (.int 2) = some c := atI_2 a b c l
@[simp] theorem ix_l3 (a b c d : D) (l : List D) : ixD (.list (a :: b :: c :: d :: l)) (.int 3) = some d := atI_3 a b c d l
theorem cut_from (ds : List D) (k : Nat) : cutL ds (some (k : Int)) none = ds.drop k := by
  unfold cutL
  rw [HT.sIx_nat, HT.sIx_none]
  by_cases h : k ≤ ds.length
  · rw [Nat.min_eq_left h]
    apply List.take_of_length_le
    rw [List.length_drop]; exact Nat.le_refl _
  · have h' : ds.length ≤ k := by omega
    rw [Nat.min_eq_right h', List.drop_length, List.drop_eq_nil_of_le h']
    simp
@[simp] theorem sl_t1 (ds : List D) : slLo (.tuple ds) (.int 1) = some (.tuple (ds.drop 1)) := by
  show some (PyData.tuple (cutL ds (some ((1 : Nat) : Int)) none)) = _
  rw [cut_from]
@[simp] theorem sl_l1 (ds : List D) : slLo (.list ds) (.int 1) = some (.list (ds.drop 1)) := by
  show some (PyData.list (cutL ds (some ((1 : Nat) : Int)) none)) = _
  rw [cut_from]
end DL
namespace DL
open PySem PySem.Spec PyProof.Rows L2
def bkM (ev : Ev) : Ms := fun rs => some (.bk ev, rs)
def ctM (ev : Ev) : Ms := fun rs => some (.ct ev, rs)
/-- a turn's end, then the loop goes on -/
def wl (m : Ms) (k : Ev → Ms) : Ms := fun rs => match m rs with
  | some (.nx ev', rs') => k ev' rs'
  | some (.ct ev', rs') => k ev' rs'
  | some (.bk ev', rs') => some (.nx ev', rs')
  | some (.ret d, rs') => some (.ret d, rs')
  | some (.exc x i, rs') => some (.exc x i, rs')
  | none => none
def dynM (m n : Mn D) : Mn D := fun rs => match m rs with
  | some q => some q
  | none => match n rs with
    | some (.val d, rs') => if noL d = true then some (.val d, rs') else none
    | _ => none
section
variable {α β γ : Type} {ev : Ev} {f g : Ev → Ms} {k : Ev → Ms}
@[simp] theorem sq_bk (e : Ev) : sq (bkM e) g = bkM e := rfl
@[simp] theorem sq_ct (e : Ev) : sq (ctM e) g = ctM e := rfl
@[simp] theorem sBk_eq : sBk ev = bkM ev := rfl
@[simp] theorem sCt_eq : sCt ev = ctM ev := rfl
@[simp] theorem wl_nx (e : Ev) : wl (nxM e) k = k e := rfl
@[simp] theorem wl_ct (e : Ev) : wl (ctM e) k = k e := rfl
@[simp] theorem wl_bk (e : Ev) : wl (bkM e) k = nxM e := rfl
@[simp] theorem wl_rt (d : D) : wl (rtM d) k = rtM d := rfl
@[simp] theorem wl_ex (x : Str) (i : Option Int) : wl (exM x i) k = exM x i := rfl
@[simp] theorem wl_st : wl stS k = stS := rfl
@[simp] theorem wl_ite (c : Prop) [Decidable c] (a b : Ms) : wl (if c then a else b) k = if c then wl a k else wl b k := by split <;> rfl
theorem whileN_s (t : Ev → Mn Bool) (b : Ev → Ms) (n : Nat) : whileN t b (n + 1) ev = bnS (t (lend ev)) fun c => if c = true then wl (b ev) (whileN t b n) else nxM ev := rfl
@[simp] theorem forGo_nil (t : Tgt) (b : Ev → Ms) : forGo t b [] ev = nxM ev := rfl
@[simp] theorem forGo_cons (t : Tgt) (b : Ev → Ms) (d : D) (ds : List D) : forGo t b (d :: ds) ev = bnS (lft (t.of d)) fun es => wl (b (setE ev t.ix es)) (forGo t b ds) := by
  funext rs
  show (match t.of d with | none => none | some es => _) = _
  cases t.of d <;> rfl
theorem sFor_f (src : Ev → Mn (List D)) (t : Tgt) (b : Ev → Ms) : sFor false src t b ev = bnS (src ev) fun ds => forGo t b ds ev := rfl
@[simp] theorem dyn_eq (h : Ev → Mn D) : dyn h ev = dynM (h ev) (h (lend ev)) := rfl
@[simp] theorem dynM_pur (d : D) (n : Mn D) : dynM (pur d) n = pur d := rfl
@[simp] theorem dynM_stk (d : D) : dynM stk (pur d) = if noL d = true then pur d else stk := by
  funext rs
  show (if noL d = true then _ else _) = _
  split <;> rfl
@[simp] theorem sSet_eq (i : Nat) (h : Ev → Mn D) : sSet i h ev = bnS (dyn h ev) fun d => nxM (ev.set i (.dat d)) := rfl
@[simp] theorem sTgt_eq (t : Tgt) (h : Ev → Mn D) : sTgt t h ev = bnS (bnd (dyn h ev) fun d => lft (t.of d)) fun ds => nxM (setE ev t.ix ds) := rfl
@[simp] theorem sOwn_eq (i : Nat) (h : Ev → Mn (List Slot)) : sOwn i h ev = bnS (bnd (h ev) fun ss => lft (if ss.length ≤ sizeLine then dats ss else none)) fun ds => nxM (ev.set i (.own ds)) := rfl
@[simp] theorem sDrop_eq (h : Ev → Mn D) : sDrop h ev = bnS (h (lend ev)) fun _ => nxM ev := rfl
@[simp] theorem sApp_eq (i : Nat) (h : Ev → Mn D) : sApp i h ev = bnS (bnd (lft (getO ev i)) fun ds => bnd (dyn h ev) fun d => lft (if ds.length < sizeLine then some (ds ++ [d]) else none)) fun es => nxM (ev.set i (.own es)) := rfl
@[simp] theorem sExt_eq (i : Nat) (h : Ev → Mn D) : sExt i h ev = bnS (bnd (lft (getO ev i)) fun ds => bnd (h ev) fun d => lft ((lstD d).bind fun es => if ds.length + es.length ≤ sizeLine then some (ds ++ es) else none)) fun es => nxM (ev.set i (.own es)) := rfl
@[simp] theorem sPop_eq (j i : Nat) : sPop j i ev = bnS (lft ((getO ev i).bind fun ds => (ds[ds.length - 1]?).map fun d => (ds.dropLast, d))) fun q => nxM ((ev.set i (.own q.1)).set j (.dat q.2)) := rfl
def augD (op : Int → Int → Int) (a b : D) : Option D := match a, b with
  | .int x, .int y => some (PyData.int (op x y))
  | _, _ => none
@[simp] theorem sAug_eq (i : Nat) (h : Ev → Mn D) (op : Int → Int → Int) : sAug i h op ev = bnS (bnd (lft (getE ev i)) fun a => bnd (h (lend ev)) fun b => lft (augD op a b)) fun d => nxM (ev.set i (.dat d)) := rfl
@[simp] theorem augD_i (op : Int → Int → Int) (x y : Int) : augD op (.int x) (.int y) = some (.int (op x y)) := rfl
@[simp] theorem getO_z (ds : List D) (r : Ev) : getO (.own ds :: r) 0 = some ds := rfl
@[simp] theorem getO_s (s : Slot) (r : Ev) (i : Nat) : getO (s :: r) (i + 1) = getO r i := by unfold getO; rw [List.getElem?_cons_succ]
@[simp] theorem getE_own (ds : List D) (r : Ev) : getE (.own ds :: r) 0 = none := rfl
@[simp] theorem lstD_l (ds : List D) : lstD (.list ds) = some ds := rfl
end
end DL
namespace DL
open PySem PySem.Spec PyProof.Rows L2
def tk (m : Int) (rs : RS) : Int × RS :=
  if 0 < rs.c then (rs.c % m, { rs with c := rs.c / m })
  else if rs.ns.length ≤ rs.a then
    let b := (rs.b * 48271 + 11) % 2147483647
    ((b / 7) % m, { rs with a := rs.a + 1, b := b })
  else
    let cell := rs.ns.getD rs.a 0
    let b := (rs.b * 48271 + cell + 11) % 2147483647
    (cell % m, { rs with a := rs.a + 1, b := b, c := if 10 ^ 18 ≤ cell then cell / m else rs.c })
def tkF : List Slot → Mn D := fun ss rs => match ss with
  | [.row, .dat (.int m)] => if 0 < m ∧ m < 1073741824 then some (.val (.int (tk m rs).1), (tk m rs).2) else none
  | _ => none
theorem tk_range (m : Int) (rs : RS) (h : 0 < m) : 0 ≤ (tk m rs).1 ∧ (tk m rs).1 < m := by
  unfold tk
  split
  · exact ⟨Int.emod_nonneg _ (by omega), Int.emod_lt_of_pos _ h⟩
  · split
    · exact ⟨Int.emod_nonneg _ (by omega), Int.emod_lt_of_pos _ h⟩
    · exact ⟨Int.emod_nonneg _ (by omega), Int.emod_lt_of_pos _ h⟩
/-- the row's heap, written -/
def rowV (r : Rw) (rs : RS) : List V := [.ref r.sc, .int (rs.a : Int), .int rs.b, .int rs.c]
theorem row_put {K : PySem.W.Frag} {M : Addr → Prop} {H H' : Hp} {r : Rw} {rs rs' : RS} (mr : M r.a) (h : RowAt K M H r rs) (hs : Stp r H H') (e : H' r.a = some (.lst (rowV r rs'))) (en : rs'.ns = rs.ns) : RowAt K M H' r rs' :=
  ⟨⟨e, en.trans h.1.2⟩, sqlm_kp h.2 (hs.kp mr)⟩
theorem stp_upd {r : Rw} {H : Hp} {o : HO} : Stp r H (upd H r.a o) := fun b u n e => by rw [upd_ne n]; exact e
end DL
namespace DL
open PySem PySem.Spec PyProof.Rows L2
section
end
end DL
namespace DL
open PySem PySem.Spec PyProof.Rows L2
section
variable {G : Gm} {k : Nat} {sc : Sx} {N : List Str} {X : Cx}
def isLst : D → Bool
  | .list _ => true
  | _ => false
def dMtL (op : D → D → Option D) (fo fe : Ev → Mn D) (ev : Ev) : Mn D := bnd (fo ev) fun x => if isLst x = true then bnd (fe ev) fun y => lft (op x y) else fun _ => none
@[simp] theorem dMtL_eq (op : D → D → Option D) (fo fe : Ev → Mn D) (ev : Ev) : dMtL op fo fe ev = bnd (fo ev) fun x => if isLst x = true then bnd (fe ev) fun y => lft (op x y) else stk := rfl
def repL (n : Nat) (xs : List D) : List D := (List.replicate n xs).flatten
def mulxD : D → D → Option D
  | .int i, .int j => if (-(2 ^ 64) < i ∧ i < 2 ^ 64) ∨ (-(2 ^ 64) < j ∧ j < 2 ^ 64) then some (.int (i * j)) else none
  | .list xs, .int n => if -(2 ^ 63) ≤ n ∧ n < 2 ^ 63 ∧ xs.length * n.toNat ≤ sizeLine then some (.list (repL n.toNat xs)) else none
  | .tuple xs, .int n => if xs ≠ [] ∧ 2 ≤ n ∧ n ≤ 1000 ∧ xs.length ≤ 1000 then some (.tuple (repL n.toNat xs)) else none
  | _, _ => none
theorem DaL.rep {K : PySem.W.Frag} {M : Addr → Prop} {H : Hp} {vs : List V} {ds : List D} (h : DaL K M H vs ds) : ∀ n : Nat, DaL K M H (List.replicate n vs).flatten (repL n ds)
  | 0 => .nil
  | n + 1 => by
    unfold repL
    rw [List.replicate_succ, List.replicate_succ, List.flatten_cons, List.flatten_cons]
    exact h.append (h.rep n)
theorem e_mulx {a b : Expr} {fa fb : Ev → Mn D} {p : Pos} (ha : SE G k sc N a fa) (hb : SE G k sc N b fb) : SE G k sc N (.BinOp a .Mult b p) (dBin mulxD fa fb) := by
  refine e_bin ha hb (fun X ta tb g h1 h2 => pe_op (op_mul.or (op_rep.or op_repT)) h1 h2) fun X M H x y dx dy d Q g ml hx hy e hq => ?_
  cases hx with
  | int i =>
    cases hy with
    | int j =>
      have e : (if (-(2 ^ 64) < i ∧ i < 2 ^ 64) ∨ (-(2 ^ 64) < j ∧ j < 2 ^ 64) then some (PyData.int (i * j)) else none) = some d := e
      split at e
      · rename_i hl; cases e; exact .inl ⟨i, j, rfl, rfl, hl, hq _ H (.refl _) (.int _)⟩
      · cases e
    | _ => cases e
  | lst h n t =>
    cases hy with
    | int j =>
      rename_i a xs ds
      have e : (if -(2 ^ 63) ≤ j ∧ j < 2 ^ 63 ∧ ds.length * j.toNat ≤ sizeLine then some (PyData.list (repL j.toNat ds)) else none) = some d := e
      split at e
      · rename_i hl
        cases e
        exact .inr (.inl ⟨_, _, _, rfl, rfl, h, hl.1, hl.2.1, by rw [t.length]; exact hl.2.2, fun p hp => hq _ _ (same_upd hp) (Da.newL ml hp (t.rep _))⟩)
      · cases e
    | _ => cases e
  | tup h t =>
    cases hy with
    | int j =>
      rename_i a xs ds
      have e : (if ds ≠ [] ∧ 2 ≤ j ∧ j ≤ 1000 ∧ ds.length ≤ 1000 then some (PyData.tuple (repL j.toNat ds)) else none) = some d := e
      split at e
      · rename_i hl
        cases e
        refine .inr (.inr ⟨_, _, _, rfl, rfl, by rw [g.hK]; exact h, fun z => ?_, hl.2.1, hl.2.2.1, by rw [t.length]; exact hl.2.2.2, fun p hp => hq _ _ (same_upd hp) (Da.newT ml hp (t.rep _))⟩)
        subst z
        cases t
        exact hl.1 rfl
      · cases e
    | _ => cases e
  | _ => cases hy <;> cases e
section
end
end
end DL
namespace DL
open PySem PySem.Spec PyProof.Rows L2
section
end
def dDisp : List (Str × (Ev → Mn D)) → Ev → Mn (List (Str × D))
  | [], _ => pur []
  | (x, f) :: r, ev => bnd (f ev) fun d => bnd (dDisp r ev) fun ps => pur ((x, d) :: ps)
@[simp] theorem dDisp_nil (ev : Ev) : dDisp [] ev = pur [] := rfl
@[simp] theorem dDisp_cons (x : Str) (f : Ev → Mn D) (r : List (Str × (Ev → Mn D))) (ev : Ev) : dDisp ((x, f) :: r) ev = bnd (f ev) fun d => bnd (dDisp r ev) fun ps => pur ((x, d) :: ps) := rfl
section
variable {G : Gm} {k : Nat} {sc : Sx} {N : List Str}
inductive SPr (G : Gm) (k : Nat) (sc : Sx) (N : List Str) : List (Option Expr) → List Expr → List (Str × (Ev → Mn D)) → Prop
  | nil : SPr G k sc N [] [] []
  | cons {x : Str} {j : Nat} {p : Pos} {ks : List (Option Expr)} {v : Expr} {vs : List Expr} {f : Ev → Mn D} {r : List (Str × (Ev → Mn D))} : SE G k sc N v f → SPr G k sc N ks vs r → SPr G k sc N (some (.Constant (.str x) j p) :: ks) (v :: vs) ((x, f) :: r)
theorem SPr.len : ∀ {ks : List (Option Expr)} {vs : List Expr} {r : List (Str × (Ev → Mn D))}, SPr G k sc N ks vs r → ks.length = r.length ∧ vs.length = r.length ∧ ks.all (·.isSome) = true
  | _, _, _, .nil => ⟨rfl, rfl, rfl⟩
  | _, _, _, .cons h t => ⟨congrArg (· + 1) t.len.1, congrArg (· + 1) t.len.2.1, by simp [t.len.2.2]⟩
end
end DL
namespace DL
open PySem PySem.Spec PyProof.Rows L2
section
variable {G : Gm} {k : Nat} {sc : Sx} {N : List Str}
def dStuck (_ : Ev) : Mn D := fun _ => none
def sStuck (_ : Ev) : Ms := fun _ => none
@[simp] theorem dStuck_eq (ev : Ev) : dStuck ev = stk := rfl
@[simp] theorem sStuck_eq (ev : Ev) : sStuck ev = stS := rfl
end
end DL
namespace DL
open PySem PySem.Spec PyProof.Rows L2
section
variable {G : Gm} {k : Nat} {sc : Sx} {N : List Str}
def nestD (n : Nat) : D → Option (List D)
  | .tuple [d, .tuple es] => if es.length = n then some (d :: es) else none
  | _ => none
def pTgN (i : Nat) (js : List Nat) (f : Ev → Mn D) (ev : Ev) : Ms := bnS (bnd (f ev) fun d => lft (nestD js.length d)) fun ds rs => some (.nx (setE ev (i :: js) ds), rs)
@[simp] theorem pTgN_eq (i : Nat) (js : List Nat) (f : Ev → Mn D) (ev : Ev) : pTgN i js f ev = bnS (bnd (f ev) fun d => lft (nestD js.length d)) fun ds => nxM (setE ev (i :: js) ds) := rfl
end
end DL
namespace DL
open PySem PySem.Spec PyProof.Rows L2
abbrev NoX : Value → Shared → Prop := fun _ _ => False
abbrev Go := (Shared → Prop) → Shared → Prop
def goIn (p : Program) (w : World) (A : Around) (elt : Expr) (env : Env) (acc : Value) : Go := fun Rr s =>
  wpAny (model p w) A (eval elt env) (fun x s1 => wpAny (model p w) A (call (.builtin "list.append") [acc, x]) (fun _ s2 => Rr s2) NoX s1) NoX s
section
variable {p : Program} {w : World} {A : Around} {elt t0 i0 : Expr} {ifs0 : List Expr} {k : Nat} {env : Env} {acc : Value} {gs : List Comprehension} {scope : Scope} {pos : Pos}
theorem nox_mono {α : Type} {t : Sem α} {Q Q' : α → Shared → Prop} {E : Value → Shared → Prop} {s : Shared} (h : wpAny (model p w) A t Q NoX s) (hQ : ∀ a s, Q a s → Q' a s) : wpAny (model p w) A t Q' E s := wpAny_mono h hQ fun _ _ z => z.elim
end
section
end
end DL
namespace DL
open PySem PySem.Spec PyProof.Rows L2
def gnGo (rest : Ev → Mn (List D)) (t : Tgt) (cond : Ev → Mn Bool) (ev : Ev) : List D → Mn (List D)
  | [] => pur []
  | d :: ds => bnd (lft (t.of d)) fun es => bnd (nox (cond (setE ev t.ix es))) fun c =>
      bnd (if c = true then nox (rest (setE ev t.ix es)) else pur []) fun xs => bnd (nox (gnGo rest t cond ev ds)) fun ys => pur (xs ++ ys)
def dLast (elt : Ev → Mn D) (ev : Ev) : Mn (List D) := bnd (nox (elt ev)) fun x => pur [x]
def dMid (src : Ev → Mn (List D)) (vs : List Nat) (rest : Ev → Mn (List D)) (t : Tgt) (cond : Ev → Mn Bool) (ev : Ev) : Mn (List D) := bnd (nox (src ev)) fun ds => gnGo rest t cond (wipeE ev vs) ds
def dCompN (own : List Nat) (src : Ev → Mn (List D)) (rest : Ev → Mn (List D)) (t : Tgt) (cond : Ev → Mn Bool) (ev : Ev) : Mn D :=
  bnd (src ev) fun ds => bnd (gnGo rest t cond (wipeE ev own) ds) fun out => lft (if out.length ≤ sizeLine then some (.list out) else none)
section
variable {G : Gm} {k : Nat} {sc : Sx} {N : List Str}
/-- within the loops: the list that grows stands at P -/
structure Lp (Y : Cx) (G : Gm) (M : Addr → Prop) (r : Rw) (P : Addr) (pins : List (Addr × Obj)) (σ : L2.St) (ev : Ev) (H : Hp) (rs : RS) (got : List D) (s : Shared) : Prop where
  inv : Inv Y pins σ H s
  rel : RelE G.K (And1 M P) r σ H ev rs
  acc : ∃ xs, H P = some (.lst xs) ∧ DaL G.K (And1 M P) H xs got
/-- the rest of a turn keeps to what it gives -/
def Body (Y : Cx) (G : Gm) (M : Addr → Prop) (r : Rw) (P : Addr) (den : Ev → Mn (List D)) (vs : List Nat) (go : Go) : Prop :=
  ∀ pins σ ev H rs got s xs rs' (Rr : Shared → Prop), Lp Y G M r P pins σ ev H rs got s → den ev rs = some (.val xs, rs') → got.length + xs.length ≤ sizeLine →
    (∀ s' H', Lp Y G M r P pins (wipe σ vs) (wipeE ev vs) H' rs' (got ++ xs) s' → Same' r P H H' → Rr s') → go Rr s
variable {Y : Cx} {M : Addr → Prop} {r : Rw} {P : Addr}
theorem body_in {elt : Expr} {fe : Ev → Mn D} (he : PE Y elt (tE G.K G.mg W0 fe)) (hx : Y.xe = NoX) (hP : P ≠ r.a) (mr : M r.a) : Body Y G M r P (dLast fe) [] (goIn Y.prog Y.w Y.A elt Y.env (.ref P)) := by
  intro pins σ ev H rs got s xs rs' Rr L h hz hR
  obtain ⟨y, rs1, e1, h⟩ := bnd_nox h
  cases h
  obtain ⟨acc, hA, hD⟩ := L.acc
  have z := he.run pins s σ H (fun v H5 => Da G.K (And1 M P) H5 v y ∧ Stp r H H5 ∧ RowAt G.K (And1 M P) H5 r rs') L.inv ⟨_, r, ev, rs, L.rel, .val y, rs', e1, fun H5 s5 w5 v dv => ⟨dv, s5, w5⟩⟩
  rw [hx] at z
  refine nox_mono z fun u s1 q => ?_
  obtain ⟨v, H5, I5, rv, dv, s5, w5⟩ := q
  have m1 : And1 M P r.a := .inl mr
  have ml5 : Ml (And1 M P) H5 := L.rel.ml.stp m1 s5 w5
  have hA5 : H5 P = some (.lst acc) := s5 _ _ hP hA
  have acc5 : DaL G.K (And1 M P) H5 acc got := hD.kp L.rel.ml (s5.kp m1)
  have la : acc.length < sizeLine := by
    rw [acc5.length]
    simp only [List.length_cons, List.length_nil] at hz
    omega
  refine app_ok (X := Y) I5 hA5 la rv fun s6 I6 => ?_
  have k6 : Kp (And1 M P) H5 (upd H5 P (.lst (acc ++ [v]))) := fun b o n e => by rw [upd_ne fun q => n (.inr q)]; exact e
  have t6 : ∀ b o, b ≠ P → H5 b = some o → (upd H5 P (.lst (acc ++ [v]))) b = some o := fun b o n e => by rw [upd_ne n]; exact e
  have row6 : RowAt G.K (And1 M P) (upd H5 P (.lst (acc ++ [v]))) r rs' := by
    obtain ⟨⟨e1, e1'⟩, e2⟩ := w5
    exact ⟨⟨t6 _ _ hP.symm e1, e1'⟩, sqlm_kp e2 k6⟩
  refine hR s6 _ ⟨I6, ?_, acc ++ [v], upd_same, ?_⟩ fun b o n m e => t6 b o n (s5 b o m e)
  · have R5 : RelE G.K (And1 M P) r σ H5 ev rs' := L.rel.stp s5 w5
    refine ⟨R5.mr, fun b q => ?_, row6, fun j t e => (R5.slots j t e).kp ml5 k6, R5.len⟩
    by_cases hb : b = P
    · exact ⟨_, by rw [hb]; exact upd_same⟩
    · obtain ⟨ys, e⟩ := R5.ml b q
      exact ⟨ys, t6 _ _ hb e⟩
  · exact DaL.kp ml5 k6 (acc5.append (.cons dv .nil))
end
end DL
namespace DL
open PySem PySem.Spec PyProof.Rows L2
section
end
end DL
namespace DL
open PySem PySem.Spec PyProof.Rows L2
section
end
end DL
noncomputable section
namespace HM
open PySem PySem.W PySem.Calls PyProof.Rows HandSHeadRun
abbrev Fr : Type := Ctx × (Result → Sem Fin) × Pos
def mk (den : Code → Sem Fin) (stg : Setting) : Nat → List Fr → Ctx → Sem Fin → SharedT → Pos → Option (Flow × SharedT × Pos)
  | 0, _, _, _, _, _ => none
  | n + 1, fs, Γ, t, s, p => match t with
    | .pure (.done f) => (match fs with
      | [] => some (f, s, p)
      | g :: r => mk den stg n r g.1 (g.2.1 (.ok f)) s g.2.2)
    | .pure (.again c) => (match fs with
      | [] => none
      | _ :: _ => (match c.quiet with
        | true => mk den stg n fs (Γ.goto c) (den c) s p
        | false => none))
    | .raise e => (match fs with
      | [] => none
      | g :: r => mk den stg n r g.1 (g.2.1 (.error e)) s g.2.2)
    | .rule _ k => mk den stg n fs Γ (k ()) s p
    | .at p' k => mk den stg n fs Γ (k ()) s p'
    | .load a _ k => (match getT s a with
      | some o => mk den stg n fs Γ (k o) s p
      | none => none)
    | .update a _ f k => (match Nat.blt a s.n with
      | true => (match s.tree.get a with
        | some o => (match alive o with
          | some _ => mk den stg n fs Γ (k ()) ⟨s.tree.set a f, s.n, s.life, s.gens, s.drawn, s.toks, s.os⟩ p
          | none => none)
        | none => none)
      | false => none)
    | .loadIfAlive a k => mk den stg n fs Γ (k (getT s a)) s p
    | .point _ k => mk den stg n fs Γ (k ()) s p
    | .alloc o k => (match ((s.tree.ins s.n o).get s.n).isSome with
      | true => frS ⟨s.tree.ins s.n o, s.n + 1, s.life, s.gens, s.drawn, s.toks, s.os⟩ fun s' => mk den stg n fs Γ (k s.n) s' p
      | false => none)
    | .fresh k => frS ⟨s.tree, s.n, s.life, s.gens, s.drawn, s.toks + 1, s.os⟩ fun s' => mk den stg n fs Γ (k s.toks) s' p
    | .ask k => mk den stg n fs Γ (k stg) s p
    | .call c h _ _ k => mk den stg n ((Γ, k, p) :: fs) (Γ.enter c h p) (den c) s p
    | .handled own k => mk den stg n fs Γ (k (match own with
      | true => Γ.own
      | false => Γ.handled)) s p
    | .stack k => mk den stg n fs Γ (k ((Γ.code, p) :: Γ.below)) s p
    | .thread k => mk den stg n fs Γ (k 0) s p
    | _ => none
section
variable {M : Model} {Q : Fin → Pos → Shared → Prop} {E : Value → Pos → Shared → Prop}
/-- what the tree and the calls on the list come to -/
def Wf (M : Model) (Q : Fin → Pos → Shared → Prop) (E : Value → Pos → Shared → Prop) : List Fr → Ctx → Sem Fin → Pos → Shared → Prop
  | [], Γ, t, p, s => Sem.wp M Γ t Q E p s
  | g :: r, Γ, t, p, s => Sem.wp M Γ t (Sem.finPost M Γ fun x s' => Wf M Q E r g.1 (g.2.1 x) g.2.2 s') (fun e _ s' => Wf M Q E r g.1 (g.2.1 (.error e)) g.2.2 s') p s
theorem Wf.lift {fs : List Fr} {Γ : Ctx} {t t' : Sem Fin} {p p' : Pos} {s s' : Shared}
    (h : ∀ (Q : Fin → Pos → Shared → Prop) (E : Value → Pos → Shared → Prop), Sem.wp M Γ t' Q E p' s' → Sem.wp M Γ t Q E p s) (x : Wf M Q E fs Γ t' p' s') : Wf M Q E fs Γ t p s := by
  cases fs with
  | nil => exact h _ _ x
  | cons g r => exact h _ _ x
theorem Wf.call {fs : List Fr} {Γ : Ctx} {c : Code} {hd : Option Value} {gd : Bool} {l : List Value} {k : Result → Sem Fin} {p : Pos} {s : Shared}
    (x : Wf M Q E ((Γ, k, p) :: fs) (Γ.enter c hd p) (M.den c) p s) : Wf M Q E fs Γ (.call c hd gd l k) p s := by
  cases fs with
  | nil =>
    show Sem.wp M Γ (.call c hd gd l k) Q E p s
    rw [Sem.wp_call, wpCode_iff_wp]
    exact x
  | cons g r =>
    show Sem.wp M Γ (.call c hd gd l k) _ _ p s
    rw [Sem.wp_call, wpCode_iff_wp]
    exact x
theorem mk_ok : ∀ {n : Nat} {fs : List Fr} {Γ : Ctx} {t : Sem Fin} {s s' : SharedT} {p p' : Pos} {f : Flow},
    mk M.den ⟨M.prog, M.w.params⟩ n fs Γ t s p = some (f, s', p') → Q (.done f) p' s'.abs → Wf M Q E fs Γ t p s.abs
  | 0, _, _, _, _, _, _, _, _, h, _ => by cases h
  | n + 1, fs, Γ, t, s, s', p, p', f, h, q => by
    unfold mk at h
    cases t with
    | pure x =>
      cases x with
      | done g =>
        cases fs with
        | nil =>
          cases h
          show Sem.wp M Γ (.pure (.done f)) Q E p s.abs
          rw [Sem.wp_pure]
          exact q
        | cons y r =>
          show Sem.wp M Γ (Sem.pure (PySem.Fin.done g)) _ _ p s.abs
          rw [Sem.wp_pure]
          exact mk_ok (n := n) h q
      | again c =>
        cases fs with
        | nil => cases h
        | cons y r =>
          cases hc : c.quiet with
          | false => simp only [hc] at h; cases h
          | true =>
            simp only [hc] at h
            show Sem.wp M Γ (Sem.pure (PySem.Fin.again c)) _ _ p s.abs
            rw [Sem.wp_pure]
            refine ⟨hc, ?_⟩
            rw [wpCode_iff_wp]
            exact mk_ok (n := n) (fs := y :: r) (Γ := Γ.goto c) h q
    | raise e =>
      cases fs with
      | nil => cases h
      | cons y r =>
        show Sem.wp M Γ (Sem.raise e : Sem PySem.Fin) _ _ p s.abs
        rw [Sem.wp_raise]
        exact mk_ok (n := n) h q
    | rule tag k => exact Wf.lift (fun Q E z => by rw [Sem.wp_rule]; exact z) (mk_ok (n := n) h q)
    | «at» p1 k => exact Wf.lift (fun Q E z => by rw [Sem.wp_at]; exact z) (mk_ok (n := n) h q)
    | load a part k =>
      cases g : getT s a with
      | none => simp only [g] at h; cases h
      | some o =>
        simp only [g] at h
        exact Wf.lift (fun Q E z => by rw [Sem.wp_load]; exact ⟨o, (getT_eq s a).symm.trans g, z⟩) (mk_ok (n := n) h q)
    | update a part u k =>
      cases b : Nat.blt a s.n with
      | false => simp only [b] at h; cases h
      | true =>
        have lt : a < s.n := Nat.le_of_ble_eq_true b
        cases g : s.tree.get a with
        | none => simp only [b, g] at h; cases h
        | some o =>
          cases al : alive o with
          | none => simp only [b, g, al] at h; cases h
          | some o' =>
            simp only [b, g, al] at h
            refine Wf.lift (fun Q E z => ?_) (mk_ok (n := n) h q)
            rw [Sem.wp_update]
            refine ⟨by rw [show s.abs.heap.get? a = alive o from abs_get lt g, al]; rfl, ?_⟩
            have e : (SharedT.abs ⟨s.tree.set a u, s.n, s.life, s.gens, s.drawn, s.toks, s.os⟩) = { s.abs with heap := s.abs.heap.update a u } := by
              show (⟨absHeap (s.tree.set a u) s.n s.life, _, _, _, _⟩ : Shared) = _
              rw [absHeap_set g]
              rfl
            rw [e] at z
            exact z
    | loadIfAlive a k => exact Wf.lift (fun Q E z => by rw [Sem.wp_loadIfAlive, ← getT_eq s a]; exact z) (mk_ok (n := n) h q)
    | point l k => exact Wf.lift (fun Q E z => by rw [Sem.wp_point]; exact z) (mk_ok (n := n) h q)
    | alloc o k =>
      cases g : ((s.tree.ins s.n o).get s.n).isSome with
      | false => simp only [g] at h; cases h
      | true =>
        simp only [g, frS_eq] at h
        refine Wf.lift (fun Q E z => ?_) (mk_ok (n := n) h q)
        rw [Sem.wp_alloc]
        have e : (SharedT.abs ⟨s.tree.ins s.n o, s.n + 1, s.life, s.gens, s.drawn, s.toks, s.os⟩) = { s.abs with heap := s.abs.heap.push o } := by
          show (⟨absHeap (s.tree.ins s.n o) (s.n + 1) s.life, _, _, _, _⟩ : Shared) = _
          rw [absHeap_ins g]
          rfl
        have e2 : s.abs.heap.objs.size = s.n := absHeap_size s.tree s.n s.life
        rw [e] at z
        rw [e2]
        exact z
    | fresh k =>
      simp only [frS_eq] at h
      exact Wf.lift (fun Q E z => by rw [Sem.wp_fresh]; exact z) (mk_ok (n := n) h q)
    | ask k => exact Wf.lift (fun Q E z => by rw [Sem.wp_ask]; exact z) (mk_ok (n := n) h q)
    | call c hd gd l k => exact Wf.call (mk_ok (n := n) h q)
    | handled own k =>
      refine Wf.lift (fun Q E z => ?_) (mk_ok (n := n) h q)
      rw [Sem.wp_handled]
      cases own with
      | true => exact z
      | false => exact z
    | stack k => exact Wf.lift (fun Q E z => by rw [Sem.wp_stack]; exact z) (mk_ok (n := n) h q)
    | thread k => exact Wf.lift (fun Q E z => by rw [Sem.wp_thread]; exact z) (mk_ok (n := n) h q)
    | _ => cases h
/-- a tree of values, of flows as a tree of ends -/
def asV (t : Sem Value) : Sem Fin := t.bind fun v => .pure (.done (.ret v))
def asF (t : Sem Flow) : Sem Fin := t.bind fun f => .pure (.done f)
theorem run_F {n : Nat} {Γ : Ctx} {t : Sem Flow} {s s' : SharedT} {p p' : Pos} {f : Flow} {Q : Flow → Pos → Shared → Prop} (h : mk M.den ⟨M.prog, M.w.params⟩ n [] Γ (asF t) s p = some (f, s', p')) (q : Q f p' s'.abs) : Sem.wp M Γ t Q E p s.abs := by
  have z : Sem.wp M Γ (asF t) (fun x p' s' => ∃ f, x = .done f ∧ Q f p' s') E p s.abs := mk_ok (fs := []) h ⟨f, rfl, q⟩
  unfold asF at z
  rw [show t.bind (fun f => (.pure (.done f) : Sem Fin)) = (t >>= fun f => (.pure (.done f) : Sem Fin)) from rfl, Sem.wp_bind'] at z
  refine Sem.wp_mono M Γ t (fun a p2 s2 x => ?_) (fun _ _ _ x => x) p s.abs z
  rw [Sem.wp_pure] at x
  obtain ⟨g, e, x⟩ := x
  cases e
  exact x
theorem run_V {n : Nat} {Γ : Ctx} {t : Sem Value} {s s' : SharedT} {p p' : Pos} {v : Value} {Q : Value → Pos → Shared → Prop} (h : mk M.den ⟨M.prog, M.w.params⟩ n [] Γ (asV t) s p = some (.ret v, s', p')) (q : Q v p' s'.abs) : Sem.wp M Γ t Q E p s.abs := by
  have z : Sem.wp M Γ (asV t) (fun x p' s' => ∃ v, x = .done (.ret v) ∧ Q v p' s') E p s.abs := mk_ok (fs := []) h ⟨v, rfl, q⟩
  unfold asV at z
  rw [show t.bind (fun f => (.pure (.done (.ret f)) : Sem Fin)) = (t >>= fun f => (.pure (.done (.ret f)) : Sem Fin)) from rfl, Sem.wp_bind'] at z
  refine Sem.wp_mono M Γ t (fun a p2 s2 x => ?_) (fun _ _ _ x => x) p s.abs z
  rw [Sem.wp_pure] at x
  obtain ⟨g, e, x⟩ := x
  cases e
  exact x
end
end HM
noncomputable section
namespace HM
open PySem PySem.W PySem.Calls PyProof.Rows HandSHeadRun
abbrev Γ0 : Ctx := ⟨.builtin "claim.caller" {}, none, none, [], none⟩
theorem forget_nil {a b : Shared} (h : a.forget = b.forget) (g : b.gens = #[]) : a = b := by
  obtain ⟨h1, g1, d1, t1, o1⟩ := a
  obtain ⟨h2, g2, d2, t2, o2⟩ := b
  have g' : g2 = #[] := g
  subst g'
  simp only [Shared.forget, Shared.mk.injEq] at h
  obtain ⟨e1, e2, e3, e4, e5⟩ := h
  have e : g1 = #[] := by
    have z : (g1.map GenState.forget).size = 0 := by rw [e2]; simp
    rw [Array.size_map] at z
    exact Array.eq_empty_of_size_eq_zero z
  subst e1 e3 e4 e5 e
  rfl
/-- a tree of the caller's that comes to an end: the thread is run so far -/
theorem ran_of {p : Program} {w : World} {t : Sem PySem.Fin} {s0 : Shared} {G : Shared → Prop} (hz : s0.asleep) (hg : ∀ s', G s' → s'.gens = #[])
    (h : Sem.wp (model p w) Γ0 t (fun a _ s' => (∃ f, a = .done f) ∧ G s') (fun _ _ _ => False) default s0) :
    ∃ s1, G s1 ∧ ∃ n t1, schedN (denote table) p w n (.single s0 ⟨t, .builtin "claim.caller" {}, default, []⟩) = .running (.single s1 t1) ∧ through t1 = true := by
  have h1 := wp_reaches_first (M := model p w) (c := .builtin "claim.caller" {}) (t := t) (p := default) (s := s0) h
  obtain ⟨n, s', σ, p', leaf, hr, hσ, hl, _⟩ := h1
  have h2 : Sem.wp (model p w) Γ0 t (Sem.finPost (model p w) Γ0 fun r s' => True ∧ leftWithCleanup s'.gens = false) (fun e _ s' => True ∧ leftWithCleanup s'.gens = false) default s0 := by
    refine Sem.wp_mono _ _ t (fun a p2 s2 x => ?_) (fun _ _ _ x => x.elim) default s0 h
    obtain ⟨⟨f, rfl⟩, x⟩ := x
    exact ⟨trivial, by rw [hg _ x]; first | decide | simp [leftWithCleanup]⟩
  obtain ⟨m, r, s2, hm, _⟩ := (wp_iff_halts (M := model p w) t (fun _ _ => True) default s0).mp h2
  obtain ⟨s3, hn, hf, hc⟩ := runNI_real (denote table) p w hm (outcomeOf_ends r)
  have quiet : ∀ k s4, PySem.runN (denote table) p w k s0 ⟨t, .builtin "claim.caller" {}, default, []⟩ ≠ .halted (.unsupported "lifetime:generator-with-cleanup-left-suspended") s4 := by
    intro k s4 hk
    have a := runN_mono (denote table) p w m k _ _ _ _ hn
    have b := runN_mono (denote table) p w k m _ _ _ _ hk
    rw [Nat.add_comm, b] at a
    injection a with a1 _
    have o := outcomeOf_ends r
    rw [← a1] at o
    cases o
  have sq := schedN_eq_runN (denote table) p w s0 ⟨t, .builtin "claim.caller" {}, default, []⟩ hz ⟨hc, quiet⟩ n
  rcases hl with ⟨a, rfl, ⟨f, rfl⟩, x⟩ | ⟨e, _, x⟩
  · obtain rfl := forget_nil hσ (hg _ x)
    exact ⟨σ, x, n, _, sq.trans (congrArg Run.lift hr), rfl⟩
  · exact x.elim
/-- what the top's end must show -/
structure Shows (p q : Program) (loose : List Str) (Xt : Shared → Bool) (H : Hook) (w : World) (os : OsState) (s : Shared) : Prop where
  looks : looksF p (boot_heap w.params) s = true
  seen : openSeen q loose (importedModules p.main.body) Xt true s = openGood q loose
  obs : H.obs s = H.val w
  life : s.heap.life = (boot_heap w.params).life
  os : s.os = os
  kept : ∀ b o, b ≠ mainNs → b ≠ cStatics → bootAnn w ≠ some (.ref b) → (boot_heap w.params).get? b = some o → s.heap.get? b = some o
abbrev bootS (w : World) (os : OsState) : Shared := ⟨boot_heap w.params, #[], boot_drawn, boot_toks, os⟩
theorem behind_of {p q : Program} {loose : List Str} {Xt : Shared → Bool} {XP : (Str → Option Value) → Heap → Prop} {H : Hook} {w : World} (e : opening p = plainProg p.main.scope.names) (f : ∀ s, fenceModules? p s = some s)
    (hX : ∀ s, Xt s = true → XP (s.heap.nsMap mainGlobals) s.heap) (hch : chainsOk q = true)
    (run : ∀ os, Sem.wp (model p w) Γ0 (topStub p).cur (fun a _ s' => (∃ f, a = .done f) ∧ Shows p q loose Xt H w os s') (fun _ _ _ => False) default (bootS w os)) :
    (∃ s, AfterRun (opening p) w s) ∧ ∀ s, AfterRun (opening p) w s → ∃ s0, fenceModules? p s = some s0 ∧ s0.gens = #[] ∧ ∃ s1, TopRan p w s0 s1 ∧ s1.asleep ∧ s1.gens = #[] ∧ s1.heap.isNs mainGlobals = true ∧
      Ground q loose [] XP w s1 (s1.heap.nsMap mainGlobals) (s1.heap.nsMap builtinsNs) s1.heap ∧ H.says w s1.heap := by
  obtain ⟨⟨h, gs, d, k, os⟩, a, a'⟩ := Option.map_eq_some_iff.mp (boot_open (N := 600) e rfl f w)
  obtain ⟨rfl, rfl, rfl, rfl⟩ : h = boot_heap w.params ∧ gs = Array.mk [] ∧ d = boot_drawn ∧ k = boot_toks := by simpa using a'
  rw [← table_eq_tree] at a
  obtain ⟨s, b, c⟩ := Option.bind_eq_some_iff.mp a
  have A := AfterImport.of_importEnds b
  refine ⟨⟨s, A⟩, fun s' hs' => ?_⟩
  obtain rfl : s' = s := AfterImport.unique hs' A
  have z : (bootS w os).asleep := Shared.asleep_of_life (fence_lifeW c) A.life
  have gn : ∀ s1, Shows p q loose Xt H w os s1 → s1.gens = #[] := fun s1 x => by
    obtain ⟨_, g, _⟩ := ground_of_open (w := w) hX hch x.seen
    exact Array.eq_empty_of_size_eq_zero (beq_iff_eq.mp g)
  obtain ⟨s1, x, ran⟩ := ran_of (t := (topStub p).cur) z gn (run os)
  obtain ⟨G, _, g1, g2, g3, g4, g5⟩ := ground_of_open (w := w) hX hch x.seen
  obtain ⟨l1, l4⟩ := Bool.and_eq_true_iff.mp (show (staticsOk (importedModules p.main.body) (boot_heap w.params) s1.heap && namesBound p s1.heap && gensDone s1 && laidKept (boot_heap w.params) s1.heap) = true from x.looks)
  obtain ⟨l1, l3⟩ := Bool.and_eq_true_iff.mp l1
  obtain ⟨l1, l2⟩ := Bool.and_eq_true_iff.mp l1
  refine ⟨bootS w os, c, rfl, s1, ⟨ran, x.life, Shared.rest_eq x.os, fun b o hb hn => ?_, g2, statics_of_ok l1, g3, g4, g5, gens_of_done l3, names_of_bound l2, laid_of_kept l4⟩, Shared.asleep_of_life x.life z, gn _ x, g1, G, H.of w s1 x.obs⟩
  exact x.kept b o (fun y => hn (.inl y)) (fun y => hn (.inr (.inl y))) (fun y => hn (.inr (.inr ((Pin.globalOf_eq (boot_ns w.params) _).trans y)))) hb
/-- the law, over what stands behind the top -/
theorem holds_behind {r : OpenRow} {q : Program} {loose : List Str} {H : Hook} {d : DefRec} {kwd : List (Str × PySem.Expr)}
    (beh : ∀ w, (∃ s, AfterRun (opening r.prog) w s) ∧ ∀ s, AfterRun (opening r.prog) w s → ∃ s0, fenceModules? r.prog s = some s0 ∧ s0.gens = #[] ∧ ∃ s1, TopRan r.prog w s0 s1 ∧ s1.asleep ∧ s1.gens = #[] ∧
      s1.heap.isNs mainGlobals = true ∧ Ground q loose [] (fun m h => XL q [] m h ∧ RecFacts r.toRowW.records h) w s1 (s1.heap.nsMap mainGlobals) (s1.heap.nsMap builtinsNs) s1.heap ∧ H.says w s1.heap)
    (hdef : defOf q r.name = some (d, kwd)) (hp : r.prog.theDef r.name = some (d.params, d.body, d.scope)) (hk : kwWritten? d.params.kwonlyargs d.params.kw_defaults = some kwd)
    (hwr : (!r.writes || r.records.isEmpty) = true) (k1 : r.wellSaid = true) (ok : (chainsOk q && opensWell r.prog && (frees r.toRowW && r.within.isEmpty)) = true) (hb : r.prog.bare) (hw : r.toRowW.promised)
    (call : WalkO q loose (XL q []) H.says r.toRowW d kwd fun f vs => PySem.call f vs) : r.Holds := by
  refine ⟨k1, hw, ?_⟩
  obtain ⟨ok1, within⟩ := Bool.and_eq_true_iff.mp ok
  obtain ⟨_, well⟩ := Bool.and_eq_true_iff.mp ok1
  obtain ⟨within, noin⟩ := Bool.and_eq_true_iff.mp within
  obtain ⟨hsame, hu, ha, hap, hm⟩ := frees_parts within
  refine ⟨⟨hb, well, by show r.makers.map _ = []; rw [hm]; rfl⟩, hw.witness, fun w => ⟨(beh w).1, fun s' hs' => ?_⟩⟩
  obtain ⟨s0, hf, g0, s, T, z, gens, ns, G1, Y⟩ := (beh w).2 s' hs'
  have RF := G1.X.2
  have GX : Ground q loose [] (XL q []) w s (s.heap.nsMap mainGlobals) (s.heap.nsMap builtinsNs) s.heap := ⟨G1.T, G1.B, G1.D, G1.TE, G1.TD, G1.W, G1.X.1, G1.cls, G1.has, G1.apart, G1.once, G1.K⟩
  have GR : Ground q loose r.toRowW.records (XL q []) w s _ _ s.heap := RF.ground GX
  refine ⟨s0, hf, g0, s, T, fun n hn => ?_, RF.1, RF.2.1, ?_⟩
  · have en : n = r.name := by
      split at hn <;> simp_all
    subst en
    exact pinned_of_view ns GX hdef hp hk
  refine ClaimW.callFrom_of_specG (c := r.toRowW.claim) (tree := fun vs => do match ← nsGet mainNs r.name with
      | some f => do ret (← PySem.call f vs)
      | none => unsupported "claim.caller:no-such-global") z gens fun args pre lay ord hord => ?_
  obtain ⟨⟨vs, s1⟩, laid⟩ := Option.isSome_iff_exists.mp (layAllW_isSome (P := w.params) (ord := ord) GR.has args r.toRowW.args s (pre_splitW pre).1)
  have keeps := layAllW_keeps _ _ _ laid
  have rest := layAllW_rest _ _ _ laid
  obtain ⟨as, reads, inn, old⟩ := reads_layAllW hord _ _ _ laid lay s1.heap (fun _ _ e => e)
  have L : Laid r.toRowW.records w s s1 args vs as := ⟨⟨ord, hord, laid⟩, reads, inn, old, keeps, rest.1.trans gens, rest.2.2.1⟩
  have G2 := GR.keeps XL.keeps keeps
  obtain ⟨a, o, pm, cd, doc, dV, kV, h1, h2, h3, h4, h5⟩ := G2.fn hdef
  have W := call w s s1 _ _ G2 (H.keeps w _ _ Y keeps) a o pm cd doc dV kV h2 h3 h4 h5 (defOf_name hdef ▸ h1) L.gens args vs as pre lay L.reads L.well (L.low G1.low)
  have ids := ident_freeW hu ha hap
  have none_in : r.toRowW.claim.within = [] := List.isEmpty_iff.mp noin
  have fin : ∀ x s', GoodWG r.toRowW.claim (classAt s.heap) (ExcName.means s.heap) args s1 x s' → _ := fun x s' g => g.laid (c := r.toRowW.claim) hsame none_in ids L
  refine ⟨vs, s1, laid, wpAny_bind (wpAny_nsGet G2.T.g ?_)⟩
  have hr : s1.heap.nsMap mainGlobals = s1.heap.nsMap mainGlobals := rfl
  rw [h1]
  refine wpAny_bind (wpAny_mono W (fun v s' g => wpAny_pure ⟨_, rfl, ?_⟩) fun e s' g => ?_)
  · have y := fin _ _ g
    exact ⟨y.1, y.2.1, y.2.2, fun _ => ⟨namesKept_of T ns _ keeps g.2.1.old, noTable hwr ‹_›⟩⟩
  · have y := fin _ _ g
    exact ⟨y.1, y.2.1, y.2.2, fun _ => ⟨namesKept_of T ns _ keeps g.2.1.old, noTable hwr ‹_›⟩⟩
end HM
noncomputable section
namespace HM
open PySem PySem.W PySem.Calls PyProof.Rows HandSHeadRun
abbrev tk (p : Program) (w : World) : HeapKind p w (List L2.Key) := tupleKind (L2.mixKind p w)
abbrev sks (ks : List Str) : List L2.Key := ks.map Sum.inr
section
variable {p : Program} {w : World} {A : Around} {E : Value → Shared → Prop} {s : Shared}
theorem dictSet_new {d a : Addr} {o : Obj} {es : Array DictEntry} {ep : Nat} {xs : List (List L2.Key × Addr × Value)} {k : List L2.Key} {v : Value} {Q : Unit → Shared → Prop} (hu : (tk p w).room A) (hkey : (tk p w).is s.heap k a)
    (ho : s.heap.get? d = some o) (hd : o.data = .dict es ep) (he : es.toList = xs.map (entryOfKey (tk p w))) (his : ∀ x ∈ xs, (tk p w).is s.heap x.1 x.2.1) (hn : (xs.map (·.1)).Nodup) (hno : ¬ k ∈ xs.map (·.1)) (hz : xs.length ≤ 1000)
    (h : Q () { s with heap := s.heap.update d (Obj.mapDictKeys fun l => l.push ⟨(tk p w).hash k, .ref a, v⟩), toks := s.toks + (tk p w).draws k }) :
    wpAny (model p w) A (dictSet d (.ref a) v) Q E s := by
  have hes : es.size ≤ sizeLine := by
    have e := size_of_entries he
    rw [sizeLine_eq]
    omega
  unfold dictSet
  refine wpAny_holding ?_
  refine wpAny_bind ((tk p w).pyHash hu hkey ?_)
  unfold dictSetHashed
  refine wpAny_holding ?_
  refine wpAny_bind (wpAny_dictFind_heap (s := { s with toks := s.toks + (tk p w).draws k }) hu hkey ho hd he his hn ?_ ?_)
  · intro _
    exact wpAny_bind (wpAny_rule (wpAny_updateDictKeys (hz := hes) (s := { s with toks := s.toks + (tk p w).draws k }) ho hd h))
  · intro j y hj
    exact absurd (List.mem_map.mpr ⟨_, List.mem_of_getElem? hj, rfl⟩) hno
end
def strsB : List Str → List Value → Bool
  | [], [] => true
  | x :: xs, .str y _ :: vs => decide (x = y) && strsB xs vs
  | _, _ => false
theorem strsB_ok {p : Program} {w : World} : ∀ {ks : List Str} {vs : List Value}, strsB ks vs = true → PySem.ItemsAre (L2.mixKind p w) (sks ks) vs
  | [], [], _ => .nil
  | x :: xs, v :: vs, h => by
    cases v with
    | str y t =>
      obtain ⟨h1, h2⟩ := Bool.and_eq_true_iff.mp (show (decide (x = y) && strsB xs vs) = true from h)
      have e : x = y := of_decide_eq_true h1
      subst e
      exact .cons (L2.kV_is (P := p) (w := w) (k := Sum.inr x) (u := .str x t) ⟨t, rfl⟩) (strsB_ok h2)
    | _ => cases h
  | [], _ :: _, h => by cases h
  | _ :: _, [], h => by cases h
def keyB (s : SharedT) (ks : List Str) (a : Addr) : Bool := match getT s a with
  | some ⟨.type T, _, .seq its _, _⟩ => (match decide (T = "tuple") with
    | true => strsB ks its.toList
    | false => false)
  | _ => false
theorem keyB_ok {p : Program} {w : World} {s : SharedT} {ks : List Str} {a : Addr} (h : keyB s ks a = true) : (tk p w).is s.abs.heap (sks ks) a := by
  unfold keyB at h
  cases g : getT s a with
  | none => rw [g] at h; cases h
  | some o =>
    rw [g] at h
    obtain ⟨c, d, dt, sl⟩ := o
    cases c with
    | type T =>
      cases dt with
      | seq its n =>
        cases e : decide (T = "tuple") with
        | false => simp only [e] at h; cases h
        | true =>
          simp only [e] at h
          have eT : T = "tuple" := of_decide_eq_true e
          subst eT
          exact ⟨_, its, n, (getT_eq s a).symm.trans g, rfl, rfl, strsB_ok h⟩
      | _ => cases h
    | _ => cases h
def put (s : SharedT) (d : Addr) (e : DictEntry) (n : Nat) : SharedT := ⟨s.tree.set d (Obj.mapDictKeys fun l => l.push e), s.n, s.life, s.gens, s.drawn, s.toks + n, s.os⟩
theorem put_abs {s : SharedT} {d : Addr} {e : DictEntry} {n : Nat} {o : Obj} (g : s.tree.get d = some o) : (put s d e n).abs = { s.abs with heap := s.abs.heap.update d (Obj.mapDictKeys fun l => l.push e), toks := s.abs.toks + n } := by
  show (⟨absHeap (s.tree.set d _) s.n s.life, _, _, _, _⟩ : Shared) = _
  rw [absHeap_set g]
  rfl
abbrev Xs : Type := List (List Str × Addr × Value)
abbrev Ob2 : Type := Option Obj × Option Obj
def dicO (hh : List L2.Key → Int) (xs : Xs) (ep : Nat) : Obj := ⟨.type "dict", none, .dict (xs.map fun x => (⟨hh (sks x.1), .ref x.2.1, x.2.2⟩ : DictEntry)).toArray ep, #[]⟩
/-- what the rounds do; on the way what they lean on: the dict as it stands beside what it should be, the keys' tuples, a new key -/
def rounds (den : Code → Sem PySem.Fin) (stg : Setting) (Γ : Ctx) (hh : List L2.Key → Int) (d : Addr) : List (Sem Value × Sem Value × List Str) → Xs → SharedT → List Ob2 → Bool → Option (SharedT × Xs × List Ob2 × Bool)
  | [], xs, s, ob, b => some (s, xs, ob, b)
  | x :: r, xs, s, ob, b => (match mk den stg 200 [] Γ (asV x.1) s default with
    | some (.ret (.ref a), s1, p1) => (match mk den stg 200 [] Γ (asV x.2.1) s1 p1 with
      | some (.ret v, s2, _) => frS (put s2 d ⟨hh (sks x.2.2), .ref a, v⟩ (x.2.2.length + 1)) fun s3 =>
          rounds den stg Γ hh d r (xs ++ [(x.2.2, a, v)]) s3 ((s2.tree.get d, some (dicO hh xs xs.length)) :: ob)
            (b && (keyB s2 x.2.2 a && ((xs.all fun y => keyB s2 y.1 y.2.1) && (Nat.blt d s2.n && !(xs.any fun y => decide (y.1 = x.2.2))))))
      | _ => none)
    | _ => none)
/-- the position is of no matter to a tree that begins by standing somewhere -/
def Stands (t : Sem Value) : Prop := ∃ q k, t = .at q k
theorem Stands.wp {t : Sem Value} (h : Stands t) {M : Model} {Γ : Ctx} {Q : Value → Pos → Shared → Prop} {E : Value → Pos → Shared → Prop} {p p' : Pos} {s : Shared} (x : Sem.wp M Γ t Q E p' s) : Sem.wp M Γ t Q E p s := by
  obtain ⟨q, k, rfl⟩ := h
  rw [Sem.wp_at] at x ⊢
  exact x
section
variable {p : Program} {w : World} {Γ : Ctx} {A : Around} {d : Addr}
theorem inj_sks : ∀ {a b : List Str}, sks a = sks b → a = b
  | [], [], _ => rfl
  | [], _ :: _, h => by cases h
  | _ :: _, [], h => by cases h
  | x :: a, y :: b, h => by
    injection h with h1 h2
    injection h1 with h1
    rw [h1, inj_sks h2]
theorem rounds_b {den : Code → Sem PySem.Fin} {stg : Setting} {hh : List L2.Key → Int} : ∀ {l : List (Sem Value × Sem Value × List Str)} {xs xs' : Xs} {s s' : SharedT} {ob ob' : List Ob2} {b : Bool},
    rounds den stg Γ hh d l xs s ob b = some (s', xs', ob', true) → b = true ∧ ∀ y ∈ ob, y ∈ ob'
  | [], xs, xs', s, s', ob, ob', b, h => by
    cases h
    exact ⟨rfl, fun _ z => z⟩
  | x :: r, xs, xs', s, s', ob, ob', b, h => by
    unfold rounds at h
    split at h
    · split at h
      · rw [frS_eq] at h
        obtain ⟨h1, h2⟩ := rounds_b h
        exact ⟨(Bool.and_eq_true_iff.mp h1).1, fun y z => h2 y (List.mem_cons_of_mem _ z)⟩
      · cases h
    · cases h
theorem rounds_ok (hu : (tk p w).room A) (hΓ : Γ.In A) {C : PUnit → Pos → Shared → Prop} {E : Value → Pos → Shared → Prop} :
    ∀ {l : List (Sem Value × Sem Value × List Str)} {xs xs' : Xs} {s s' : SharedT} {ob ob' : List Ob2} {b : Bool}, rounds (denote table) ⟨p, w.params⟩ Γ (tk p w).hash d l xs s ob b = some (s', xs', ob', true) →
      (∀ y ∈ ob', y.1 = y.2) → (∀ x ∈ l, Stands x.1) → (xs.map (·.1)).Nodup → xs.length + l.length ≤ 1000 → (∀ pp, C PUnit.unit pp s'.abs) → ∀ pp,
      Sem.wp (model p w) Γ (forIn (l.map fun x => (x.1, x.2.1)) PUnit.unit fun (x : Sem Value × Sem Value) (_ : PUnit) => (do
        let kv ← x.1
        let vv ← holding [kv] x.2
        holding [kv, vv] (dictSet d kv vv)
        pure (ForInStep.yield PUnit.unit) : Sem (ForInStep PUnit))) C E pp s.abs
  | [], xs, xs', s, s', ob, ob', b, h, _, _, _, _, hC, pp => by
    cases h
    rw [List.map_nil, List.forIn_nil, Sem.wp_pure']
    exact hC pp
  | x :: r, xs, xs', s, s', ob, ob', b, h, hob, hst, hn, hz, hC, pp => by
    unfold rounds at h
    split at h
    · rename_i a s1 p1 h1
      split at h
      · rename_i v s2 p2 h2
        rw [frS_eq] at h
        obtain ⟨hb, hmem⟩ := rounds_b h
        obtain ⟨_, hb⟩ := Bool.and_eq_true_iff.mp hb
        obtain ⟨k1, hb⟩ := Bool.and_eq_true_iff.mp hb
        obtain ⟨k2, hb⟩ := Bool.and_eq_true_iff.mp hb
        obtain ⟨k3, k4⟩ := Bool.and_eq_true_iff.mp hb
        have lt : d < s2.n := Nat.le_of_ble_eq_true k3
        have hg : s2.tree.get d = some (dicO (tk p w).hash xs xs.length) := hob _ (hmem _ (List.mem_cons_self))
        have hget : s2.abs.heap.get? d = some (dicO (tk p w).hash xs xs.length) := abs_get lt hg
        have hnew : ¬ x.2.2 ∈ xs.map (·.1) := fun m => by
          obtain ⟨y, hy, e⟩ := List.mem_map.mp m
          have z : (xs.any fun y => decide (y.1 = x.2.2)) = true := List.any_eq_true.mpr ⟨y, hy, by rw [e]; exact decide_eq_true rfl⟩
          rw [z] at k4
          cases k4
        rw [List.map_cons, List.forIn_cons]
        refine (Sem.wp_bind' ..).mpr ?_
        refine (Sem.wp_bind' ..).mpr ?_
        refine (hst x (List.mem_cons_self)).wp (p' := default) (run_V (M := model p w) h1 ?_)
        refine (Sem.wp_bind' ..).mpr ?_
        rw [Sem.wp_holding]
        refine run_V (M := model p w) h2 ?_
        refine (Sem.wp_bind' ..).mpr ?_
        rw [Sem.wp_holding]
        have key : wpAny (model p w) A (dictSet d (.ref a) v) (fun _ t => t = (put s2 d ⟨(tk p w).hash (sks x.2.2), .ref a, v⟩ (x.2.2.length + 1)).abs) (fun _ _ => False) s2.abs := by
          refine dictSet_new (xs := xs.map fun y => (sks y.1, y.2.1, y.2.2)) hu (keyB_ok k1) hget rfl ?_ ?_ ?_ ?_ (by rw [List.length_map]; omega) ?_
          · show (xs.map _).toArray.toList = _
            rw [List.map_map]
            rfl
          · intro y hy
            obtain ⟨z, hz, rfl⟩ := List.mem_map.mp hy
            exact keyB_ok (List.all_eq_true.mp k2 z hz)
          · have e : (xs.map fun y => (sks y.1, y.2.1, y.2.2)).map (·.1) = (xs.map (·.1)).map sks := by rw [List.map_map, List.map_map]; rfl
            rw [e]
            exact List.Pairwise.map _ (fun a b hab e => hab (inj_sks e)) hn
          · intro m
            obtain ⟨y, hy, e⟩ := List.mem_map.mp m
            obtain ⟨z, hz, rfl⟩ := List.mem_map.mp hy
            exact hnew (List.mem_map.mpr ⟨z, hz, inj_sks e⟩)
          · rw [put_abs hg]
            have e : (tk p w).draws (sks x.2.2) = x.2.2.length + 1 := by
              show (sks x.2.2).length + 1 = _
              rw [List.length_map]
            rw [e]
        refine Sem.wp_mono _ _ _ (fun _ p3 t ht => ?_) (fun _ _ _ z => z.elim) p2 s2.abs (key Γ p2 hΓ)
        subst ht
        rw [Sem.wp_pure']
        show Sem.wp _ _ _ _ _ _ _
        refine rounds_ok hu hΓ h hob (fun y hy => hst y (List.mem_cons_of_mem _ hy)) ?_ (by simp only [List.length_append, List.length_cons, List.length_nil] at hz ⊢; omega) hC p3
        rw [List.map_append, List.nodup_append]
        refine ⟨hn, by simp, fun a ha b hb e => ?_⟩
        rw [List.map_cons, List.map_nil, List.mem_singleton] at hb
        rw [e, hb] at ha
        exact hnew ha
      · cases h
    · cases h
end
end HM
noncomputable section
namespace HM
open PySem PySem.W PySem.Calls PyProof.Rows HandSHeadRun
abbrev Pr2 : Type := Sem Value × Sem Value
theorem gather (f : (Option (Sem Value) × Sem Value) → (Option Addr × List Pr2) → Sem (ForInStep (Option Addr × List Pr2))) (hf : ∀ (p : Pr2) (run : List Pr2), run.length + 1 < 17 → f (some p.1, p.2) (none, run) = pure (.yield (none, run ++ [p])))
    (tail : List (Option (Sem Value) × Sem Value)) : ∀ (items run : List Pr2), run.length + items.length < 17 → forIn ((items.map fun p => (some p.1, p.2)) ++ tail) ((none : Option Addr), run) f = forIn tail ((none : Option Addr), run ++ items) f
  | [], run, _ => by simp
  | p :: rest, run, h => by
    rw [List.map_cons, List.cons_append, List.forIn_cons, hf p run (by simp at h; omega), pure_bind]
    have e := gather f hf tail rest (run ++ [p]) (by simp at h ⊢; omega)
    simpa using e
theorem display17 {M : Model} {Γ : Ctx} {Q : Value → Pos → Shared → Prop} {E : Value → Pos → Shared → Prop} {pp : Pos} {s : Shared} (ps : List Pr2) (x : Pr2) (h16 : ps.length = 16)
    (h : Sem.wp M Γ (subDict (ps ++ [x])) (fun d p' s' => Q (.ref d) p' s') E pp s) : Sem.wp M Γ (dictDisplay ((ps ++ [x]).map fun p => (some p.1, p.2))) Q E pp s := by
  unfold dictDisplay
  dsimp only
  rw [List.map_append, gather _ (fun p run h => by
    have hne : ((run ++ [(p.1, p.2)]).length == 17) = false := by simp; omega
    simp only [hne, Bool.false_eq_true, if_false]) _ ps [] (by simp; omega)]
  have e17 : ((ps ++ [(x.1, x.2)]).length == 17) = true := by simp; omega
  have ne : (ps ++ [(x.1, x.2)]).isEmpty = false := by simp
  rw [List.map_cons, List.map_nil, List.forIn_cons]
  simp only [e17, ne, if_true, Bool.false_eq_true, if_false, List.forIn_nil, Sem.wp_bind', Sem.wp_pure', List.isEmpty_nil, List.nil_append]
  exact h
/-- the dict made and filled, more than fifteen pairs -/
theorem subDict_long {p : Program} {w : World} {Γ : Ctx} {A : Around} {E : Value → Pos → Shared → Prop} {Q : Addr → Pos → Shared → Prop} {l : List (Sem Value × Sem Value × List Str)} {s s' : SharedT} {xs' : Xs} {ob' : List Ob2} (hu : (tk p w).room A) (hΓ : Γ.In A)
    (g : ((s.tree.ins s.n ⟨.type "dict", none, .dict #[] 0, #[]⟩).get s.n).isSome = true)
    (h : rounds (denote table) ⟨p, w.params⟩ Γ (tk p w).hash s.n l [] ⟨s.tree.ins s.n ⟨.type "dict", none, .dict #[] 0, #[]⟩, s.n + 1, s.life, s.gens, s.drawn, s.toks, s.os⟩ [] true = some (s', xs', ob', true))
    (hob : ∀ y ∈ ob', y.1 = y.2) (hst : ∀ x ∈ l, Stands x.1) (h15 : 15 < l.length) (hz : l.length ≤ 1000) (hQ : ∀ pp, Q s.n pp s'.abs) (pp : Pos) : Sem.wp (model p w) Γ (subDict (l.map fun x => (x.1, x.2.1))) Q E pp s.abs := by
  unfold subDict
  refine (Sem.wp_bind' ..).mpr ?_
  show Sem.wp _ _ (.alloc _ .pure) _ _ _ _
  rw [Sem.wp_alloc, Sem.wp_pure]
  have e2 : s.abs.heap.objs.size = s.n := absHeap_size s.tree s.n s.life
  rw [e2]
  have e : ({ s.abs with heap := s.abs.heap.push { cls := .type "dict", data := .dict #[] } } : Shared) = SharedT.abs ⟨s.tree.ins s.n ⟨.type "dict", none, .dict #[] 0, #[]⟩, s.n + 1, s.life, s.gens, s.drawn, s.toks, s.os⟩ := by
    show _ = (⟨absHeap (s.tree.ins s.n _) (s.n + 1) s.life, _, _, _, _⟩ : Shared)
    rw [absHeap_ins g]
    rfl
  rw [e]
  refine (Sem.wp_bind' ..).mpr ?_
  rw [Sem.wp_holding, if_neg (by rw [List.length_map]; omega)]
  refine (Sem.wp_bind' ..).mpr ?_
  show Sem.wp _ _ (.rule _ .pure) _ _ _ _
  rw [Sem.wp_rule, Sem.wp_pure]
  refine (Sem.wp_bind' ..).mpr ?_
  refine rounds_ok hu hΓ h hob hst List.nodup_nil (by simpa using hz) (fun p2 => ?_) pp
  rw [Sem.wp_pure', Sem.wp_pure']
  exact hQ p2
/-- a display of seventeen pairs, given a name -/
theorem exec_dict {p : Program} {w : World} {Γ : Ctx} {A : Around} {env : Env} {tg : PySem.Expr} {keys : List (Option PySem.Expr)} {values : List PySem.Expr} {pos pos2 : Pos} {E : Value → Pos → Shared → Prop} {Q : Flow → Pos → Shared → Prop} {l : List (Sem Value × Sem Value × List Str)} {s s' : SharedT} {xs' : Xs}
    {ob' : List Ob2} (hu : (tk p w).room A) (hΓ : Γ.In A) (hshape : (evalEachOpt keys env).zip ((evalEach values env).map fun v => do let x ← v; standAt pos2; pure x) = l.map fun x => (some x.1, x.2.1))
    (hsw : swapsWithSole [tg] (.Dict keys values pos2) pos.line env = pure false) (g : ((s.tree.ins s.n ⟨.type "dict", none, .dict #[] 0, #[]⟩).get s.n).isSome = true)
    (h : rounds (denote table) ⟨p, w.params⟩ Γ (tk p w).hash s.n l [] ⟨s.tree.ins s.n ⟨.type "dict", none, .dict #[] 0, #[]⟩, s.n + 1, s.life, s.gens, s.drawn, s.toks, s.os⟩ [] true = some (s', xs', ob', true))
    (hob : ∀ y ∈ ob', y.1 = y.2) (hst : ∀ x ∈ l, Stands x.1) (h17 : l.length = 17)
    (hQ : ∀ pp, Sem.wp (model p w) Γ (do assignStores env (.ref s.n) (← swappedStores [tg] (.Dict keys values pos2) env) ((assignEach [tg] env).map (·.2))) Q E pp s'.abs) (pp : Pos) :
    Sem.wp (model p w) Γ (exec (.Assign [tg] (.Dict keys values pos2) pos) env) Q E pp s.abs := by
  rw [arm_exec_Assign]
  refine (Sem.wp_bind' ..).mpr ?_
  show Sem.wp _ _ (.at _ .pure) _ _ _ _
  rw [Sem.wp_at, Sem.wp_pure, hsw]
  refine (Sem.wp_bind' ..).mpr ?_
  rw [Sem.wp_pure', if_neg (by decide)]
  refine (Sem.wp_bind' ..).mpr ?_
  rw [arm_eval_Dict]
  refine (Sem.wp_bind' ..).mpr ?_
  show Sem.wp _ _ (.at _ .pure) _ _ _ _
  rw [Sem.wp_at, Sem.wp_pure, hshape]
  obtain ⟨ps, x, e, h16⟩ : ∃ ps x, l = ps ++ [x] ∧ ps.length = 16 := by
    have ne : l ≠ [] := fun z => by rw [z] at h17; cases h17
    refine ⟨l.dropLast, l.getLast ne, (List.dropLast_concat_getLast ne).symm, ?_⟩
    rw [List.length_dropLast, h17]
  have z : (l.map fun x => (some x.1, x.2.1)) = ((ps.map fun x => (x.1, x.2.1)) ++ [(x.1, x.2.1)]).map fun (p : Pr2) => (some p.1, p.2) := by
    rw [e]
    simp
  have z2 : (ps.map fun x => (x.1, x.2.1)) ++ [(x.1, x.2.1)] = l.map fun x => (x.1, x.2.1) := by
    rw [e]
    simp
  rw [z]
  refine display17 _ _ (by rw [List.length_map]; exact h16) ?_
  rw [z2]
  exact subDict_long hu hΓ g h hob hst (by omega) (by omega) (fun p2 => hQ p2) pos2
end HM
noncomputable section
namespace HM
open PySem PySem.W PySem.Calls PyProof.Rows HandSHeadRun
section
variable {M : Model} {Γ : Ctx} {env : Env}
theorem execs_app : ∀ {l r : List Stmt} {Q : Flow → Pos → Shared → Prop} {E : Value → Pos → Shared → Prop} {p : Pos} {s : Shared},
    Sem.wp M Γ (execs l env) (fun f p' s' => f = .next ∧ Sem.wp M Γ (execs r env) Q E p' s') E p s → Sem.wp M Γ (execs (l ++ r) env) Q E p s
  | [], r, Q, E, p, s, h => by
    rw [show execs [] env = (Sem.pure Flow.next : Sem Flow) from rfl, Sem.wp_pure] at h
    exact h.2
  | x :: l, r, Q, E, p, s, h => by
    have e : ∀ m : List Stmt, execs (x :: m) env = (exec x env >>= fun f => match f with
      | .next => execs m env
      | f => pure f) := fun _ => rfl
    rw [List.cons_append, e, Sem.wp_bind']
    rw [e, Sem.wp_bind'] at h
    refine Sem.wp_mono M Γ _ (fun f p' s' z => ?_) (fun _ _ _ z => z) p s h
    cases f with
    | next => exact execs_app z
    | _ =>
      have z2 := (Sem.wp_pure' ..).mp z
      cases z2.1
end
abbrev envOf (p : Program) (cv : Value) (fa : Addr) : Env := { scope := p.main.scope, locals := mainNs, globals := mainNs, cells := [], code := cv, frame := some fa }
abbrev dNew : Obj := ⟨.type "dict", none, .dict #[] 0, #[]⟩
/-- the top's pieces as trees -/
structure Parts where
  code : Sem Value
  frame : Value → Sem Value
  start : Env → Sem Flow
  ahead : Env → Sem Flow
  pairs : Env → List (Sem Value × Sem Value × List Str)
  behind : Env → Addr → Sem Flow
def full (den : Code → Sem PySem.Fin) (p : Program) (w : World) (hh : List L2.Key → Int) (T : Parts) (N : Nat) (s0 : SharedT) (pX : Pos) : Option (SharedT × List Ob2 × Bool) :=
  match mk den ⟨p, w.params⟩ N [] Γ0 (asV T.code) s0 default with
  | some (.ret cv, s1, p1) => (match mk den ⟨p, w.params⟩ N [] Γ0 (asV (T.frame cv)) s1 p1 with
    | some (.ret (.ref fa), s2, p2) => (match mk den ⟨p, w.params⟩ N [] (Γ0.enter (.body (behindTheImports p) (envOf p cv fa)) none p2) (asF (T.start (envOf p cv fa))) s2 p2 with
      | some (.next, s3, p3) => (match mk den ⟨p, w.params⟩ N [] (Γ0.enter (.body (behindTheImports p) (envOf p cv fa)) none p2) (asF (T.ahead (envOf p cv fa))) s3 p3 with
        | some (.next, s4, p4) => (match ((s4.tree.ins s4.n dNew).get s4.n).isSome with
          | true => frS ⟨s4.tree.ins s4.n dNew, s4.n + 1, s4.life, s4.gens, s4.drawn, s4.toks, s4.os⟩ fun s5 =>
            (match rounds den ⟨p, w.params⟩ (Γ0.enter (.body (behindTheImports p) (envOf p cv fa)) none p2) hh s4.n (T.pairs (envOf p cv fa)) [] s5 [] true with
            | some (s6, xs, ob, b) => (match mk den ⟨p, w.params⟩ N [] (Γ0.enter (.body (behindTheImports p) (envOf p cv fa)) none p2) (asF (T.behind (envOf p cv fa) s4.n)) s6 pX with
              | some (.next, s7, _) => some (s7, ob, b)
              | _ => none)
            | none => none)
          | false => none)
        | _ => none)
      | _ => none)
    | _ => none)
  | _ => none
abbrev A1 : Around := { handled := none, depth := 100000, frames := none, guards := none, units := 1000 }
/-- the pieces are those of the program: l1, a display of seventeen pairs with a name, l2 -/
structure PartsOk (p : Program) (T : Parts) (l1 l2 : List Stmt) (tg : PySem.Expr) (keys : List (Option PySem.Expr)) (values : List PySem.Expr) (pos pos2 : Pos) : Prop where
  body : behindTheImports p = l1 ++ .Assign [tg] (.Dict keys values pos2) pos :: l2
  code : T.code = moduleCode p.main
  frame : ∀ cv, T.frame cv = (newBodyFrame cv mainNs mainNs).bind fun a => .pure (.ref a)
  start : ∀ env, T.start env = (blockStart (behindTheImports p) env).bind fun _ => .pure .next
  ahead : ∀ env, T.ahead env = execs l1 env
  shape : ∀ env, (evalEachOpt keys env).zip ((evalEach values env).map fun v => do let x ← v; standAt pos2; pure x) = (T.pairs env).map fun x => (some x.1, x.2.1)
  stands : ∀ env, ∀ x ∈ T.pairs env, Stands x.1
  len : ∀ env, (T.pairs env).length = 17
  behind : ∀ env d, T.behind env d = ((do assignStores env (.ref d) (← swappedStores [tg] (.Dict keys values pos2) env) ((assignEach [tg] env).map (·.2))) : Sem Flow).bind fun f => match f with
    | .next => execs l2 env
    | f => .pure f
  sole : ∀ env, swapsWithSole [tg] (.Dict keys values pos2) pos.line env = pure false
theorem top_wp {p : Program} {w : World} {T : Parts} {l1 l2 : List Stmt} {tg : PySem.Expr} {keys : List (Option PySem.Expr)} {values : List PySem.Expr} {pos pos2 : Pos} {N : Nat} {s0 : SharedT} {G : Shared → Prop} (ok : PartsOk p T l1 l2 tg keys values pos pos2)
    (hin : ∀ cv fa p2, (Γ0.enter (.body (behindTheImports p) (envOf p cv fa)) none p2).In A1) (hu : A1.units < cLine)
    (h : ∀ pX, ∃ s7 ob, full (denote table) p w (tk p w).hash T N s0 pX = some (s7, ob, true) ∧ (∀ y ∈ ob, y.1 = y.2) ∧ G s7.abs) :
    Sem.wp (model p w) Γ0 (topStub p).cur (fun a _ s' => (∃ f, a = .done f) ∧ G s') (fun _ _ _ => False) default s0.abs := by
  obtain ⟨s7, ob, hf, _⟩ := h default
  unfold full at hf
  split at hf
  case h_2 => cases hf
  case h_1 =>
  rename_i cv s1 p1 h1
  split at hf
  case h_2 => cases hf
  case h_1 =>
  rename_i fa s2 p2 h2
  split at hf
  case h_2 => cases hf
  case h_1 =>
  rename_i s3 p3 h3
  split at hf
  case h_2 => cases hf
  case h_1 =>
  rename_i s4 p4 h4
  split at hf
  case h_2 => cases hf
  case h_1 =>
  rename_i h5
  rw [frS_eq] at hf
  split at hf
  case h_2 => cases hf
  case h_1 =>
  rename_i s6 xs ob0 b h6
  have all : ∀ pX, ∃ s7 p8, mk (denote table) ⟨p, w.params⟩ N [] (Γ0.enter (.body (behindTheImports p) (envOf p cv fa)) none p2) (asF (T.behind (envOf p cv fa) s4.n)) s6 pX = some (.next, s7, p8) ∧ (∀ y ∈ ob0, y.1 = y.2) ∧ b = true ∧ G s7.abs := by
    intro pX
    obtain ⟨s8, ob8, g1, g2, g3⟩ := h pX
    unfold full at g1
    simp only [h1, h2, h3, h4, h5, frS_eq, h6] at g1
    split at g1
    case h_2 => cases g1
    case h_1 =>
    rename_i s9 p9 h9
    cases g1
    exact ⟨_, _, h9, g2, rfl, g3⟩
  show Sem.wp (model p w) Γ0 (moduleCode p.main >>= fun code => newBodyFrame code mainNs mainNs >>= fun frame => run (.body (behindTheImports p) (envOf p code frame)) >>= fun _ => (ret .none : Sem PySem.Fin)) _ _ default s0.abs
  rw [ok.code] at h1
  refine (Sem.wp_bind' ..).mpr (run_V (M := model p w) h1 ?_)
  rw [ok.frame] at h2
  refine (Sem.wp_bind' ..).mpr ?_
  have fr : Sem.wp (model p w) Γ0 ((newBodyFrame cv mainNs mainNs).bind fun a => .pure (.ref a) : Sem Value) (fun v p' s' => v = .ref fa ∧ p' = p2 ∧ s' = s2.abs) (fun _ _ _ => False) p1 s1.abs := run_V (M := model p w) h2 ⟨rfl, rfl, rfl⟩
  have fr2 : Sem.wp (model p w) Γ0 (newBodyFrame cv mainNs mainNs >>= fun a => (.pure (.ref a) : Sem Value)) (fun v p' s' => v = .ref fa ∧ p' = p2 ∧ s' = s2.abs) (fun _ _ _ => False) p1 s1.abs := fr
  rw [Sem.wp_bind'] at fr2
  refine Sem.wp_mono _ _ _ (fun a p' s' z => ?_) (fun _ _ _ z => z) p1 s1.abs fr2
  rw [Sem.wp_pure] at z
  obtain ⟨za, rfl, rfl⟩ := z
  cases za
  refine (Sem.wp_bind' ..).mpr ?_
  show Sem.wp _ _ (.call _ _ _ _ _) _ _ _ _
  rw [Sem.wp_call, wpCode_iff_wp]
  show Sem.wp (model p w) (Γ0.enter (.body (behindTheImports p) (envOf p cv fa)) none p') (((blockStart (behindTheImports p) (envOf p cv fa)) >>= fun _ => ((execs (behindTheImports p) (envOf p cv fa)).onRaise (leaving (envOf p cv fa))) >>= fun f => (Sem.pure (PySem.Fin.done f) : Sem PySem.Fin))) _ _ p' s2.abs
  rw [ok.start] at h3
  have st : Sem.wp (model p w) (Γ0.enter (.body (behindTheImports p) (envOf p cv fa)) none p') ((blockStart (behindTheImports p) (envOf p cv fa)) >>= fun _ => (Sem.pure Flow.next : Sem Flow)) (fun f pp s' => pp = p3 ∧ s' = s3.abs) (fun _ _ _ => False) p' s2.abs := run_F (M := model p w) h3 ⟨rfl, rfl⟩
  rw [Sem.wp_bind'] at st
  refine (Sem.wp_bind' ..).mpr (Sem.wp_mono _ _ _ (fun a pp s' z => ?_) (fun _ _ _ z => z.elim) _ _ st)
  rw [Sem.wp_pure] at z
  obtain ⟨rfl, rfl⟩ := z
  refine (Sem.wp_bind' ..).mpr ?_
  have eb : execs (behindTheImports p) (envOf p cv fa) = execs (l1 ++ .Assign [tg] (.Dict keys values pos2) pos :: l2) (envOf p cv fa) := by rw [ok.body]
  rw [Sem.wp_onRaise, eb]
  rw [ok.ahead] at h4
  refine execs_app (run_F (M := model p w) h4 ⟨rfl, ?_⟩)
  have e : ∀ (x : Stmt) (m : List Stmt), execs (x :: m) (envOf p cv fa) = (exec x (envOf p cv fa) >>= fun f => match f with
      | .next => execs m (envOf p cv fa)
      | f => pure f) := fun _ _ => rfl
  rw [e]
  refine (Sem.wp_bind' ..).mpr ?_
  obtain ⟨_, _, _, hob, hb, _⟩ := all default
  subst hb
  refine exec_dict (A := A1) hu (hin cv fa p') (ok.shape _) (ok.sole _) h5 h6 hob (ok.stands _) (ok.len _) (fun pX => ?_) p4
  obtain ⟨s8, p8, h8, _, _, hG⟩ := all pX
  rw [ok.behind] at h8
  have bh : Sem.wp (model p w) (Γ0.enter (.body (behindTheImports p) (envOf p cv fa)) none p') (((do assignStores (envOf p cv fa) (.ref s4.n) (← swappedStores [tg] (.Dict keys values pos2) (envOf p cv fa)) ((assignEach [tg] (envOf p cv fa)).map (·.2))) : Sem Flow) >>= fun f => match f with
    | .next => execs l2 (envOf p cv fa)
    | f => .pure f) (fun f _ s' => f = .next ∧ s' = s8.abs) (fun _ _ _ => False) pX s6.abs := run_F (M := model p w) h8 ⟨rfl, rfl⟩
  rw [Sem.wp_bind'] at bh
  refine Sem.wp_mono _ _ _ (fun f pp s' z => ?_) (fun _ _ _ z => z.elim) pX s6.abs bh
  have fin : ∀ (f : Flow) (pp : Pos) (s' : Shared), (f = .next ∧ s' = s8.abs) → Sem.wp (model p w) (Γ0.enter (.body (behindTheImports p) (envOf p cv fa)) none p') (Sem.pure (PySem.Fin.done f)) (Sem.finPost (model p w) (Γ0.enter (.body (behindTheImports p) (envOf p cv fa)) none p') fun x s' => Sem.wp (model p w) Γ0 ((match x with
      | .ok f => .pure f
      | .error e => .raise e : Sem Flow)) (fun _ p3 s3 => Sem.wp (model p w) Γ0 (ret .none : Sem PySem.Fin) (fun a _ s' => (∃ f, a = .done f) ∧ G s') (fun _ _ _ => False) p3 s3) (fun _ _ _ => False) p' s') (fun e _ s' => False) pp s' := by
    rintro f pp s' ⟨rfl, rfl⟩
    rw [Sem.wp_pure]
    simp only [Sem.finPost]
    rw [Sem.wp_pure]
    unfold ret
    rw [Sem.wp_pure']
    exact ⟨⟨_, rfl⟩, hG⟩
  cases f with
  | next =>
    refine Sem.wp_mono _ _ _ (fun f pp s' y => ?_) (fun _ _ _ y => y.elim) pp s' z
    exact Sem.wp_mono _ _ _ (fun _ _ _ q => q) (fun _ _ _ q => q.elim) pp s' (fin f pp s' y)
  | _ =>
    have z2 := (Sem.wp_pure' ..).mp z
    cases z2.1
end HM
noncomputable section
namespace HM
open PySem PySem.W PySem.Calls PyProof.Rows HandSHeadRun
/-- the texts of a tuple that is written out -/
def strsOf : PySem.Expr → List Str
  | .Tuple es _ _ => es.filterMap fun e => match e with
    | .Constant (.str x) _ _ => some x
    | _ => none
  | _ => []
def isTup : PySem.Expr → Bool
  | .Tuple _ _ _ => true
  | _ => false
/-- the pairs of a display, by any reading of expressions -/
def pairsBy (ev : PySem.Expr → Env → Sem Value) (pos2 : Pos) (env : Env) : List (Option PySem.Expr) → List PySem.Expr → List (Sem Value × Sem Value × List Str)
  | some k :: ks, v :: vs => (ev k env, (ev v env).bind (fun x => (standAt pos2).bind fun _ => .pure x), strsOf k) :: pairsBy ev pos2 env ks vs
  | _, _ => []
theorem pairs_cons {ev : PySem.Expr → Env → Sem Value} {pos2 : Pos} {env : Env} {k v : PySem.Expr} {ks : List (Option PySem.Expr)} {vs : List PySem.Expr} :
    pairsBy ev pos2 env (some k :: ks) (v :: vs) = (ev k env, (ev v env).bind (fun x => (standAt pos2).bind fun _ => .pure x), strsOf k) :: pairsBy ev pos2 env ks vs := by
  rw [pairsBy]
theorem pairs_shape {env : Env} {pos2 : Pos} : ∀ {ks : List (Option PySem.Expr)} {vs : List PySem.Expr}, ks.all (fun k => match k with
      | some k => isTup k
      | none => false) = true → ks.length = vs.length →
    (evalEachOpt ks env).zip ((evalEach vs env).map fun v => do let x ← v; standAt pos2; pure x) = (pairsBy eval pos2 env ks vs).map (fun x => (some x.1, x.2.1)) ∧ (∀ x ∈ pairsBy eval pos2 env ks vs, Stands x.1) ∧ (pairsBy eval pos2 env ks vs).length = ks.length
  | [], [], _, _ => ⟨rfl, fun _ m => (nomatch m), rfl⟩
  | [], _ :: _, _, h => by cases h
  | k :: ks, [], _, h => by cases h
  | none :: ks, v :: vs, h, _ => by simp at h
  | some k :: ks, v :: vs, h, hl => by
    simp only [List.all_cons, Bool.and_eq_true] at h
    obtain ⟨h1, h2⟩ := h
    obtain ⟨i1, i2, i3⟩ := pairs_shape (env := env) (pos2 := pos2) h2 (by simpa using hl)
    refine ⟨?_, fun x m => ?_, ?_⟩
    · rw [show evalEachOpt (some k :: ks) env = some (eval k env) :: evalEachOpt ks env from rfl, show evalEach (v :: vs) env = eval v env :: evalEach vs env from rfl, List.map_cons, List.zip_cons_cons, i1, pairs_cons, List.map_cons]
      rfl
    · rw [pairs_cons] at m
      rcases List.mem_cons.mp m with e | m
      · subst e
        cases k with
        | Tuple es c q => exact ⟨q, _, rfl⟩
        | _ => cases h1
      · exact i2 x m
    · rw [pairs_cons, List.length_cons, List.length_cons, i3]
/-- the pieces of a program, by any reading -/
structure Rd1 where
  mc : Module → Sem Value
  nb : Value → Addr → Addr → Sem Addr
  bs : List Stmt → Env → Sem Unit
  ex : List Stmt → Env → Sem Flow
  ev : PySem.Expr → Env → Sem Value
  sw : List PySem.Expr → PySem.Expr → Env → Sem (Option (List Str))
  as : Env → Value → Option (List Str) → List (Value → Sem Unit) → Sem Flow
  ae : List PySem.Expr → Env → List (Bool × (Value → Sem Unit))
def partsBy (r : Rd1) (p : Program) (l1 l2 : List Stmt) (tg : PySem.Expr) (keys : List (Option PySem.Expr)) (values : List PySem.Expr) (pos2 : Pos) : Parts where
  code := r.mc p.main
  frame := fun cv => (r.nb cv mainNs mainNs).bind fun a => .pure (.ref a)
  start := fun env => (r.bs (behindTheImports p) env).bind fun _ => .pure .next
  ahead := fun env => r.ex l1 env
  pairs := fun env => pairsBy r.ev pos2 env keys values
  behind := fun env d => ((r.sw [tg] (.Dict keys values pos2) env).bind fun sw => r.as env (.ref d) sw ((r.ae [tg] env).map (·.2))).bind fun f => match f with
    | .next => r.ex l2 env
    | f => .pure f
/-- the model's own readings; the library's twins of them -/
def rd0 : Rd1 := ⟨fun m => moduleCode m, fun c a b => newBodyFrame c a b, blockStart, execs, eval, swappedStores, assignStores, assignEach⟩
def rdQ : Rd1 := ⟨fun m => PySem.W.Fast.tw17154629097778926822 m m.file none, fun c a b => PySem.W.Fast.tw12822647523644345616 c a b builtinsNs, PySem.W.Fast.tw1066825118222455980, PySem.W.Fast.tw12563942051412417395, PySem.W.Fast.tw14044960220447912780, PySem.W.Fast.tw4016559146275205325,
  PySem.W.Fast.tw2470068587113613483, PySem.W.Fast.tw15628205474173192105⟩
theorem rd_eq : rd0 = rdQ := by
  unfold rd0 rdQ
  rw [← PySem.W.Fast.te17154629097778926822, ← PySem.W.Fast.te12822647523644345616, ← PySem.W.Fast.te1066825118222455980, ← PySem.W.Fast.te12563942051412417395, ← PySem.W.Fast.te14044960220447912780, ← PySem.W.Fast.te4016559146275205325, ← PySem.W.Fast.te2470068587113613483,
    ← PySem.W.Fast.te15628205474173192105]
theorem parts_ok {p : Program} {l1 l2 : List Stmt} {tg : PySem.Expr} {keys : List (Option PySem.Expr)} {values : List PySem.Expr} {pos pos2 : Pos} (body : behindTheImports p = l1 ++ .Assign [tg] (.Dict keys values pos2) pos :: l2)
    (hk : keys.all (fun k => match k with
      | some k => isTup k
      | none => false) = true) (hl : keys.length = 17) (hv : keys.length = values.length) (sole : ∀ env, swapsWithSole [tg] (.Dict keys values pos2) pos.line env = pure false) : PartsOk p (partsBy rd0 p l1 l2 tg keys values pos2) l1 l2 tg keys values pos pos2 where
  body := body
  code := rfl
  frame := fun _ => rfl
  start := fun _ => rfl
  ahead := fun _ => rfl
  shape := fun env => (pairs_shape hk hv).1
  stands := fun env => (pairs_shape hk hv).2.1
  len := fun env => (pairs_shape hk hv).2.2.trans hl
  behind := fun _ _ => rfl
  sole := sole
theorem full_eq {p : Program} {w : World} {hh : List L2.Key → Int} {l1 l2 : List Stmt} {tg : PySem.Expr} {keys : List (Option PySem.Expr)} {values : List PySem.Expr} {pos2 : Pos} {N : Nat} {s0 : SharedT} {pX : Pos} :
    full (denote table) p w hh (partsBy rd0 p l1 l2 tg keys values pos2) N s0 pX = full (denQ tabQ) p w hh (partsBy rdQ p l1 l2 tg keys values pos2) N s0 pX := by
  rw [rd_eq, table_eq_tree, denQ_eq, tabQ_eq]
/-- from the boot -/
def fromBoot {α : Type} (w : World) (os : OsState) (k : SharedT → Option α) : Option α := match putAll (boot_heap w.params).objs.toList .nil 0 with
  | some (t, n) => frNat n fun n0 => k (bootT w os (t, n0))
  | none => none
theorem fromBoot_ok {α : Type} {w : World} {os : OsState} {k : SharedT → Option α} {x : α} (h : fromBoot w os k = some x) : ∃ s0 : SharedT, s0.abs = bootS w os ∧ k s0 = some x ∧ (∀ k2 : SharedT → Option α, fromBoot w os k2 = k2 s0) ∧ ∀ {β : Type} (k2 : SharedT → Option β), fromBoot w os k2 = k2 s0 := by
  unfold fromBoot at h ⊢
  cases e : putAll (boot_heap w.params).objs.toList .nil 0 with
  | none =>
    rw [e] at h
    cases h
  | some r =>
    obtain ⟨t, n⟩ := r
    rw [e] at h
    have h1 : (frNat n fun n0 => k (bootT w os (t, n0))) = some x := h
    rw [frNat_eq] at h1
    refine ⟨bootT w os (t, n), ?_, h1, fun k2 => ?_, fun k2 => ?_⟩
    · have eh := putAll_heap e
      show (⟨absHeap t n (boot_heap w.params).life, #[], boot_drawn, boot_toks, os⟩ : Shared) = _
      rw [eh]
    · show (frNat n fun n0 => k2 (bootT w os (t, n0))) = _
      rw [frNat_eq]
    · show (frNat n fun n0 => k2 (bootT w os (t, n0))) = _
      rw [frNat_eq]
end HM
noncomputable section
namespace HM
open PySem PySem.W PySem.Calls PyProof.Rows HandSHeadRun DL
inductive Fc where
  | no (x : Str)
  | ex (x : Str)
  | con (x : Str) (d : D)
  | fn (x : Str)
def all2 {α β : Type} (f : α → β → Bool) : List α → List β → Bool
  | [], [] => true
  | a :: r, b :: t => f a b && all2 f r t
  | _, _ => false
def kdaB (K : PySem.W.Frag) : Nat → Value → D → Bool
  | 0, _, _ => false
  | n + 1, u, d => match u, d with
    | .none, .none => true
    | .bool b, .bool c => decide (b = c)
    | .int i _, .int j => decide (i = j)
    | .str x _, .str y => decide (x = y)
    | .ref a, .tuple ds => (match K.lookup a with
      | some ⟨.type T, _, .seq its _, _⟩ => decide (T = "tuple") && (Nat.ble its.size 1000 && all2 (kdaB K n) its.toList ds)
      | _ => false)
    | _, _ => false
theorem kda_ok {K : PySem.W.Frag} : ∀ {n : Nat} {u : Value} {d : D}, kdaB K n u d = true → KDa K u d
  | 0, _, _, h => by cases h
  | n + 1, u, d, h => by
    have all : ∀ {us : List Value} {ds : List D}, all2 (kdaB K n) us ds = true → KDaL K us ds := by
      intro us
      induction us with
      | nil =>
        intro ds q
        cases ds with
        | nil => exact .nil
        | cons _ _ => cases q
      | cons u us ih =>
        intro ds q
        cases ds with
        | nil => cases q
        | cons d ds =>
          obtain ⟨q1, q2⟩ := Bool.and_eq_true_iff.mp (show (kdaB K n u d && all2 (kdaB K n) us ds) = true from q)
          exact .cons (kda_ok q1) (ih q2)
    unfold kdaB at h
    split at h
    · exact .non
    · have e := of_decide_eq_true h
      subst e
      exact .bl _
    · have e := of_decide_eq_true h
      subst e
      exact .int _ _
    · have e := of_decide_eq_true h
      subst e
      exact .str _ _
    · split at h
      · rename_i T dd its m sl e
        obtain ⟨h1, h2⟩ := Bool.and_eq_true_iff.mp h
        obtain ⟨h2, h3⟩ := Bool.and_eq_true_iff.mp h2
        have eT : T = "tuple" := of_decide_eq_true h1
        subst eT
        have hz : its.size ≤ sizeLine := by
          have := Nat.le_of_ble_eq_true h2
          rw [sizeLine_eq]
          omega
        exact .tup e hz (all h3)
      · cases h
    · cases h
def Fc.ok (K : PySem.W.Frag) : Fc → Bool
  | .no x => He.eqO (PySem.W.nsIn K mainGlobals x) (some none)
  | .ex x => (He.Fa.glo x).ok K && (He.Fa.exc x).ok K
  | .con x d => (match PySem.W.nsIn K mainGlobals x with
    | some (some u) => kdaB K 9 u d
    | _ => false)
  | .fn x => (He.Fa.glo x).ok K && ((He.Fa.keep x).ok K && (He.Fa.code (x, none) x).ok K)
/-- a dict whose keys are tuples of texts, as it was written -/
def KTab2 : Type := List (List Str × D)
def ketB (K : PySem.W.Frag) : List DictEntry → KTab2 → Bool := all2 fun e q => (match e.key with
  | .ref a => (match K.lookup a with
    | some ⟨.type T, _, .seq its _, _⟩ => decide (T = "tuple") && (Nat.ble its.size 1000 && (strsB q.1 its.toList && kdaB K 9 e.val q.2))
    | _ => false)
  | _ => false)
def kesB (K : PySem.W.Frag) : List DictEntry → KTab → Bool := all2 fun e q => (match e.key with
  | .str x _ => decide (x = q.1) && kdaB K 9 e.val q.2
  | _ => false)
theorem kes_ok {K : PySem.W.Frag} : ∀ {es : List DictEntry} {tb : KTab}, kesB K es tb = true → KEs K es tb
  | [], [], _ => .nil
  | [], _ :: _, h => by cases h
  | _ :: _, [], h => by cases h
  | ⟨hh, key, v⟩ :: es, (y, d) :: tb, h => by
    obtain ⟨h1, h2⟩ := Bool.and_eq_true_iff.mp h
    cases key with
    | str x t =>
      obtain ⟨h3, h4⟩ := Bool.and_eq_true_iff.mp h1
      have e : x = y := of_decide_eq_true h3
      subst e
      exact .cons (kda_ok h4) (kes_ok h2)
    | _ => cases h1
def dicAt (K : PySem.W.Frag) (x : Str) : Option (Array DictEntry) := match K.lookup (He.ga K x) with
  | some ⟨.type T, none, .dict es _, sl⟩ => (match decide (T = "dict") && (sl.isEmpty && !((He.ga K x) == sysModules)) with
    | true => some es
    | false => none)
  | _ => none
/-- what is looked at -/
structure Spec1 where
  facts : List Fc
  fns : List He.FnD
  tds : List (Str × KTab)
  tts : List (Str × KTab2)
abbrev Al1 : Type := Bool × List He.FnV × List (Option (List (Option (Str × Int)))) × List (Option (List Int))
def obsK (F : Spec1) (K : PySem.W.Frag) : Al1 :=
  (F.facts.all (Fc.ok K) && (F.tds.all (fun q => (He.Fa.glo q.1).ok K && (match dicAt K q.1 with
    | some es => kesB K es.toList q.2
    | none => false)) && F.tts.all (fun q => (He.Fa.glo q.1).ok K && (match dicAt K q.1 with
    | some es => ketB K es.toList q.2
    | none => false))),
   F.fns.map (fun d => He.fnObs K d.at_), F.tds.map (fun q => (dicAt K q.1).map fun es => es.toList.map He.keyOf), F.tts.map fun q => (dicAt K q.1).map fun es => es.toList.map (·.hash))
def valK (F : Spec1) (p : Program) (w : World) : Al1 :=
  (true, F.fns.map He.FnD.val, F.tds.map (fun q => some (He.keysIn w.params (q.2.map (·.1)))), F.tts.map fun q => some (q.2.map fun z => (tk p w).hash (sks z.1)))
def addrs (n0 n : Nat) : List Addr := mainGlobals :: List.range' n0 (n - n0)
/-- the boot's objects that must stay -/
def keptL (n0 : Nat) (g : Addr → Option Obj) : List (Option Obj) := (List.range n0).map fun b => match b == mainNs || b == cStatics with
  | true => none
  | false => g b
theorem kept_ok {n0 : Nat} {g g' : Addr → Option Obj} (e : keptL n0 g = keptL n0 g') {b : Addr} (hb : b < n0) (h1 : b ≠ mainNs) (h2 : b ≠ cStatics) : g b = g' b := by
  have q := congrArg (fun l => l[b]?) e
  simp only [keptL, List.getElem?_map, List.getElem?_range hb, Option.map_some, Option.some.injEq] at q
  have z : (b == mainNs || b == cStatics) = false := by simp [h1, h2]
  rw [z] at q
  exact q
end HM
noncomputable section
namespace HM
open PySem PySem.W PySem.Calls PyProof.Rows HandSHeadRun DL
theorem body_in (b : List Stmt) (p : Program) (cv : Value) (fa : Addr) (p2 : Pos) : (Γ0.enter (.body b (envOf p cv fa)) none p2).In A1 := by
  refine ⟨rfl, ?_, (fun l h => nomatch h), (fun g h => nomatch h), ?_⟩
  · show frameCount [(Code.builtin "claim.caller" {}, p2)] + (Code.body b (envOf p cv fa)).weight ≤ 100000
    have e : frameCount [(Code.builtin "claim.caller" {}, p2)] = frameCount [(Code.builtin "claim.caller" {}, default)] := rfl
    have e3 : (Code.body b (envOf p cv fa)).weight ≤ 900 := by
      unfold Code.weight Code.frames Code.isFrame Code.isCreation Code.isCaller
      simp
      split <;> omega
    have e4 : frameCount [(Code.builtin "claim.caller" {}, default)] ≤ 99000 := by decide +kernel
    rw [e]
    omega
  · show (Code.body b (envOf p cv fa)).cUnits + unitsOf [(Code.builtin "claim.caller" {}, p2)] ≤ 1000
    have e : unitsOf [(Code.builtin "claim.caller" {}, p2)] = unitsOf [(Code.builtin "claim.caller" {}, default)] := rfl
    have e4 : unitsOf [(Code.builtin "claim.caller" {}, default)] ≤ 100 := by decide +kernel
    have e3 : (Code.body b (envOf p cv fa)).cUnits ≤ 100 := by
      unfold Code.cUnits Code.frames Code.isFrame
      simp
    rw [e]
    omega
theorem pairs_eq {α : Type} : ∀ {l : List (α × α)}, l.map (·.1) = l.map (·.2) → ∀ y ∈ l, y.1 = y.2
  | [], _, _, m => (nomatch m)
  | x :: l, h, y, m => by
    rw [List.map_cons, List.map_cons] at h
    injection h with h1 h2
    rcases List.mem_cons.mp m with e | m
    · rw [e]
      exact h1
    · exact pairs_eq h2 y m
end HM
noncomputable section
namespace DL
open PySem PySem.Spec PyProof.Rows L2
abbrev KTab3 : Type := List (List Str × D)
structure KE2 (G : Gm) (e : DictEntry) (q : List Str × D) : Prop where
  ex : ∃ (a : Addr) (dd : Option Addr) (its : Array Value) (n : Nat) (sl : Array (Option Value)), e.key = .ref a ∧ G.K.lookup a = some ⟨.type "tuple", dd, .seq its n, sl⟩ ∧ HM.strsB q.1 its.toList = true
  val : KDa G.K e.val q.2
  hash : e.hash = (HM.tk G.P G.w).hash (HM.sks q.1)
inductive KEs2 (G : Gm) : List DictEntry → KTab3 → Prop
  | nil : KEs2 G [] []
  | cons {e : DictEntry} {q : List Str × D} {es : List DictEntry} {t : KTab3} (h : KE2 G e q) (r : KEs2 G es t) : KEs2 G (e :: es) (q :: t)
structure GlT (G : Gm) (x : Str) (t : KTab3) : Prop where
  ex : ∃ (d : Addr) (es : Array DictEntry) (n : Nat), G.mg x = some (.ref d) ∧ G.K.lookup d = some ⟨.type "dict", none, .dict es n, #[]⟩ ∧ (d == sysModules) = false ∧ KEs2 G es.toList t
  nd : (t.map (·.1)).Nodup
def strsOf : List D → Option (List Str)
  | [] => some []
  | .str x :: r => (strsOf r).map (x :: ·)
  | _ => none
def tgetD (t : KTab3) : D → Option D
  | .tuple ds => (strsOf ds).bind fun ks => t.lookup ks
  | _ => none
def tninD (t : KTab3) : D → Option Bool
  | .tuple ds => (strsOf ds).map fun ks => !(t.lookup ks).isSome
  | _ => none
def dTget (t : KTab3) (fb : Ev → Mn D) (ev : Ev) : Mn D := bnd (fb ev) fun y => lft (tgetD t y)
def dTnin (t : KTab3) (fb : Ev → Mn D) (ev : Ev) : Mn Bool := bnd (fb ev) fun y => lft (tninD t y)
/-- the entries as the dict's rule wants them -/
theorem KEs2.rows {G : Gm} {h : Heap} (kin : G.K.In h) : ∀ {es : List DictEntry} {t : KTab3}, KEs2 G es t → ∃ xs : List (List Key × Addr × Value), es = xs.map (entryOfKey (HM.tk G.P G.w)) ∧ (∀ x ∈ xs, (HM.tk G.P G.w).is h x.1 x.2.1) ∧ xs.map (·.1) = t.map (fun q => HM.sks q.1) ∧
      ∀ ks : List Str, (match List.lookup ks t with
        | some dd => ∃ p : Addr × Value, atKey xs (HM.sks ks) = some p ∧ KDa G.K p.2 dd
        | none => atKey xs (HM.sks ks) = none)
  | _, _, .nil => ⟨[], rfl, (fun _ m => by cases m), rfl, fun ks => rfl⟩
  | _, _, .cons (e := e) (q := q) (t := t) he r => by
    obtain ⟨xs, h1, h2, h3, h4⟩ := r.rows kin
    obtain ⟨⟨a, dd, its, n, sl, k1, k2, k3⟩, kv, kh⟩ := he
    refine ⟨(HM.sks q.1, a, e.val) :: xs, ?_, ?_, ?_, ?_⟩
    · rw [List.map_cons, h1]
      congr 1
      obtain ⟨eh, ek, ev⟩ := e
      cases k1
      cases kh
      rfl
    · intro x hx
      rcases List.mem_cons.mp hx with rfl | hx
      · exact ⟨_, its, n, kin _ _ k2, rfl, rfl, HM.strsB_ok k3⟩
      · exact h2 x hx
    · rw [List.map_cons, List.map_cons, h3]
    · intro ks
      by_cases hk : ks = q.1
      · subst hk
        have e1 : List.lookup q.1 (q :: t) = some q.2 := by
          obtain ⟨q1, q2⟩ := q
          simp [List.lookup]
        rw [e1]
        exact ⟨(a, e.val), by simp [atKey], kv⟩
      · have e1 : List.lookup ks (q :: t) = List.lookup ks t := by
          obtain ⟨q1, q2⟩ := q
          have b1 : (ks == q1) = false := by simpa using hk
          simp [List.lookup, b1]
        have e2 : atKey ((HM.sks q.1, a, e.val) :: xs) (HM.sks ks) = atKey xs (HM.sks ks) := by
          have ne : ¬ HM.sks q.1 = HM.sks ks := fun z => hk (HM.inj_sks z).symm
          simp [atKey, List.find?_cons, ne]
        rw [e1]
        have q' := h4 ks
        cases hl : List.lookup ks t with
        | some dd => rw [hl] at q'; rw [e2]; exact q'
        | none => rw [hl] at q'; rw [e2]; exact q'
theorem nodup_sks : ∀ {l : List (List Str)}, l.Nodup → (l.map HM.sks).Nodup := fun h => List.Pairwise.map _ (fun a b hab e => hab (HM.inj_sks e)) h
variable {G : Gm} {k : Nat} {sc : Sx} {N : List Str}
/-- the key that stands in the heap -/
theorem strs_items {P : Program} {w : World} {K : PySem.W.Frag} {M : Addr → Prop} {H : Hp} : ∀ {xs : List V} {ds : List D} {its : List Value} {ks : List Str}, DaL K M H xs ds → Vals xs its → strsOf ds = some ks → ItemsAre (mixKind P w) (HM.sks ks) its
  | _, _, _, ks, .nil, .nil, e => by cases e; exact .nil
  | _, _, _, ks, .cons h t, .cons r rs, e => by
    cases h with
    | str x =>
      replace e : (strsOf _).map (x :: ·) = some ks := e
      obtain ⟨ks', e1, rfl⟩ := Option.map_eq_some_iff.mp e
      exact .cons (kV_is (k := Sum.inr x) r) (strs_items t rs e1)
    | _ => cases e
theorem key_at {X : Cx} {pins : List (Addr × Obj)} {σ : L2.St} {H : Hp} {s : Shared} {M : Addr → Prop} {b : Addr} {xs : List V} {ds : List D} {ks : List Str} (I : Inv X pins σ H s) (h : SqT X.K H b xs) (t : DaL X.K M H xs ds) (e : strsOf ds = some ks) : (HM.tk X.prog X.w).is s.heap (HM.sks ks) b := by
  obtain ⟨its, rv, ⟨o, h1, h2, n, h3⟩, hz⟩ := I.tuple h
  refine ⟨o, its.toArray, n, h1, h2, h3, ?_⟩
  simpa using strs_items (P := X.prog) (w := X.w) t rv e
theorem dict_at {X : Cx} {pins : List (Addr × Obj)} {σ : L2.St} {H : Hp} {s : Shared} {x : Str} {t : KTab3} (g : Gd G k sc N X) (h : GlT G x t) (I : Inv X pins σ H s) : ∃ (d : Addr) (xs : List (List Key × Addr × Value)), G.mg x = some (.ref d) ∧ (d == sysModules) = false ∧ s.heap.DictOfH (HM.tk X.prog X.w) d xs ∧ ∀ ks : List Str, (match List.lookup ks t with
        | some dd => ∃ p : Addr × Value, atKey xs (HM.sks ks) = some p ∧ KDa G.K p.2 dd
        | none => atKey xs (HM.sks ks) = none) := by
  obtain ⟨d, es, n, h1, h2, h3, h4⟩ := h.ex
  have kin : G.K.In s.heap := by rw [← g.hK]; exact I.kIn
  obtain ⟨xs, a1, a2, a3, a4⟩ := h4.rows kin
  refine ⟨d, xs, h1, h3, ?_, a4⟩
  rw [g.hP, g.hw]
  refine ⟨_, es, n, kin _ _ h2, ⟨rfl, rfl, rfl⟩, rfl, a1, a2, ?_⟩
  rw [a3]
  have := nodup_sks h.nd
  rwa [List.map_map] at this
def rTget (G : Gm) (d : Addr) (t : KTab3) (M : Addr → Prop) : R2 := fun x y H Q => x = .ref d ∧ ∃ b xs ds ks dd, y = .ref b ∧ SqT G.K H b xs ∧ DaL G.K M H xs ds ∧ strsOf ds = some ks ∧ List.lookup ks t = some dd ∧ ∀ v, (∀ M H, Da G.K M H v dd) → Q v H
theorem E_tget {x : Str} {t : KTab3} {b : Expr} {fb : Ev → Mn D} {p p2 : Pos} (h : GlT G x t) (hb : SE G k sc N b fb) (hg : glB sc x = true := by rfl) (hdb : (x == ("__debug__" : Str)) = false := by decide) (hs : ∀ o i, subscripted b false o i = operate [o, i] (getItem o i) := by intro _ _; rfl) :
    SE G k sc N (.Subscript (.Name x p) b p2) (dTget t fb) := by
  obtain ⟨d, _, _, hd, _⟩ := h.ex
  refine e_one (rl := fun X y H Q => ∃ M, rTget G d t M (.ref d) y H Q) hb (fun X ta g hta => pe_imp (pe_ix (r := fun x y H Q => ∃ M, rTget G d t M x y H Q) ?_ (pe_glob (v := .ref d) (gl_of g hg) (by rw [g.hmg]; exact hd) rfl hdb) hta hs) fun σ H Q q => q) fun X M H y dy dd Q g ml hy e hq => ?_
  · intro value slice pins s σ H x y v u Q I rx ry ⟨M, e1, b, xs, ds, ks, dd, e2, q1, q2, q3, q4, q5⟩ hs'
    subst e1
    subst e2
    cases (show v = Value.ref d from rx)
    cases (show u = Value.ref b from ry)
    obtain ⟨d', zs, h1, h2, h3, h4⟩ := dict_at g h I
    rw [hd] at h1
    cases h1
    have z := h4 ks
    rw [q4] at z
    obtain ⟨p, z1, z2⟩ := z
    obtain ⟨v, r, a⟩ := z2.all
    refine tail_any h3.typeIs slot_dict_getitem.lookup (wpAny_getItem_heap (tupleKind_room_in1 (by have := g.room.un; omega)) (key_at I (by rw [g.hK]; exact q1) (by rw [g.hK]; exact q2) q3) h3 z1 ?_) hs'
    exact ⟨v, H, I.tok _, r, q5 v a⟩
  · cases hy with
    | tup h1 h2 =>
      obtain ⟨ks, e1, e2⟩ := Option.bind_eq_some_iff.mp (show (strsOf _).bind (fun ks => List.lookup ks t) = some dd from e)
      exact ⟨M, rfl, _, _, _, ks, dd, rfl, h1, h2, e1, e2, fun v a => hq v H (.refl _) (a M H)⟩
    | _ => cases e
def rTnin (G : Gm) (d : Addr) (t : KTab3) (M : Addr → Prop) : R2 := fun x y H Q => y = .ref d ∧ ∃ b xs ds ks, x = .ref b ∧ SqT G.K H b xs ∧ DaL G.K M H xs ds ∧ strsOf ds = some ks ∧ Q (.bl (!(List.lookup ks t).isSome)) H
theorem T_tnin {x : Str} {t : KTab3} {b : Expr} {fb : Ev → Mn D} {p p2 : Pos} (h : GlT G x t) (hb : SE G k sc N b fb) (hg : glB sc x = true := by rfl) (hdb : (x == ("__debug__" : Str)) = false := by decide) (hm : behindInMarks .NotIn (.Name x p) = false := by rfl) :
    ST G k sc N (.Compare b [.NotIn] [.Name x p] p2) (dTnin t fb) := fun X W g tk => by
  obtain ⟨d, _, _, hd, _⟩ := h.ex
  have op : OpR X (compareOp .NotIn) (fun x y H Q => ∃ M, rTnin G d t M x y H Q) := by
    intro pins s σ H x y v u Q I rx ry ⟨M, e1, b, xs, ds, ks, e2, q1, q2, q3, q5⟩
    subst e1
    subst e2
    cases (show u = Value.ref d from ry)
    cases (show v = Value.ref b from rx)
    obtain ⟨d', zs, h1, h2, h3, h4⟩ := dict_at g h I
    rw [hd] at h1
    cases h1
    have z := h4 ks
    refine wpAny_notIn_heap (tupleKind_room_in1 (by have := g.room.un; omega)) (key_at I (by rw [g.hK]; exact q1) (by rw [g.hK]; exact q2) q3) h2 h3 ?_
    have e : (atKey zs (HM.sks ks)).isSome = (List.lookup ks t).isSome := by
      cases hl : List.lookup ks t with
      | some dd => rw [hl] at z; obtain ⟨p, z1, z2⟩ := z; rw [z1]; rfl
      | none => rw [hl] at z; rw [z]; rfl
    rw [e]
    exact ⟨.bl (!(List.lookup ks t).isSome), H, I.tok _, rfl, q5⟩
  refine pt_imp (pt_cmpR op (hb X W g tk) (pe_glob (v := .ref d) (gl_of g hg) (by rw [g.hmg]; exact hd) rfl hdb) hm) fun σ H Q h => ?_
  obtain ⟨M, r, ev, rs, R, o, rs', e, w⟩ := h
  refine tE_bnd R e w fun y rs1 H1 v R1 s1 d1 e1 w1 => ?_
  obtain ⟨c, e3, rfl, rfl⟩ := lft_some e1
  cases d1 with
  | tup h1 h2 =>
    obtain ⟨ks, e1, e2⟩ := Option.map_eq_some_iff.mp (show (strsOf _).map (fun ks => !(List.lookup ks t).isSome) = some c from e3)
    exact ⟨M, rfl, _, _, _, ks, rfl, h1, h2, e1, _, rfl, by rw [e2]; exact w1 H1 (.refl _) R1.row⟩
  | _ => cases e3
end DL
noncomputable section
namespace DL
open PySem PySem.Spec PyProof.Rows L2
variable {G : Gm} {k : Nat} {sc : Sx} {N : List Str}
/-- a, b = x.pop(): the last item, a tuple, in two names -/
def popT (t : Tgt) (i : Nat) (ev : Ev) : Option (List D × List D) := (getO ev i).bind fun ds => (ds[ds.length - 1]?).bind fun d => (t.of d).map fun es => (ds.dropLast, es)
def sPopT (t : Tgt) (i : Nat) (ev : Ev) : Ms := bnS (lft (popT t i ev)) fun q rs => some (.nx (setE (ev.set i (.own q.1)) t.ix q.2), rs)
theorem s_popT (t : Tgt) (i : Nat) {x : Str} {tg : Expr} {p1 p2 p3 p4 : Pos} (ht : PGt G k sc N tg t) (hi : N[i]? = some x := by rfl) (hv : visB sc x = true := by rfl) (hd : (x == ("__debug__" : Str)) = false := by decide) (hcd : (x == ("__classdict__" : Str)) = false := by decide)
    (hs : ∀ env, swapsWithSole [tg] (.Call (.Attribute (.Name x p1) "pop" p2) [] [] p3) p4.line env = pure false := by intro _; rfl) (hw : ∀ env, env.scope = sc.sc → swappedStores [tg] (.Call (.Attribute (.Name x p1) "pop" p2) [] [] p3) env = pure none := by intro env h; first | rfl | (cases env; cases h; rfl))
    (h1 : ∀ env, (assignEach [tg] env).map (·.2) = [assign tg env] := by intro _; rfl) (hl : (p2.endLine == p3.line) = true := by rfl) :
    SS G k sc N (.Assign [tg] (.Call (.Attribute (.Name x p1) "pop" p2) [] [] p3) p4) (sPopT t i) := fun X W g tk po => by
  obtain ⟨u, hu1, hu2⟩ := ht
  refine ps_imp (ps_asg (pe_bm0 PySem.F.plainAttrs_list PySem.F.slot_list_pop PySem.F.type_list_pop mt_pop (pe_at g hi hv hd hcd) (by rfl) hl) (hu1 X g) (hs _) (hw _ g.hsc) (h1 _)) fun D σ H h => ?_
  obtain ⟨M, r, Pr, ev, rs, oa, R, o, rs', e, w⟩ := h
  rcases bnS_some e with ⟨q, rs1, e1, e2⟩ | ⟨_, _, e1, rfl⟩
  · cases e2
    obtain ⟨q', e3, e4, rfl⟩ := lft_some e1
    cases e4
    obtain ⟨ds, hg, e5⟩ := Option.bind_eq_some_iff.mp e3
    obtain ⟨d, hz, e6⟩ := Option.bind_eq_some_iff.mp e5
    obtain ⟨es, he, e7⟩ := Option.map_eq_some_iff.mp e6
    cases e7
    obtain ⟨xs, a1, a2, a3, a5⟩ := R.at1 hg
    obtain ⟨v, hv, dv⟩ := a3.get_last hz
    refine ⟨_, a1, .inl ⟨rfl, _, .of a2⟩, _, xs, v, rfl, rfl, a2, hv, ?_⟩
    have R' := R.mut (getO_some hg) a3.dropLast
    have io : isOwn ev i := ⟨ds, getO_some hg⟩
    have kp : Kp (Av M ev oa) H (upd H (oa i) (.lst xs.dropLast)) := fun b o n e => by rw [upd_ne fun z => n (.inr ⟨i, io, z⟩)]; exact e
    have sub : ∀ b, Av M (ev.set i (.own ds.dropLast)) oa b → Av M ev oa b := fun b m => m.elim .inl fun ⟨j', ⟨fs, o⟩, e⟩ => by
      by_cases hj : i = j'
      · subst hj; exact .inr ⟨i, io, e⟩
      · rw [List.getElem?_set_ne hj] at o; exact .inr ⟨j', ⟨fs, o⟩, e⟩
    exact hu2 _ _ _ _ _ _ _ ((dv.kp R.e.ml kp).sub sub) he fun vs hvs => w _ _ oa (R'.setL hvs)
  · obtain ⟨_, _, e4, _⟩ := lft_some e1
    cases e4
end DL
namespace DL
open PySem PySem.Spec PyProof.Rows L2
section
end
end DL
namespace DL
open PySem PySem.Spec PyProof.Rows L2
end DL
namespace DL
open PySem PySem.Spec PyProof.Rows L2
section
variable {ev : Ev}
@[simp] theorem dTget_eq (t : KTab3) (f : Ev → Mn D) : dTget t f ev = bnd (f ev) fun y => lft (tgetD t y) := rfl
@[simp] theorem dTnin_eq (t : KTab3) (f : Ev → Mn D) : dTnin t f ev = bnd (f ev) fun y => lft (tninD t y) := rfl
@[simp] theorem sPopT_eq (t : Tgt) (i : Nat) : sPopT t i ev = bnS (lft (popT t i ev)) fun q => nxM (setE (ev.set i (.own q.1)) t.ix q.2) := rfl
@[simp] theorem dLast_eq (e : Ev → Mn D) : dLast e ev = bnd (nox (e ev)) fun x => pur [x] := rfl
@[simp] theorem dMid_eq (src : Ev → Mn (List D)) (vs : List Nat) (rest : Ev → Mn (List D)) (t : Tgt) (c : Ev → Mn Bool) : dMid src vs rest t c ev = bnd (nox (src ev)) fun ds => gnGo rest t c (wipeE ev vs) ds := rfl
@[simp] theorem dCompN_eq (own : List Nat) (src rest : Ev → Mn (List D)) (t : Tgt) (c : Ev → Mn Bool) : dCompN own src rest t c ev = bnd (src ev) fun ds => bnd (gnGo rest t c (wipeE ev own) ds) fun out => lft (if out.length ≤ sizeLine then some (.list out) else none) := rfl
@[simp] theorem gnGo_nil (rest : Ev → Mn (List D)) (t : Tgt) (c : Ev → Mn Bool) : gnGo rest t c ev [] = pur [] := rfl
end
end DL
namespace DL
open PySem PySem.Spec PyProof.Rows L2
section
end
end DL
noncomputable section
namespace HM
open PySem PySem.W PySem.Calls PyProof.Rows HandSHeadRun DL
open L2 (defArgs defBody defScope)
def DictP (r : OpenRow) (N : Nat) (l1 l2 : List Stmt) (tg : PySem.Expr) (keys : List (Option PySem.Expr)) (values : List PySem.Expr) (pos2 : Pos) (w : World) : Prop :=
  ∀ os pX, (fromBoot w os fun s0 => (full (denQ tabQ) r.prog w (tk r.prog w).hash (partsBy rdQ r.prog l1 l2 tg keys values pos2) N s0 pX).map fun x => x.2.1.map (·.1)) =
    (fromBoot w os fun s0 => (full (denQ tabQ) r.prog w (tk r.prog w).hash (partsBy rdQ r.prog l1 l2 tg keys values pos2) N s0 pX).map fun x => x.2.1.map (·.2))
section
variable {F : Spec1} {P : Program} {w : World} {K : PySem.W.Frag} {h base : Heap} {mg : Str → Option Value}
theorem says_all (c : obsK F K = valK F P w) : (F.facts.all (Fc.ok K) && (F.tds.all (fun q => (He.Fa.glo q.1).ok K && (match dicAt K q.1 with
    | some es => kesB K es.toList q.2
    | none => false)) && F.tts.all (fun q => (He.Fa.glo q.1).ok K && (match dicAt K q.1 with
    | some es => ketB K es.toList q.2
    | none => false)))) = true := congrArg (fun z : Al1 => z.1) c
theorem fact (c : obsK F K = valK F P w) (i : Nat) {f : Fc} (hf : F.facts[i]? = some f := by rfl) : f.ok K = true :=
  List.all_eq_true.mp (Bool.and_eq_true_iff.mp (says_all c)).1 f (List.mem_of_getElem? hf)
theorem f_no (X : K.In h) (Gn : h.Ns mainGlobals mg) {x : Str} (c : (Fc.no x).ok K = true) : mg x = none := PySem.W.mg_none_of X Gn (He.eqO_ok c)
theorem f_con (X : K.In h) (Gn : h.Ns mainGlobals mg) {x : Str} {d : D} (c : (Fc.con x d).ok K = true) : GlD ⟨P, w, K, mg, base⟩ x d := by
  replace c : (match PySem.W.nsIn K mainGlobals x with
    | some (some u) => kdaB K 9 u d
    | _ => false) = true := c
  cases e : PySem.W.nsIn K mainGlobals x with
  | none => rw [e] at c; cases c
  | some o =>
    cases o with
    | none => rw [e] at c; cases c
    | some u =>
      rw [e] at c
      exact GlD.mk' (G := ⟨P, w, K, mg, base⟩) (PySem.W.mg_of X Gn e) (kda_ok c)
theorem f_ex (X : K.In h) (Gn : h.Ns mainGlobals mg) {x : Str} (c : (Fc.ex x).ok K = true) : ExcF ⟨P, w, K, mg, base⟩ x := by
  obtain ⟨c1, c2⟩ := Bool.and_eq_true_iff.mp (show ((He.Fa.glo x).ok K && (He.Fa.exc x).ok K) = true from c)
  obtain ⟨h1, h2, h3, h4⟩ := He.exc_ok c2
  exact ExcF.mk' (G := ⟨P, w, K, mg, base⟩) (He.glo_ok X Gn c1) h1 h2 h3 h4
theorem fn_at (c : obsK F K = valK F P w) (i : Nat) {d : He.FnD} (hd : F.fns[i]? = some d) : He.fnObs K d.at_ = d.val := by
  have e : F.fns.map (fun d => He.fnObs K d.at_) = F.fns.map He.FnD.val := congrArg (fun z : Al1 => z.2.1) c
  have e2 : (F.fns.map fun d => He.fnObs K d.at_)[i]? = (F.fns.map He.FnD.val)[i]? := by rw [e]
  rw [List.getElem?_map, List.getElem?_map, hd] at e2
  exact Option.some.inj e2
abbrev fnd (x : Str) (st : Stmt) : He.FnD := ⟨(x, none), x, x, defArgs st, defBody st, defScope st⟩
theorem f_fun (X : K.In h) (Gn : h.Ns mainGlobals mg) {x : Str} {st : Stmt} (c : obsK F K = valK F P w) (i j : Nat) (hi : F.fns[i]? = some (fnd x st)) (hj : F.facts[j]? = some (.fn x)) :
    ∃ oc od osl kV doc pm an cdv ct, mg x = some (.ref (He.ga K x)) ∧ K.lookup (He.ga K x) = some ⟨oc, od, .func (PySem.W.fnOf x x (defArgs st) (defBody st) (defScope st) .none kV doc pm an cdv ct), osl⟩ ∧ PySem.W.codeIn K cdv x = true ∧ PySem.W.keepIn K (.ref (He.ga K x)) = true := by
  have q := fact c j hj
  obtain ⟨c1, q⟩ := Bool.and_eq_true_iff.mp (show ((He.Fa.glo x).ok K && ((He.Fa.keep x).ok K && (He.Fa.code (x, none) x).ok K)) = true from q)
  obtain ⟨c2, c3⟩ := Bool.and_eq_true_iff.mp q
  obtain ⟨oc, od, osl, kV, doc, pm, an, cdv, ct, l, cd⟩ := He.fn_ok (d := fnd x st) (fn_at c i hi) c3
  exact ⟨oc, od, osl, kV, doc, pm, an, cdv, ct, He.glo_ok X Gn c1, l, cd, c2⟩
theorem f_has (X : K.In h) (Gn : h.Ns mainGlobals mg) {x : Str} {st : Stmt} {ps : List Str} (c : obsK F K = valK F P w) (i j : Nat) (hi : F.fns[i]? = some (fnd x st)) (hj : F.facts[j]? = some (.fn x))
    (b : ∀ (kV doc pm : Value) (an : Option Addr) (cdv ct : Value) (us : List Value), us.length = ps.length → bindArgs (PySem.W.fnOf x x (defArgs st) (defBody st) (defScope st) .none kV doc pm an cdv ct) ⟨us, []⟩ = pure (ps.zip us)) : HasF ⟨P, w, K, mg, base⟩ x st ps := by
  obtain ⟨oc, od, osl, kV, doc, pm, an, cdv, ct, h1, h2, h3, h4⟩ := f_fun X Gn c i j hi hj
  exact HasF.mk' (G := ⟨P, w, K, mg, base⟩) h1 h2 h3 h4 b
theorem dic_ok {x : Str} {es : Array DictEntry} (hd : dicAt K x = some es) : ∃ n, K.lookup (He.ga K x) = some ⟨.type "dict", none, .dict es n, #[]⟩ ∧ ((He.ga K x) == sysModules) = false := by
  unfold dicAt at hd
  split at hd
  · rename_i T es' n sl e
    split at hd
    · rename_i hb
      cases hd
      obtain ⟨b1, b2⟩ := Bool.and_eq_true_iff.mp hb
      obtain ⟨b2, b3⟩ := Bool.and_eq_true_iff.mp b2
      have eT : T = "dict" := of_decide_eq_true b1
      subst eT
      have es0 : sl = #[] := by simpa using b2
      subst es0
      refine ⟨n, e, ?_⟩
      cases z : ((He.ga K x) == sysModules) with
      | false => rfl
      | true => rw [z] at b3; cases b3
    · cases hd
  · cases hd
theorem f_td (X : K.In h) (Gn : h.Ns mainGlobals mg) {x : Str} {tb : KTab} (c : obsK F K = valK F P w) (i : Nat) (hi : F.tds[i]? = some (x, tb)) : GlK ⟨P, w, K, mg, base⟩ x tb := by
  obtain ⟨a1, _⟩ := Bool.and_eq_true_iff.mp (Bool.and_eq_true_iff.mp (says_all c)).2
  have a2 := List.all_eq_true.mp a1 _ (List.mem_of_getElem? hi)
  obtain ⟨g1, g2⟩ := Bool.and_eq_true_iff.mp a2
  have e : F.tds.map (fun q => (dicAt K q.1).map fun es => es.toList.map He.keyOf) = F.tds.map (fun q => some (He.keysIn w.params (q.2.map (·.1)))) := congrArg (fun z : Al1 => z.2.2.1) c
  have e2 : (F.tds.map (fun q => (dicAt K q.1).map fun es => es.toList.map He.keyOf))[i]? = (F.tds.map (fun q => some (He.keysIn w.params (q.2.map (·.1)))))[i]? := by rw [e]
  rw [List.getElem?_map, List.getElem?_map, hi] at e2
  have e3 := Option.some.inj e2
  cases hd : dicAt K x with
  | none => rw [hd] at g2; cases g2
  | some es =>
    rw [hd] at g2
    have e4 : (dicAt K x).map (fun es => es.toList.map He.keyOf) = some (He.keysIn w.params (tb.map (·.1))) := e3
    rw [hd] at e4
    obtain ⟨n, l1, l2⟩ := dic_ok hd
    exact GlK.mk' (G := ⟨P, w, K, mg, base⟩) (He.glo_ok X Gn g1) l1 (He.keysLit_of (Option.some.inj e4)) l2 (kes_ok g2)
theorem ket_ok : ∀ {es : List DictEntry} {t : KTab3}, ketB K es t = true → es.map (·.hash) = t.map (fun z => (tk P w).hash (sks z.1)) → KEs2 ⟨P, w, K, mg, base⟩ es t
  | [], [], _, _ => .nil
  | [], _ :: _, h, _ => by cases h
  | _ :: _, [], h, _ => by cases h
  | e :: es, q :: t, h, hh => by
    obtain ⟨h1, h2⟩ := Bool.and_eq_true_iff.mp h
    rw [List.map_cons, List.map_cons] at hh
    injection hh with hh1 hh2
    refine .cons ?_ (ket_ok h2 hh2)
    dsimp only at h1
    split at h1
    · rename_i a ek
      split at h1
      · rename_i T dd its m sl el
        obtain ⟨b1, h1⟩ := Bool.and_eq_true_iff.mp h1
        obtain ⟨b2, h1⟩ := Bool.and_eq_true_iff.mp h1
        obtain ⟨b3, b4⟩ := Bool.and_eq_true_iff.mp h1
        have eT : T = "tuple" := of_decide_eq_true b1
        subst eT
        exact ⟨⟨a, dd, its, m, sl, ek, el, b3⟩, kda_ok b4, hh1⟩
      · cases h1
    · cases h1
theorem f_tt (X : K.In h) (Gn : h.Ns mainGlobals mg) {x : Str} {tb : KTab3} (c : obsK F K = valK F P w) (i : Nat) (hi : F.tts[i]? = some (x, tb)) (nd : (tb.map (·.1)).Nodup) : GlT ⟨P, w, K, mg, base⟩ x tb := by
  obtain ⟨_, a1⟩ := Bool.and_eq_true_iff.mp (Bool.and_eq_true_iff.mp (says_all c)).2
  have a2 := List.all_eq_true.mp a1 _ (List.mem_of_getElem? hi)
  obtain ⟨g1, g2⟩ := Bool.and_eq_true_iff.mp a2
  have e : F.tts.map (fun q => (dicAt K q.1).map fun es => es.toList.map (·.hash)) = F.tts.map (fun q => some (q.2.map fun z => (tk P w).hash (sks z.1))) := congrArg (fun z : Al1 => z.2.2.2) c
  have e2 : (F.tts.map (fun q => (dicAt K q.1).map fun es => es.toList.map (·.hash)))[i]? = (F.tts.map (fun q => some (q.2.map fun z => (tk P w).hash (sks z.1))))[i]? := by rw [e]
  rw [List.getElem?_map, List.getElem?_map, hi] at e2
  have e3 := Option.some.inj e2
  cases hd : dicAt K x with
  | none => rw [hd] at g2; cases g2
  | some es =>
    rw [hd] at g2
    have e4 : (dicAt K x).map (fun es => es.toList.map (·.hash)) = some (tb.map fun z => (tk P w).hash (sks z.1)) := e3
    rw [hd] at e4
    obtain ⟨n, l1, l2⟩ := dic_ok hd
    exact ⟨⟨_, es, n, He.glo_ok X Gn g1, l1, l2, ket_ok g2 (Option.some.inj e4)⟩, nd⟩
end
end HM
noncomputable section
namespace HM
open PySem PySem.W PySem.Calls PyProof.Rows HandSHeadRun DL
open L2 (defArgs defBody defScope)
structure SpecL where
  base : Spec1
  law : Str
  more : List (PySem.W.Frag → Bool)
def codeOf (K : PySem.W.Frag) (x : Str) : Addr := match K.lookup (He.ga K x) with
  | some ⟨_, _, .func fd, _⟩ => (match fd.code with
    | .ref c => c
    | _ => 0)
  | _ => 0
def isRefB (v : Value) (c : Addr) : Bool := match v with
  | .ref c' => c' == c
  | _ => false
def hasCodeB (K : PySem.W.Frag) (x : Str) (c : Addr) : Bool := match K.lookup (He.ga K x) with
  | some ⟨_, _, .func fd, _⟩ => isRefB fd.code c
  | _ => false
def tabOf (K : PySem.W.Frag) (c : Addr) : Addr := match K.lookup c with
  | some ⟨_, _, .fields vs, _⟩ => (match (vs[11]? : Option Value) with
    | some (.ref P) => P
    | _ => 0)
  | _ => 0
def isTab (K : PySem.W.Frag) (P : Addr) : Bool := match K.lookup P with
  | some ⟨.none, none, .fields vs, sl⟩ => vs.isEmpty && sl.isEmpty
  | _ => false
theorem isTab_ok {K : PySem.W.Frag} {P : Addr} (h : isTab K P = true) : K.lookup P = some { cls := .none, data := .fields #[] } := by
  unfold isTab at h
  split at h
  · rename_i vs sl e
    obtain ⟨h1, h2⟩ := Bool.and_eq_true_iff.mp h
    have e1 : vs = #[] := by simpa using h1
    have e2 : sl = #[] := by simpa using h2
    subst e1 e2
    exact e
  · cases h
def dropA (K : PySem.W.Frag) (P : Addr) : PySem.W.Frag := K.filter fun q => !(q.1 == P)
theorem drop_look {P : Addr} : ∀ {K : PySem.W.Frag} {a : Addr}, (dropA K P).lookup a = if a = P then none else K.lookup a
  | [], a => by
    show (none : Option Obj) = _
    split <;> rfl
  | (b, o) :: K, a => by
    have ih := drop_look (P := P) (K := K) (a := a)
    unfold dropA at ih ⊢
    rw [List.filter_cons]
    by_cases hb : b = P
    · subst hb
      have z : (!((b, o).1 == b)) = false := by simp
      rw [if_neg (by rw [z]; decide), ih]
      by_cases ha : a = b
      · rw [if_pos ha, if_pos ha]
      · rw [if_neg ha, if_neg ha]
        have n : (a == b) = false := by simpa using ha
        show _ = (match a == b with | true => some o | false => K.lookup a)
        rw [n]
    · have z : (!((b, o).1 == P)) = true := by simpa using hb
      rw [if_pos z]
      show (match a == b with | true => some o | false => (List.filter (fun q : Addr × Obj => !(q.1 == P)) K).lookup a) = _
      by_cases hab : a = b
      · subst hab
        rw [if_neg hb]
        show _ = (match a == a with | true => some o | false => K.lookup a)
        rw [beq_self_eq_true]
      · have n : (a == b) = false := by simpa using hab
        rw [n]
        show (List.filter (fun q : Addr × Obj => !(q.1 == P)) K).lookup a = _
        rw [ih]
        show _ = if a = P then none else (match a == b with | true => some o | false => K.lookup a)
        rw [n]
theorem drop_in {K : PySem.W.Frag} {P : Addr} {h : Heap} (X : K.In h) : (dropA K P).In h := fun a o e => by
  rw [drop_look] at e
  split at e
  · cases e
  · exact X a o e
abbrev AlL : Type := Bool × Al1
def obsL (F : SpecL) (K0 : PySem.W.Frag) : AlL :=
  (isTab K0 (tabOf K0 (codeOf K0 F.law)) && (codeHdIn (dropA K0 (tabOf K0 (codeOf K0 F.law))) (codeOf K0 F.law) (tabOf K0 (codeOf K0 F.law)) && (hasCodeB (dropA K0 (tabOf K0 (codeOf K0 F.law))) F.law (codeOf K0 F.law) &&
    F.more.all fun f => f (dropA K0 (tabOf K0 (codeOf K0 F.law))))), obsK F.base (dropA K0 (tabOf K0 (codeOf K0 F.law))))
def valL (F : SpecL) (p : Program) (w : World) : AlL := (true, valK F.base p w)
def saysL (F : SpecL) (p : Program) (w : World) (h : Heap) : Prop := ∃ (K : PySem.W.Frag) (c P : Addr), K.In h ∧ obsK F.base K = valK F.base p w ∧ codeHdIn K c P = true ∧ K.lookup P = none ∧ h.get? P = some { cls := .none, data := .fields #[] } ∧ hasCodeB K F.law c = true ∧ (F.more.all fun f => f K) = true
theorem saysL_of {F : SpecL} {p : Program} {w : World} {h : Heap} {K0 : PySem.W.Frag} (X : K0.In h) (e : obsL F K0 = valL F p w) : saysL F p w h := by
  have e1 : (isTab K0 (tabOf K0 (codeOf K0 F.law)) && (codeHdIn (dropA K0 (tabOf K0 (codeOf K0 F.law))) (codeOf K0 F.law) (tabOf K0 (codeOf K0 F.law)) && (hasCodeB (dropA K0 (tabOf K0 (codeOf K0 F.law))) F.law (codeOf K0 F.law) &&
    F.more.all fun f => f (dropA K0 (tabOf K0 (codeOf K0 F.law)))))) = true := congrArg (fun z : AlL => z.1) e
  have e2 : obsK F.base (dropA K0 (tabOf K0 (codeOf K0 F.law))) = valK F.base p w := congrArg (fun z : AlL => z.2) e
  obtain ⟨a1, e1⟩ := Bool.and_eq_true_iff.mp e1
  obtain ⟨a2, e1⟩ := Bool.and_eq_true_iff.mp e1
  obtain ⟨a3, a4⟩ := Bool.and_eq_true_iff.mp e1
  exact ⟨_, codeOf K0 F.law, tabOf K0 (codeOf K0 F.law), drop_in X, e2, a2, by rw [drop_look, if_pos rfl], X _ _ (isTab_ok a1), a3, a4⟩
def hookL (F : SpecL) (p : Program) (n0 : Nat) : Hook where
  α := AlL
  obs := fun s => obsL F (He.frG s.heap.get? (addrs n0 s.heap.objs.size))
  val := fun w => valL F p w
  says := fun w h => saysL F p w h
  of := fun _ _ e => saysL_of He.frG_in e
  keeps := fun _ _ _ ⟨K, c, P, hK, r1, r2, r3, r4, r5⟩ k => ⟨K, c, P, PySem.W.Frag.In.keeps hK k, r1, r2, r3, k _ _ r4, r5⟩
def obTL (F : SpecL) (n0 : Nat) (s : SharedT) : AlL := obsL F (He.frG (getT s) (addrs n0 s.n))
theorem obTL_eq {F : SpecL} {p : Program} {n0 : Nat} (s : SharedT) : obTL F n0 s = (hookL F p n0).obs s.abs := by
  have e : getT s = s.abs.heap.get? := funext (getT_eq s)
  have e2 : s.abs.heap.objs.size = s.n := absHeap_size s.tree s.n s.life
  show obsL F (He.frG (getT s) (addrs n0 s.n)) = obsL F (He.frG s.abs.heap.get? (addrs n0 s.abs.heap.objs.size))
  rw [e, e2]
def MainL (r : OpenRow) (q : Program) (loose : List Str) (F : SpecL) (n0 N : Nat) (l1 l2 : List Stmt) (tg : PySem.Expr) (keys : List (Option PySem.Expr)) (values : List PySem.Expr) (pos2 : Pos) (w : World) : Prop :=
  ∀ os pX, (fromBoot w os fun s0 => (full (denQ tabQ) r.prog w (tk r.prog w).hash (partsBy rdQ r.prog l1 l2 tg keys values pos2) N s0 pX).map fun x =>
      (x.2.2, looksF r.prog (boot_heap w.params) x.1.abs, seenQ q loose (importedModules r.prog.main.body) (fun s => xlAt q [] s && recOk r.toRowW.records s) x.1.abs, obTL F n0 x.1, x.1.life, x.1.os, keptL n0 (getT x.1))) =
    some (true, true, openGood q loose, valL F r.prog w, (boot_heap w.params).life, os, keptL n0 (boot_heap w.params).get?)
theorem behind_runL {r : OpenRow} {q : Program} {loose : List Str} {F : SpecL} {n0 N : Nat} {l1 l2 : List Stmt} {tg : PySem.Expr} {keys : List (Option PySem.Expr)} {values : List PySem.Expr} {pos pos2 : Pos} {w : World} (Rs : (boot_heap w.params).objs.size = n0) (Rm : MainL r q loose F n0 N l1 l2 tg keys values pos2 w) (Rd : DictP r N l1 l2 tg keys values pos2 w)
    (ok : PartsOk r.prog (partsBy rd0 r.prog l1 l2 tg keys values pos2) l1 l2 tg keys values pos pos2) (e : opening r.prog = plainProg r.prog.main.scope.names) (f : ∀ s, fenceModules? r.prog s = some s) (hch : chainsOk q = true) :
    (∃ s, AfterRun (opening r.prog) w s) ∧ ∀ s, AfterRun (opening r.prog) w s → ∃ s0, fenceModules? r.prog s = some s0 ∧ s0.gens = #[] ∧ ∃ s1, TopRan r.prog w s0 s1 ∧ s1.asleep ∧ s1.gens = #[] ∧ s1.heap.isNs mainGlobals = true ∧
      Ground q loose [] (fun m h => XL q [] m h ∧ RecFacts r.toRowW.records h) w s1 (s1.heap.nsMap mainGlobals) (s1.heap.nsMap builtinsNs) s1.heap ∧ (hookL F r.prog n0).says w s1.heap := by
  refine behind_of (Xt := fun s => xlAt q [] s && recOk r.toRowW.records s) e f (fun s z => ?_) hch fun os => ?_
  · obtain ⟨z1, z2⟩ := Bool.and_eq_true_iff.mp z
    exact ⟨xl_of s z1, recFacts_of z2⟩
  · obtain ⟨s0, hs, _, _, all⟩ := fromBoot_ok (Rm os default)
    rw [← hs]
    refine top_wp (N := N) ok (body_in _ _) (by show 1000 < cLine; decide) fun pX => ?_
    have a := Rm os pX
    have b := Rd os pX
    rw [all] at a b
    rw [all] at b
    rw [full_eq]
    obtain ⟨x, hx, hv⟩ := Option.map_eq_some_iff.mp a
    obtain ⟨s7, ob, bb⟩ := x
    rw [hx] at b
    have b' := pairs_eq (Option.some.inj b)
    simp only [Prod.mk.injEq] at hv
    obtain ⟨rfl, v2, v3, v4, v5, v6, v7⟩ := hv
    refine ⟨s7, ob, hx, b', ⟨v2, by rw [seenQ_eq]; exact v3, ?_, v5, v6, fun bd o h1 h2 _ hb => ?_⟩⟩
    · rw [← obTL_eq]
      exact v4
    · have lt : bd < n0 := by
        rw [← Rs]
        exact Heap.lt_size hb
      have k := kept_ok v7 lt h1 h2
      rw [getT_eq, hb] at k
      exact k
theorem code_is {K : PySem.W.Frag} {x : Str} {c : Addr} {oc : Value} {od : Option Addr} {a1 a2 : Str} {a3 : Arguments} {a4 : List Stmt} {a5 : Scope} {kV doc pm cdv ct dV : Value} {an : Option Addr} {osl : Array (Option Value)} (l : K.lookup (He.ga K x) = some ⟨oc, od, .func (PySem.W.fnOf a1 a2 a3 a4 a5 dV kV doc pm an cdv ct), osl⟩) (h : hasCodeB K x c = true) : cdv = .ref c := by
  unfold hasCodeB at h
  rw [l] at h
  replace h : isRefB cdv c = true := h
  unfold isRefB at h
  split at h
  · rw [beq_iff_eq.mp h]
  · cases h
theorem glo_ns {K : PySem.W.Frag} {x : Str} (h : (Fc.fn x).ok K = true) : PySem.W.nsIn K mainGlobals x = some (some (.ref (He.ga K x))) := He.eqO_ok (Bool.and_eq_true_iff.mp (show ((He.Fa.glo x).ok K && ((He.Fa.keep x).ok K && (He.Fa.code (x, none) x).ok K)) = true from h)).1
end HM
namespace K05
open PySem PySem.Spec PyProof.Rows L2 DL
abbrev topS (j : Nat) : Stmt := PySem.Challenge.pw_queryheld_k04_whole_filters.main.body.getD j (.Pass ⟨0, 0, 0, 0⟩)
def c_WORDS : D := (.tuple [(.tuple [(.str "bag"), (.str "set")]), (.tuple [(.str "maximum"), (.str "sum")]), (.tuple [(.str "count"), (.str "kind")]), (.tuple [(.str "none"), (.str "unknown"), (.str "value")]), (.tuple [(.str "null"), (.str "zero")])])
def c_NULLS : D := (.int 3)
def c_GREATEST_VALUE : D := (.int 9)
def c_ROW_LENGTH : D := (.int 2)
def c_CONNECTIVES : D := (.tuple [(.str "not"), (.str "and"), (.str "or")])
def c_MOST_TUPLES : D := (.int 20)
def k_GREATEST : KTab := [("column", (.int 1)), ("number", (.int 9)), ("place", (.int 1))]
def t_FORMS : KTab3 := [(["filter", "less"], (.tuple [(.str "column"), (.str "number")])), (["filter", "equal"], (.tuple [(.str "column"), (.str "number")])), (["filter", "same"], (.tuple [])), (["filter", "null"], (.tuple [(.str "column")])), (["filter", "not"], (.tuple [(.str "filter")])), (["filter", "and"], (.tuple [(.str "filter"), (.str "filter")])), (["filter", "or"], (.tuple [(.str "filter"), (.str "filter")])), (["condition", "p"], (.tuple [])), (["condition", "q"], (.tuple [])), (["condition", "not"], (.tuple [(.str "condition")])), (["condition", "and"], (.tuple [(.str "condition"), (.str "condition")])), (["condition", "or"], (.tuple [(.str "condition"), (.str "condition")])), (["expression", "table"], (.tuple [(.str "place")])), (["expression", "union"], (.tuple [(.str "expression"), (.str "expression")])), (["expression", "intersection"], (.tuple [(.str "expression"), (.str "expression")])), (["expression", "difference"], (.tuple [(.str "expression"), (.str "expression")])), (["expression", "filter"], (.tuple [(.str "condition"), (.str "expression")]))]
structure Tp (G : Gm) : Prop where
  b_all : Mg0 G "all"
  b_bool : Mg0 G "bool"
  b_int : Mg0 G "int"
  b_isinstance : Mg0 G "isinstance"
  b_len : Mg0 G "len"
  b_list : Mg0 G "list"
  b_range : Mg0 G "range"
  b_str : Mg0 G "str"
  b_tuple : Mg0 G "tuple"
  b_zip : Mg0 G "zip"
  c_CONNECTIVES : GlD G "CONNECTIVES" c_CONNECTIVES
  c_GREATEST_VALUE : GlD G "GREATEST_VALUE" c_GREATEST_VALUE
  c_MOST_TUPLES : GlD G "MOST_TUPLES" c_MOST_TUPLES
  c_NULLS : GlD G "NULLS" c_NULLS
  c_ROW_LENGTH : GlD G "ROW_LENGTH" c_ROW_LENGTH
  c_WORDS : GlD G "WORDS" c_WORDS
  k_GREATEST : GlK G "GREATEST" k_GREATEST
  t_FORMS : GlT G "FORMS" t_FORMS
  x_BadFilter : ExcF G "BadFilter"
  x_BadRow : ExcF G "BadRow"
  x_BadSemantics : ExcF G "BadSemantics"
abbrev st_is_semantics : Stmt := topS 10
abbrev N_is_semantics : List Str := ["value", "part", "words"]
abbrev P_is_semantics : List Str := ["value"]
theorem sc_is_semantics : FnScope N_is_semantics P_is_semantics (defScope st_is_semantics) := ⟨rfl, rfl, rfl, by decide +kernel, rfl, by decide +kernel, by decide +kernel⟩
def d_is_semantics  : Ev → Ms :=
    seqM (pIf (dOr (dNot (dTru (dIsi [.tuple] (dVar 0)))) (dCmp neD (dFn lenD (dCons (dVar 0) (dNil))) (dFn lenD (dCons (dLit c_WORDS) (dNil))))) (pRet (dLit (.bool false))) (sNil))
    (pRet (dFn allD (dCons (dComp [1, 2] (dRng zipD (dCons (dVar 0) (dCons (dLit c_WORDS) (dNil)))) (.tup [1, 2]) (dYes) (dCmpE inD (dVar 1) (dVar 2))) (dNil))))
theorem s_is_semantics {G : Gm} {k : Nat} (B : Tp G)  (hk : 1 ≤ k) : SB G k ⟨defScope st_is_semantics, fun _ => true⟩ N_is_semantics (defBody st_is_semantics) (d_is_semantics) :=
    s_cons (P_if (t_w (w_or (t_not (t_val (e_isi1 .tuple (e_var 0) PyProof.Rows.boot_tuple B.b_isinstance B.b_tuple))) (w_or1 (T_cmp c_ne (e_len (a_cons (e_var 0) (a_nil)) B.b_len) (e_len (a_cons (e_glob B.c_WORDS) (a_nil)) B.b_len))))) (s_one (P_ret (e_bl))) (s_nil))
    (s_one (P_ret (e_all (a_cons (e_lc [("part", 1), ("words", 2)] (i_zip (a_cons (e_var 0) (a_cons (e_glob B.c_WORDS) (a_nil))) B.b_zip) (g_tup [1, 2] (.cons (by rfl) (by rfl) (.cons (by rfl) (by rfl) (.nil)))) (p_nil) (E_cmp (c_in hk) (e_var 1) (e_var 2))) (a_nil)) B.b_all)))
abbrev st_check_semantics : Stmt := topS 11
abbrev N_check_semantics : List Str := ["value"]
abbrev P_check_semantics : List Str := ["value"]
theorem sc_check_semantics : FnScope N_check_semantics P_check_semantics (defScope st_check_semantics) := ⟨rfl, rfl, rfl, by decide +kernel, rfl, by decide +kernel, by decide +kernel⟩
def d_check_semantics (f_is_semantics : List Slot → Mn D) : Ev → Ms :=
    pIf (dNot (dTru (dCl 1 f_is_semantics (dCons (dVar 0) (dNil))))) (sRaise "BadSemantics") (sNil)
theorem s_check_semantics {G : Gm} {k : Nat} (B : Tp G) {j_is_semantics : Nat} {f_is_semantics : List Slot → Mn D} (F_is_semantics : FO G j_is_semantics "is_semantics" 1 f_is_semantics) (h_is_semantics : j_is_semantics ≤ k) : SB G k ⟨defScope st_check_semantics, fun _ => true⟩ N_check_semantics (defBody st_check_semantics) (d_check_semantics f_is_semantics) :=
    s_one (P_if (t_not (t_val (e_call F_is_semantics (a_cons (e_var 0) (a_nil)) h_is_semantics))) (s_one (s_raise B.x_BadSemantics)) (s_nil))
abbrev st_is_integer_to : Stmt := topS 12
abbrev N_is_integer_to : List Str := ["value", "greatest"]
abbrev P_is_integer_to : List Str := ["value", "greatest"]
theorem sc_is_integer_to : FnScope N_is_integer_to P_is_integer_to (defScope st_is_integer_to) := ⟨rfl, rfl, rfl, by decide +kernel, rfl, by decide +kernel, by decide +kernel⟩
def d_is_integer_to  : Ev → Ms :=
    seqM (pIf (dOr (dNot (dTru (dIsi [.int] (dVar 0)))) (dTru (dIsi [.bool] (dVar 0)))) (pRet (dLit (.bool false))) (sNil))
    (pRet (dChain leD leD (dLit (.int 0)) (dVar 0) (dVar 1)))
theorem s_is_integer_to {G : Gm} {k : Nat} (B : Tp G)  : SB G k ⟨defScope st_is_integer_to, fun _ => true⟩ N_is_integer_to (defBody st_is_integer_to) (d_is_integer_to) :=
    s_cons (P_if (t_w (w_or (t_not (t_val (e_isi1 .int (e_var 0) PyProof.Rows.boot_int B.b_isinstance B.b_int))) (w_or1 (t_val (e_isi1 .bool (e_var 0) PyProof.Rows.boot_bool B.b_isinstance B.b_bool))))) (s_one (P_ret (e_bl))) (s_nil))
    (s_one (P_ret (e_chain c_le c_le (e_int) (e_var 0) (e_var 1))))
abbrev st_is_row : Stmt := topS 13
abbrev N_is_row : List Str := ["semantics", "value", "part"]
abbrev P_is_row : List Str := ["semantics", "value"]
theorem sc_is_row : FnScope N_is_row P_is_row (defScope st_is_row) := ⟨rfl, rfl, rfl, by decide +kernel, rfl, by decide +kernel, by decide +kernel⟩
def d_is_row (f__is_value_under : List Slot → Mn D) : Ev → Ms :=
    seqM (pIf (dOr (dNot (dTru (dIsi [.tuple] (dVar 1)))) (dCmp neD (dFn lenD (dCons (dVar 1) (dNil))) (dLit c_ROW_LENGTH))) (pRet (dLit (.bool false))) (sNil))
    (pRet (dFn allD (dCons (dComp [2] (dItm (dVar 1)) (.name 2) (dYes) (dCl 2 f__is_value_under (dCons (dVar 0) (dCons (dVar 2) (dNil))))) (dNil))))
theorem s_is_row {G : Gm} {k : Nat} (B : Tp G) {j__is_value_under : Nat} {f__is_value_under : List Slot → Mn D} (F__is_value_under : FO G j__is_value_under "_is_value_under" 2 f__is_value_under) (h__is_value_under : j__is_value_under ≤ k) : SB G k ⟨defScope st_is_row, fun _ => true⟩ N_is_row (defBody st_is_row) (d_is_row f__is_value_under) :=
    s_cons (P_if (t_w (w_or (t_not (t_val (e_isi1 .tuple (e_var 1) PyProof.Rows.boot_tuple B.b_isinstance B.b_tuple))) (w_or1 (T_cmp c_ne (e_len (a_cons (e_var 1) (a_nil)) B.b_len) (e_glob B.c_ROW_LENGTH))))) (s_one (P_ret (e_bl))) (s_nil))
    (s_one (P_ret (e_all (a_cons (e_lc [("part", 2)] (i_seq (e_var 1)) (g_name 2) (p_nil) (e_call F__is_value_under (a_cons (e_var 0) (a_cons (e_var 2) (a_nil))) h__is_value_under)) (a_nil)) B.b_all)))
abbrev st__is_value_under : Stmt := topS 14
abbrev N__is_value_under : List Str := ["semantics", "value"]
abbrev P__is_value_under : List Str := ["semantics", "value"]
theorem sc__is_value_under : FnScope N__is_value_under P__is_value_under (defScope st__is_value_under) := ⟨rfl, rfl, rfl, by decide +kernel, rfl, by decide +kernel, by decide +kernel⟩
def d__is_value_under (f_is_integer_to : List Slot → Mn D) : Ev → Ms :=
    seqM (pIf (dCmp isD (dVar 1) (dLit .none)) (pRet (dCmpE neD (dBin ixD (dVar 0) (dLit c_NULLS)) (dLit (.str "none")))) (sNil))
    (pRet (dCl 2 f_is_integer_to (dCons (dVar 1) (dCons (dLit c_GREATEST_VALUE) (dNil)))))
theorem s__is_value_under {G : Gm} {k : Nat} (B : Tp G) {j_is_integer_to : Nat} {f_is_integer_to : List Slot → Mn D} (F_is_integer_to : FO G j_is_integer_to "is_integer_to" 2 f_is_integer_to) (h_is_integer_to : j_is_integer_to ≤ k) : SB G k ⟨defScope st__is_value_under, fun _ => true⟩ N__is_value_under (defBody st__is_value_under) (d__is_value_under f_is_integer_to) :=
    s_cons (P_if (T_cmp c_is (e_var 1) (e_non)) (s_one (P_ret (E_cmp c_ne (E_ix (e_var 0) (e_glob B.c_NULLS)) (e_str)))) (s_nil))
    (s_one (P_ret (e_call F_is_integer_to (a_cons (e_var 1) (a_cons (e_glob B.c_GREATEST_VALUE) (a_nil))) h_is_integer_to)))
abbrev st_value_order : Stmt := topS 15
abbrev N_value_order : List Str := ["value"]
abbrev P_value_order : List Str := ["value"]
theorem sc_value_order : FnScope N_value_order P_value_order (defScope st_value_order) := ⟨rfl, rfl, rfl, by decide +kernel, rfl, by decide +kernel, by decide +kernel⟩
def d_value_order  : Ev → Ms :=
    pRet (dIf (dCmp isD (dVar 0) (dLit .none)) (dUn negD (dLit (.int 1))) (dVar 0))
theorem s_value_order {G : Gm} {k : Nat}  : SB G k ⟨defScope st_value_order, fun _ => true⟩ N_value_order (defBody st_value_order) (d_value_order) :=
    s_one (P_ret (e_if (T_cmp c_is (e_var 0) (e_non)) (E_neg (e_int)) (e_var 0)))
abbrev st_tuples_of : Stmt := topS 19
abbrev N_tuples_of : List Str := ["value", "kind", "most", "waiting", "found", "part", "part_kind"]
abbrev P_tuples_of : List Str := ["value", "kind", "most"]
theorem sc_tuples_of : FnScope N_tuples_of P_tuples_of (defScope st_tuples_of) := ⟨rfl, rfl, rfl, by decide +kernel, rfl, by decide +kernel, by decide +kernel⟩
def d_tuples_of (f__has_form : List Slot → Mn D) (f__inner_tuples : List Slot → Mn D) : Ev → Ms :=
    seqM (sOwn 3 (dCons (dTup (dCons (dVar 0) (dCons (dVar 1) (dNil)))) (dNil)))
    (seqM (sOwn 4 (dNil))
    (seqM (whileN (dTru (dVar 3)) (seqM (sPopT (.tup [5, 6]) 3)
    (seqM (sIf (dOr (dCmp eqD (dFn lenD (dCons (dVar 4) (dNil))) (dVar 2)) (dNot (dTru (dCl 2 f__has_form (dCons (dVar 5) (dCons (dVar 6) (dNil))))))) (sRet (dLit .none)) (sNil))
    (seqM (sApp 4 (dVar 5))
    (sExt 3 (dCl 2 f__inner_tuples (dCons (dVar 5) (dCons (dVar 6) (dNil)))))))) 64)
    (sRet (dVar 4))))
theorem s_tuples_of {G : Gm} {k : Nat} (B : Tp G) {j__has_form : Nat} {f__has_form : List Slot → Mn D} (F__has_form : FO G j__has_form "_has_form" 2 f__has_form) (h__has_form : j__has_form ≤ k) {j__inner_tuples : Nat} {f__inner_tuples : List Slot → Mn D} (F__inner_tuples : FO G j__inner_tuples "_inner_tuples" 2 f__inner_tuples) (h__inner_tuples : j__inner_tuples ≤ k) : SB G k ⟨defScope st_tuples_of, fun _ => true⟩ N_tuples_of (defBody st_tuples_of) (d_tuples_of f__has_form f__inner_tuples) :=
    s_cons (s_own 3 (a_cons (e_tup (a_cons (e_var 0) (a_cons (e_var 1) (a_nil)))) (a_nil)))
    (s_cons (s_own 4 (a_nil))
    (s_cons (s_while 64 (t_val (e_var 3)) (s_cons (s_popT (.tup [5, 6]) 3 (g_tup [5, 6] (.cons (by rfl) (by rfl) (.cons (by rfl) (by rfl) (.nil)))))
    (s_cons (s_if (t_w (w_or (T_cmp c_eq (e_len (a_cons (e_var 4) (a_nil)) B.b_len) (e_var 2)) (w_or1 (t_not (t_val (e_call F__has_form (a_cons (e_var 5) (a_cons (e_var 6) (a_nil))) h__has_form)))))) (s_one (s_ret (e_non))) (s_nil))
    (s_cons (s_app 4 (e_var 5))
    (s_one (s_ext 3 (e_call F__inner_tuples (a_cons (e_var 5) (a_cons (e_var 6) (a_nil))) h__inner_tuples)))))))
    (s_one (s_ret (e_var 4)))))
abbrev st__has_form : Stmt := topS 20
abbrev N__has_form : List Str := ["value", "kind", "kinds", "part", "part_kind"]
abbrev P__has_form : List Str := ["value", "kind"]
theorem sc__has_form : FnScope N__has_form P__has_form (defScope st__has_form) := ⟨rfl, rfl, rfl, by decide +kernel, rfl, by decide +kernel, by decide +kernel⟩
def d__has_form (f__fits : List Slot → Mn D) : Ev → Ms :=
    seqM (pIf (dOr (dNot (dTru (dIsi [.tuple] (dVar 0)))) (dCmp eqD (dFn lenD (dCons (dVar 0) (dNil))) (dLit (.int 0)))) (pRet (dLit (.bool false))) (sNil))
    (seqM (pIf (dOr (dNot (dTru (dIsi [.str] (dBin ixD (dVar 0) (dLit (.int 0)))))) (dTnin t_FORMS (dTup (dCons (dVar 1) (dCons (dBin ixD (dVar 0) (dLit (.int 0))) (dNil)))))) (pRet (dLit (.bool false))) (sNil))
    (seqM (pSet 2 (dTget t_FORMS (dTup (dCons (dVar 1) (dCons (dBin ixD (dVar 0) (dLit (.int 0))) (dNil))))))
    (seqM (pIf (dCmp neD (dFn lenD (dCons (dVar 0) (dNil))) (dBin addD (dLit (.int 1)) (dFn lenD (dCons (dVar 2) (dNil))))) (pRet (dLit (.bool false))) (sNil))
    (pRet (dFn allD (dCons (dComp [3, 4] (dRng zipD (dCons (dBin slLo (dVar 0) (dLit (.int 1))) (dCons (dVar 2) (dNil)))) (.tup [3, 4]) (dYes) (dCl 2 f__fits (dCons (dVar 3) (dCons (dVar 4) (dNil))))) (dNil)))))))
theorem s__has_form {G : Gm} {k : Nat} (B : Tp G) {j__fits : Nat} {f__fits : List Slot → Mn D} (F__fits : FO G j__fits "_fits" 2 f__fits) (h__fits : j__fits ≤ k) : SB G k ⟨defScope st__has_form, fun _ => true⟩ N__has_form (defBody st__has_form) (d__has_form f__fits) :=
    s_cons (P_if (t_w (w_or (t_not (t_val (e_isi1 .tuple (e_var 0) PyProof.Rows.boot_tuple B.b_isinstance B.b_tuple))) (w_or1 (T_cmp c_eq (e_len (a_cons (e_var 0) (a_nil)) B.b_len) (e_int))))) (s_one (P_ret (e_bl))) (s_nil))
    (s_cons (P_if (t_w (w_or (t_not (t_val (e_isi1 .str (E_ix (e_var 0) (e_int)) PyProof.Rows.boot_str B.b_isinstance B.b_str))) (w_or1 (T_tnin B.t_FORMS (e_tup (a_cons (e_var 1) (a_cons (E_ix (e_var 0) (e_int)) (a_nil)))))))) (s_one (P_ret (e_bl))) (s_nil))
    (s_cons (P_set 2 (E_tget B.t_FORMS (e_tup (a_cons (e_var 1) (a_cons (E_ix (e_var 0) (e_int)) (a_nil))))))
    (s_cons (P_if (T_cmp c_ne (e_len (a_cons (e_var 0) (a_nil)) B.b_len) (E_add (e_int) (e_len (a_cons (e_var 2) (a_nil)) B.b_len))) (s_one (P_ret (e_bl))) (s_nil))
    (s_one (P_ret (e_all (a_cons (e_lc [("part", 3), ("part_kind", 4)] (i_zip (a_cons (E_slLo (e_var 0) (e_int)) (a_cons (e_var 2) (a_nil))) B.b_zip) (g_tup [3, 4] (.cons (by rfl) (by rfl) (.cons (by rfl) (by rfl) (.nil)))) (p_nil) (e_call F__fits (a_cons (e_var 3) (a_cons (e_var 4) (a_nil))) h__fits)) (a_nil)) B.b_all))))))
abbrev st__fits : Stmt := topS 21
abbrev N__fits : List Str := ["part", "kind"]
abbrev P__fits : List Str := ["part", "kind"]
theorem sc__fits : FnScope N__fits P__fits (defScope st__fits) := ⟨rfl, rfl, rfl, by decide +kernel, rfl, by decide +kernel, by decide +kernel⟩
def d__fits (f_is_integer_to : List Slot → Mn D) : Ev → Ms :=
    seqM (pIf (dKin k_GREATEST (dVar 1)) (pRet (dCl 2 f_is_integer_to (dCons (dVar 0) (dCons (dKget k_GREATEST (dVar 1)) (dNil))))) (sNil))
    (pRet (dLit (.bool true)))
theorem s__fits {G : Gm} {k : Nat} (B : Tp G) {j_is_integer_to : Nat} {f_is_integer_to : List Slot → Mn D} (F_is_integer_to : FO G j_is_integer_to "is_integer_to" 2 f_is_integer_to) (h_is_integer_to : j_is_integer_to ≤ k) : SB G k ⟨defScope st__fits, fun _ => true⟩ N__fits (defBody st__fits) (d__fits f_is_integer_to) :=
    s_cons (P_if (T_kin B.k_GREATEST (e_var 1)) (s_one (P_ret (e_call F_is_integer_to (a_cons (e_var 0) (a_cons (E_kget B.k_GREATEST (e_var 1)) (a_nil))) h_is_integer_to))) (s_nil))
    (s_one (P_ret (e_bl)))
abbrev st__inner_tuples : Stmt := topS 22
abbrev N__inner_tuples : List Str := ["value", "kind", "kinds", "part", "part_kind"]
abbrev P__inner_tuples : List Str := ["value", "kind"]
theorem sc__inner_tuples : FnScope N__inner_tuples P__inner_tuples (defScope st__inner_tuples) := ⟨rfl, rfl, rfl, by decide +kernel, rfl, by decide +kernel, by decide +kernel⟩
def d__inner_tuples  : Ev → Ms :=
    seqM (pSet 2 (dTget t_FORMS (dTup (dCons (dVar 1) (dCons (dBin ixD (dVar 0) (dLit (.int 0))) (dNil))))))
    (pRet (dComp [3, 4] (dRng zipD (dCons (dBin slLo (dVar 0) (dLit (.int 1))) (dCons (dVar 2) (dNil)))) (.tup [3, 4]) (dKnin k_GREATEST (dVar 4)) (dTup (dCons (dVar 3) (dCons (dVar 4) (dNil))))))
theorem s__inner_tuples {G : Gm} {k : Nat} (B : Tp G)  : SB G k ⟨defScope st__inner_tuples, fun _ => true⟩ N__inner_tuples (defBody st__inner_tuples) (d__inner_tuples) :=
    s_cons (P_set 2 (E_tget B.t_FORMS (e_tup (a_cons (e_var 1) (a_cons (E_ix (e_var 0) (e_int)) (a_nil))))))
    (s_one (P_ret (e_lc [("part", 3), ("part_kind", 4)] (i_zip (a_cons (E_slLo (e_var 0) (e_int)) (a_cons (e_var 2) (a_nil))) B.b_zip) (g_tup [3, 4] (.cons (by rfl) (by rfl) (.cons (by rfl) (by rfl) (.nil)))) (p_one (T_knin B.k_GREATEST (e_var 4))) (e_tup (a_cons (e_var 3) (a_cons (e_var 4) (a_nil)))))))
abbrev st_is_filter : Stmt := topS 26
abbrev N_is_filter : List Str := ["value"]
abbrev P_is_filter : List Str := ["value"]
theorem sc_is_filter : FnScope N_is_filter P_is_filter (defScope st_is_filter) := ⟨rfl, rfl, rfl, by decide +kernel, rfl, by decide +kernel, by decide +kernel⟩
def d_is_filter (f_tuples_of : List Slot → Mn D) : Ev → Ms :=
    pRet (dCmpE isnD (dCl 3 f_tuples_of (dCons (dVar 0) (dCons (dLit (.str "filter")) (dCons (dLit c_MOST_TUPLES) (dNil))))) (dLit .none))
theorem s_is_filter {G : Gm} {k : Nat} (B : Tp G) {j_tuples_of : Nat} {f_tuples_of : List Slot → Mn D} (F_tuples_of : FO G j_tuples_of "tuples_of" 3 f_tuples_of) (h_tuples_of : j_tuples_of ≤ k) : SB G k ⟨defScope st_is_filter, fun _ => true⟩ N_is_filter (defBody st_is_filter) (d_is_filter f_tuples_of) :=
    s_one (P_ret (E_cmp c_isn (e_call F_tuples_of (a_cons (e_var 0) (a_cons (e_str) (a_cons (e_glob B.c_MOST_TUPLES) (a_nil)))) h_tuples_of) (e_non)))
abbrev st_check_filter : Stmt := topS 27
abbrev N_check_filter : List Str := ["value"]
abbrev P_check_filter : List Str := ["value"]
theorem sc_check_filter : FnScope N_check_filter P_check_filter (defScope st_check_filter) := ⟨rfl, rfl, rfl, by decide +kernel, rfl, by decide +kernel, by decide +kernel⟩
def d_check_filter (f_is_filter : List Slot → Mn D) : Ev → Ms :=
    pIf (dNot (dTru (dCl 1 f_is_filter (dCons (dVar 0) (dNil))))) (sRaise "BadFilter") (sNil)
theorem s_check_filter {G : Gm} {k : Nat} (B : Tp G) {j_is_filter : Nat} {f_is_filter : List Slot → Mn D} (F_is_filter : FO G j_is_filter "is_filter" 1 f_is_filter) (h_is_filter : j_is_filter ≤ k) : SB G k ⟨defScope st_check_filter, fun _ => true⟩ N_check_filter (defBody st_check_filter) (d_check_filter f_is_filter) :=
    s_one (P_if (t_not (t_val (e_call F_is_filter (a_cons (e_var 0) (a_nil)) h_is_filter))) (s_one (s_raise B.x_BadFilter)) (s_nil))
abbrev st_truth : Stmt := topS 28
abbrev N_truth : List Str := ["semantics", "filter_", "row"]
abbrev P_truth : List Str := ["semantics", "filter_", "row"]
theorem sc_truth : FnScope N_truth P_truth (defScope st_truth) := ⟨rfl, rfl, rfl, by decide +kernel, rfl, by decide +kernel, by decide +kernel⟩
def d_truth (f_check_semantics : List Slot → Mn D) (f_check_filter : List Slot → Mn D) (f_is_row : List Slot → Mn D) (f_truth_of : List Slot → Mn D) : Ev → Ms :=
    seqM (pDrop (dCl 1 f_check_semantics (dCons (dVar 0) (dNil))))
    (seqM (pDrop (dCl 1 f_check_filter (dCons (dVar 1) (dNil))))
    (seqM (pIf (dNot (dTru (dCl 2 f_is_row (dCons (dVar 0) (dCons (dVar 2) (dNil)))))) (sRaise "BadRow") (sNil))
    (pRet (dCl 3 f_truth_of (dCons (dVar 0) (dCons (dVar 1) (dCons (dVar 2) (dNil))))))))
theorem s_truth {G : Gm} {k : Nat} (B : Tp G) {j_check_semantics : Nat} {f_check_semantics : List Slot → Mn D} (F_check_semantics : FO G j_check_semantics "check_semantics" 1 f_check_semantics) (h_check_semantics : j_check_semantics ≤ k) {j_check_filter : Nat} {f_check_filter : List Slot → Mn D} (F_check_filter : FO G j_check_filter "check_filter" 1 f_check_filter) (h_check_filter : j_check_filter ≤ k) {j_is_row : Nat} {f_is_row : List Slot → Mn D} (F_is_row : FO G j_is_row "is_row" 2 f_is_row) (h_is_row : j_is_row ≤ k) {j_truth_of : Nat} {f_truth_of : List Slot → Mn D} (F_truth_of : FO G j_truth_of "truth_of" 3 f_truth_of) (h_truth_of : j_truth_of ≤ k) : SB G k ⟨defScope st_truth, fun _ => true⟩ N_truth (defBody st_truth) (d_truth f_check_semantics f_check_filter f_is_row f_truth_of) :=
    s_cons (P_expr (e_call F_check_semantics (a_cons (e_var 0) (a_nil)) h_check_semantics))
    (s_cons (P_expr (e_call F_check_filter (a_cons (e_var 1) (a_nil)) h_check_filter))
    (s_cons (P_if (t_not (t_val (e_call F_is_row (a_cons (e_var 0) (a_cons (e_var 2) (a_nil))) h_is_row))) (s_one (s_raise B.x_BadRow)) (s_nil))
    (s_one (P_ret (e_call F_truth_of (a_cons (e_var 0) (a_cons (e_var 1) (a_cons (e_var 2) (a_nil)))) h_truth_of)))))
abbrev st_truth_of : Stmt := topS 29
abbrev N_truth_of : List Str := ["semantics", "filter_", "row", "word", "part"]
abbrev P_truth_of : List Str := ["semantics", "filter_", "row"]
theorem sc_truth_of : FnScope N_truth_of P_truth_of (defScope st_truth_of) := ⟨rfl, rfl, rfl, by decide +kernel, rfl, by decide +kernel, by decide +kernel⟩
def d_truth_of (f_connected : List Slot → Mn D) (f_truth_of : List Slot → Mn D) (f__comparison : List Slot → Mn D) : Ev → Ms :=
    seqM (pSet 3 (dBin ixD (dVar 1) (dLit (.int 0))))
    (seqM (pIf (dCmp inD (dVar 3) (dLit c_CONNECTIVES)) (pRet (dCl 2 f_connected (dCons (dVar 3) (dCons (dComp [4] (dItm (dBin slLo (dVar 1) (dLit (.int 1)))) (.name 4) (dYes) (dCl 3 f_truth_of (dCons (dVar 0) (dCons (dVar 4) (dCons (dVar 2) (dNil)))))) (dNil))))) (sNil))
    (seqM (pIf (dCmp eqD (dVar 3) (dLit (.str "null"))) (pRet (dCmpE isD (dBin ixD (dVar 2) (dBin ixD (dVar 1) (dLit (.int 1)))) (dLit .none))) (sNil))
    (seqM (pIf (dCmp eqD (dVar 3) (dLit (.str "same"))) (pRet (dCl 4 f__comparison (dCons (dVar 0) (dCons (dLit (.str "equal")) (dCons (dBin ixD (dVar 2) (dLit (.int 0))) (dCons (dBin ixD (dVar 2) (dLit (.int 1))) (dNil))))))) (sNil))
    (pRet (dCl 4 f__comparison (dCons (dVar 0) (dCons (dVar 3) (dCons (dBin ixD (dVar 2) (dBin ixD (dVar 1) (dLit (.int 1)))) (dCons (dBin ixD (dVar 1) (dLit (.int 2))) (dNil))))))))))
theorem s_truth_of {G : Gm} {k : Nat} (B : Tp G) {j_connected : Nat} {f_connected : List Slot → Mn D} (F_connected : FO G j_connected "connected" 2 f_connected) (h_connected : j_connected ≤ k) {j_truth_of : Nat} {f_truth_of : List Slot → Mn D} (F_truth_of : FO G j_truth_of "truth_of" 3 f_truth_of) (h_truth_of : j_truth_of ≤ k) {j__comparison : Nat} {f__comparison : List Slot → Mn D} (F__comparison : FO G j__comparison "_comparison" 4 f__comparison) (h__comparison : j__comparison ≤ k) (hk : 1 ≤ k) : SB G k ⟨defScope st_truth_of, fun _ => true⟩ N_truth_of (defBody st_truth_of) (d_truth_of f_connected f_truth_of f__comparison) :=
    s_cons (P_set 3 (E_ix (e_var 1) (e_int)))
    (s_cons (P_if (T_cmp (c_in hk) (e_var 3) (e_glob B.c_CONNECTIVES)) (s_one (P_ret (e_call F_connected (a_cons (e_var 3) (a_cons (e_lc [("part", 4)] (i_seq (E_slLo (e_var 1) (e_int))) (g_name 4) (p_nil) (e_call F_truth_of (a_cons (e_var 0) (a_cons (e_var 4) (a_cons (e_var 2) (a_nil)))) h_truth_of)) (a_nil))) h_connected))) (s_nil))
    (s_cons (P_if (T_cmp c_eq (e_var 3) (e_str)) (s_one (P_ret (E_cmp c_is (E_ix (e_var 2) (E_ix (e_var 1) (e_int))) (e_non)))) (s_nil))
    (s_cons (P_if (T_cmp c_eq (e_var 3) (e_str)) (s_one (P_ret (e_call F__comparison (a_cons (e_var 0) (a_cons (e_str) (a_cons (E_ix (e_var 2) (e_int)) (a_cons (E_ix (e_var 2) (e_int)) (a_nil))))) h__comparison))) (s_nil))
    (s_one (P_ret (e_call F__comparison (a_cons (e_var 0) (a_cons (e_var 3) (a_cons (E_ix (e_var 2) (E_ix (e_var 1) (e_int))) (a_cons (E_ix (e_var 1) (e_int)) (a_nil))))) h__comparison))))))
abbrev st__comparison : Stmt := topS 30
abbrev N__comparison : List Str := ["semantics", "word", "one", "other"]
abbrev P__comparison : List Str := ["semantics", "word", "one", "other"]
theorem sc__comparison : FnScope N__comparison P__comparison (defScope st__comparison) := ⟨rfl, rfl, rfl, by decide +kernel, rfl, by decide +kernel, by decide +kernel⟩
def d__comparison (f_value_order : List Slot → Mn D) : Ev → Ms :=
    seqM (pIf (dAnd (dCmp eqD (dBin ixD (dVar 0) (dLit c_NULLS)) (dLit (.str "unknown"))) (dOr (dCmp isD (dVar 2) (dLit .none)) (dCmp isD (dVar 3) (dLit .none)))) (pRet (dLit .none)) (sNil))
    (seqM (pIf (dCmp eqD (dVar 1) (dLit (.str "less"))) (pRet (dCmpE ltD (dCl 1 f_value_order (dCons (dVar 2) (dNil))) (dCl 1 f_value_order (dCons (dVar 3) (dNil))))) (sNil))
    (pRet (dCmpE eqD (dVar 2) (dVar 3))))
theorem s__comparison {G : Gm} {k : Nat} (B : Tp G) {j_value_order : Nat} {f_value_order : List Slot → Mn D} (F_value_order : FO G j_value_order "value_order" 1 f_value_order) (h_value_order : j_value_order ≤ k) : SB G k ⟨defScope st__comparison, fun _ => true⟩ N__comparison (defBody st__comparison) (d__comparison f_value_order) :=
    s_cons (P_if (t_w (w_and (T_cmp c_eq (E_ix (e_var 0) (e_glob B.c_NULLS)) (e_str)) (w_and1 (t_w (w_or (T_cmp c_is (e_var 2) (e_non)) (w_or1 (T_cmp c_is (e_var 3) (e_non)))))))) (s_one (P_ret (e_non))) (s_nil))
    (s_cons (P_if (T_cmp c_eq (e_var 1) (e_str)) (s_one (P_ret (E_cmp c_lt (e_call F_value_order (a_cons (e_var 2) (a_nil)) h_value_order) (e_call F_value_order (a_cons (e_var 3) (a_nil)) h_value_order)))) (s_nil))
    (s_one (P_ret (E_cmp c_eq (e_var 2) (e_var 3)))))
abbrev st_connected : Stmt := topS 31
abbrev N_connected : List Str := ["word", "truths"]
abbrev P_connected : List Str := ["word", "truths"]
theorem sc_connected : FnScope N_connected P_connected (defScope st_connected) := ⟨rfl, rfl, rfl, by decide +kernel, rfl, by decide +kernel, by decide +kernel⟩
def d_connected (f__negation : List Slot → Mn D) (f__conjunction : List Slot → Mn D) (f__disjunction : List Slot → Mn D) : Ev → Ms :=
    seqM (pIf (dCmp eqD (dVar 0) (dLit (.str "not"))) (pRet (dCl 1 f__negation (dCons (dBin ixD (dVar 1) (dLit (.int 0))) (dNil)))) (sNil))
    (seqM (pIf (dCmp eqD (dVar 0) (dLit (.str "and"))) (pRet (dCl 2 f__conjunction (dCons (dBin ixD (dVar 1) (dLit (.int 0))) (dCons (dBin ixD (dVar 1) (dLit (.int 1))) (dNil))))) (sNil))
    (pRet (dCl 2 f__disjunction (dCons (dBin ixD (dVar 1) (dLit (.int 0))) (dCons (dBin ixD (dVar 1) (dLit (.int 1))) (dNil))))))
theorem s_connected {G : Gm} {k : Nat} {j__negation : Nat} {f__negation : List Slot → Mn D} (F__negation : FO G j__negation "_negation" 1 f__negation) (h__negation : j__negation ≤ k) {j__conjunction : Nat} {f__conjunction : List Slot → Mn D} (F__conjunction : FO G j__conjunction "_conjunction" 2 f__conjunction) (h__conjunction : j__conjunction ≤ k) {j__disjunction : Nat} {f__disjunction : List Slot → Mn D} (F__disjunction : FO G j__disjunction "_disjunction" 2 f__disjunction) (h__disjunction : j__disjunction ≤ k) : SB G k ⟨defScope st_connected, fun _ => true⟩ N_connected (defBody st_connected) (d_connected f__negation f__conjunction f__disjunction) :=
    s_cons (P_if (T_cmp c_eq (e_var 0) (e_str)) (s_one (P_ret (e_call F__negation (a_cons (E_ix (e_var 1) (e_int)) (a_nil)) h__negation))) (s_nil))
    (s_cons (P_if (T_cmp c_eq (e_var 0) (e_str)) (s_one (P_ret (e_call F__conjunction (a_cons (E_ix (e_var 1) (e_int)) (a_cons (E_ix (e_var 1) (e_int)) (a_nil))) h__conjunction))) (s_nil))
    (s_one (P_ret (e_call F__disjunction (a_cons (E_ix (e_var 1) (e_int)) (a_cons (E_ix (e_var 1) (e_int)) (a_nil))) h__disjunction))))
abbrev st__negation : Stmt := topS 32
abbrev N__negation : List Str := ["one"]
abbrev P__negation : List Str := ["one"]
theorem sc__negation : FnScope N__negation P__negation (defScope st__negation) := ⟨rfl, rfl, rfl, by decide +kernel, rfl, by decide +kernel, by decide +kernel⟩
def d__negation  : Ev → Ms :=
    pRet (dIf (dCmp isD (dVar 0) (dLit .none)) (dLit .none) (dNotV (dVar 0)))
theorem s__negation {G : Gm} {k : Nat}  : SB G k ⟨defScope st__negation, fun _ => true⟩ N__negation (defBody st__negation) (d__negation) :=
    s_one (P_ret (e_if (T_cmp c_is (e_var 0) (e_non)) (e_non) (e_not (e_var 0))))
abbrev st__conjunction : Stmt := topS 33
abbrev N__conjunction : List Str := ["one", "other"]
abbrev P__conjunction : List Str := ["one", "other"]
theorem sc__conjunction : FnScope N__conjunction P__conjunction (defScope st__conjunction) := ⟨rfl, rfl, rfl, by decide +kernel, rfl, by decide +kernel, by decide +kernel⟩
def d__conjunction  : Ev → Ms :=
    seqM (pIf (dOr (dCmp isD (dVar 0) (dLit (.bool false))) (dCmp isD (dVar 1) (dLit (.bool false)))) (pRet (dLit (.bool false))) (sNil))
    (seqM (pIf (dOr (dCmp isD (dVar 0) (dLit .none)) (dCmp isD (dVar 1) (dLit .none))) (pRet (dLit .none)) (sNil))
    (pRet (dLit (.bool true))))
theorem s__conjunction {G : Gm} {k : Nat}  : SB G k ⟨defScope st__conjunction, fun _ => true⟩ N__conjunction (defBody st__conjunction) (d__conjunction) :=
    s_cons (P_if (t_w (w_or (T_cmp c_is (e_var 0) (e_bl)) (w_or1 (T_cmp c_is (e_var 1) (e_bl))))) (s_one (P_ret (e_bl))) (s_nil))
    (s_cons (P_if (t_w (w_or (T_cmp c_is (e_var 0) (e_non)) (w_or1 (T_cmp c_is (e_var 1) (e_non))))) (s_one (P_ret (e_non))) (s_nil))
    (s_one (P_ret (e_bl))))
abbrev st__disjunction : Stmt := topS 34
abbrev N__disjunction : List Str := ["one", "other"]
abbrev P__disjunction : List Str := ["one", "other"]
theorem sc__disjunction : FnScope N__disjunction P__disjunction (defScope st__disjunction) := ⟨rfl, rfl, rfl, by decide +kernel, rfl, by decide +kernel, by decide +kernel⟩
def d__disjunction  : Ev → Ms :=
    seqM (pIf (dOr (dCmp isD (dVar 0) (dLit (.bool true))) (dCmp isD (dVar 1) (dLit (.bool true)))) (pRet (dLit (.bool true))) (sNil))
    (seqM (pIf (dOr (dCmp isD (dVar 0) (dLit .none)) (dCmp isD (dVar 1) (dLit .none))) (pRet (dLit .none)) (sNil))
    (pRet (dLit (.bool false))))
theorem s__disjunction {G : Gm} {k : Nat}  : SB G k ⟨defScope st__disjunction, fun _ => true⟩ N__disjunction (defBody st__disjunction) (d__disjunction) :=
    s_cons (P_if (t_w (w_or (T_cmp c_is (e_var 0) (e_bl)) (w_or1 (T_cmp c_is (e_var 1) (e_bl))))) (s_one (P_ret (e_bl))) (s_nil))
    (s_cons (P_if (t_w (w_or (T_cmp c_is (e_var 0) (e_non)) (w_or1 (T_cmp c_is (e_var 1) (e_non))))) (s_one (P_ret (e_non))) (s_nil))
    (s_one (P_ret (e_bl))))
abbrev st__law_taken : Stmt := topS 36
abbrev N__law_taken : List Str := ["row", "many", "cell", "found"]
abbrev P__law_taken : List Str := ["row", "many"]
theorem sc__law_taken : FnScope N__law_taken P__law_taken (defScope st__law_taken) := ⟨rfl, rfl, rfl, by decide +kernel, rfl, by decide +kernel, by decide +kernel⟩
abbrev st__law_pick : Stmt := topS 37
abbrev N__law_pick : List Str := ["row", "kinds"]
abbrev P__law_pick : List Str := ["row", "kinds"]
theorem sc__law_pick : FnScope N__law_pick P__law_pick (defScope st__law_pick) := ⟨rfl, rfl, rfl, by decide +kernel, rfl, by decide +kernel, by decide +kernel⟩
def d__law_pick (f__law_taken : List Slot → Mn D) : Ev → Ms :=
    pRet (dBin ixD (dVar 1) (dCl 2 f__law_taken (dRow 0 (dCons (dFn lenD (dCons (dVar 1) (dNil))) (dNil)))))
theorem s__law_pick {G : Gm} {k : Nat} (B : Tp G) {j__law_taken : Nat} {f__law_taken : List Slot → Mn D} (F__law_taken : FO G j__law_taken "_law_taken" 2 f__law_taken) (h__law_taken : j__law_taken ≤ k) : SB G k ⟨defScope st__law_pick, fun _ => true⟩ N__law_pick (defBody st__law_pick) (d__law_pick f__law_taken) :=
    s_one (P_ret (E_ix (e_var 1) (e_call F__law_taken (a_row 0 (a_cons (e_len (a_cons (e_var 1) (a_nil)) B.b_len) (a_nil))) h__law_taken)))
abbrev st__law_alike : Stmt := topS 38
abbrev N__law_alike : List Str := ["found", "due", "k"]
abbrev P__law_alike : List Str := ["found", "due"]
theorem sc__law_alike : FnScope N__law_alike P__law_alike (defScope st__law_alike) := ⟨rfl, rfl, rfl, by decide +kernel, rfl, by decide +kernel, by decide +kernel⟩
def d__law_alike (f__law_alike : List Slot → Mn D) : Ev → Ms :=
    seqM (pIf (dTru (dIsi [.tuple, .list] (dVar 1))) (seqM (pIf (dOr (dNot (dTru (dIsi [.tuple, .list] (dVar 0)))) (dCmp neD (dIsi [.list] (dVar 0)) (dIsi [.list] (dVar 1)))) (pRet (dLit (.bool false))) (sNil))
    (seqM (pIf (dCmp neD (dFn lenD (dCons (dVar 0) (dNil))) (dFn lenD (dCons (dVar 1) (dNil)))) (pRet (dLit (.bool false))) (sNil))
    (pRet (dCmpE eqD (dComp [2] (dRng rng1 (dCons (dFn lenD (dCons (dVar 1) (dNil))) (dNil))) (.name 2) (dNot (dTru (dCl 2 f__law_alike (dCons (dBin ixD (dVar 0) (dVar 2)) (dCons (dBin ixD (dVar 1) (dVar 2)) (dNil)))))) (dVar 2)) (dLst (dNil)))))) (sNil))
    (seqM (pIf (dOr (dCmp isD (dVar 1) (dLit .none)) (dTru (dIsi [.str] (dVar 1)))) (pRet (dAndV (dCmpE eqD (dVar 0) (dVar 1)) (dCmpE eqD (dIsi [.str] (dVar 0)) (dIsi [.str] (dVar 1))))) (sNil))
    (pRet (dAndV (dIsi [.int] (dVar 0)) (dAndV (dCmpE eqD (dIsi [.bool] (dVar 0)) (dIsi [.bool] (dVar 1))) (dCmpE eqD (dVar 0) (dVar 1))))))
theorem s__law_alike {G : Gm} {k : Nat} (B : Tp G) {j__law_alike : Nat} {f__law_alike : List Slot → Mn D} (F__law_alike : FO G j__law_alike "_law_alike" 2 f__law_alike) (h__law_alike : j__law_alike ≤ k) : SB G k ⟨defScope st__law_alike, fun _ => true⟩ N__law_alike (defBody st__law_alike) (d__law_alike f__law_alike) :=
    s_cons (P_if (t_val (e_isi2 .tuple .list (e_var 1) PyProof.Rows.boot_tuple PyProof.Rows.boot_list B.b_isinstance B.b_tuple B.b_list)) (s_cons (P_if (t_w (w_or (t_not (t_val (e_isi2 .tuple .list (e_var 0) PyProof.Rows.boot_tuple PyProof.Rows.boot_list B.b_isinstance B.b_tuple B.b_list))) (w_or1 (T_cmp c_ne (e_isi1 .list (e_var 0) PyProof.Rows.boot_list B.b_isinstance B.b_list) (e_isi1 .list (e_var 1) PyProof.Rows.boot_list B.b_isinstance B.b_list))))) (s_one (P_ret (e_bl))) (s_nil))
    (s_cons (P_if (T_cmp c_ne (e_len (a_cons (e_var 0) (a_nil)) B.b_len) (e_len (a_cons (e_var 1) (a_nil)) B.b_len)) (s_one (P_ret (e_bl))) (s_nil))
    (s_one (P_ret (E_cmp c_eq (e_lc [("k", 2)] (i_range1 (a_cons (e_len (a_cons (e_var 1) (a_nil)) B.b_len) (a_nil)) B.b_range) (g_name 2) (p_one (t_not (t_val (e_call F__law_alike (a_cons (E_ix (e_var 0) (e_var 2)) (a_cons (E_ix (e_var 1) (e_var 2)) (a_nil))) h__law_alike)))) (e_var 2)) (e_lst (a_nil))))))) (s_nil))
    (s_cons (P_if (t_w (w_or (T_cmp c_is (e_var 1) (e_non)) (w_or1 (t_val (e_isi1 .str (e_var 1) PyProof.Rows.boot_str B.b_isinstance B.b_str))))) (s_one (P_ret (e_and (E_cmp c_eq (e_var 0) (e_var 1)) (e_or1 (E_cmp c_eq (e_isi1 .str (e_var 0) PyProof.Rows.boot_str B.b_isinstance B.b_str) (e_isi1 .str (e_var 1) PyProof.Rows.boot_str B.b_isinstance B.b_str)))))) (s_nil))
    (s_one (P_ret (e_and (e_isi1 .int (e_var 0) PyProof.Rows.boot_int B.b_isinstance B.b_int) (e_and (E_cmp c_eq (e_isi1 .bool (e_var 0) PyProof.Rows.boot_bool B.b_isinstance B.b_bool) (e_isi1 .bool (e_var 1) PyProof.Rows.boot_bool B.b_isinstance B.b_bool)) (e_or1 (E_cmp c_eq (e_var 0) (e_var 1))))))))
abbrev st__law_semantics : Stmt := topS 39
abbrev N__law_semantics : List Str := ["row", "first", "second", "third", "fourth"]
abbrev P__law_semantics : List Str := ["row"]
theorem sc__law_semantics : FnScope N__law_semantics P__law_semantics (defScope st__law_semantics) := ⟨rfl, rfl, rfl, by decide +kernel, rfl, by decide +kernel, by decide +kernel⟩
def d__law_semantics (f__law_pick : List Slot → Mn D) : Ev → Ms :=
    seqM (pPar 1 2 (dCons (dCl 2 f__law_pick (dRow 0 (dCons (dLst (dCons (dLit (.str "bag")) (dCons (dLit (.str "bag")) (dCons (dLit (.str "set")) (dNil))))) (dNil)))) (dCons (dCl 2 f__law_pick (dRow 0 (dCons (dLst (dCons (dLit (.str "maximum")) (dCons (dLit (.str "sum")) (dNil)))) (dNil)))) (dNil))))
    (seqM (pPar 3 4 (dCons (dCl 2 f__law_pick (dRow 0 (dCons (dLst (dCons (dLit (.str "count")) (dCons (dLit (.str "kind")) (dNil)))) (dNil)))) (dCons (dCl 2 f__law_pick (dRow 0 (dCons (dLst (dCons (dLit (.str "none")) (dCons (dLit (.str "unknown")) (dCons (dLit (.str "unknown")) (dCons (dLit (.str "value")) (dNil)))))) (dNil)))) (dNil))))
    (pRet (dTup (dCons (dVar 1) (dCons (dVar 2) (dCons (dVar 3) (dCons (dVar 4) (dCons (dCl 2 f__law_pick (dRow 0 (dCons (dLst (dCons (dLit (.str "null")) (dCons (dLit (.str "zero")) (dNil)))) (dNil)))) (dNil)))))))))
theorem s__law_semantics {G : Gm} {k : Nat} {j__law_pick : Nat} {f__law_pick : List Slot → Mn D} (F__law_pick : FO G j__law_pick "_law_pick" 2 f__law_pick) (h__law_pick : j__law_pick ≤ k) : SB G k ⟨defScope st__law_semantics, fun _ => true⟩ N__law_semantics (defBody st__law_semantics) (d__law_semantics f__law_pick) :=
    s_cons (P_par 1 2 (a_cons (e_call F__law_pick (a_row 0 (a_cons (e_lst (a_cons (e_str) (a_cons (e_str) (a_cons (e_str) (a_nil))))) (a_nil))) h__law_pick) (a_cons (e_call F__law_pick (a_row 0 (a_cons (e_lst (a_cons (e_str) (a_cons (e_str) (a_nil)))) (a_nil))) h__law_pick) (a_nil))))
    (s_cons (P_par 3 4 (a_cons (e_call F__law_pick (a_row 0 (a_cons (e_lst (a_cons (e_str) (a_cons (e_str) (a_nil)))) (a_nil))) h__law_pick) (a_cons (e_call F__law_pick (a_row 0 (a_cons (e_lst (a_cons (e_str) (a_cons (e_str) (a_cons (e_str) (a_cons (e_str) (a_nil)))))) (a_nil))) h__law_pick) (a_nil))))
    (s_one (P_ret (e_tup (a_cons (e_var 1) (a_cons (e_var 2) (a_cons (e_var 3) (a_cons (e_var 4) (a_cons (e_call F__law_pick (a_row 0 (a_cons (e_lst (a_cons (e_str) (a_cons (e_str) (a_nil)))) (a_nil))) h__law_pick) (a_nil))))))))))
abbrev st__law_rank : Stmt := topS 40
abbrev N__law_rank : List Str := ["line", "value"]
abbrev P__law_rank : List Str := ["line"]
theorem sc__law_rank : FnScope N__law_rank P__law_rank (defScope st__law_rank) := ⟨rfl, rfl, rfl, by decide +kernel, rfl, by decide +kernel, by decide +kernel⟩
def d__law_rank  : Ev → Ms :=
    pRet (dComp [1] (dItm (dVar 0)) (.name 1) (dYes) (dIf (dCmp isD (dVar 1) (dLit .none)) (dLit (.int 0)) (dBin addD (dVar 1) (dLit (.int 1)))))
theorem s__law_rank {G : Gm} {k : Nat}  : SB G k ⟨defScope st__law_rank, fun _ => true⟩ N__law_rank (defBody st__law_rank) (d__law_rank) :=
    s_one (P_ret (e_lc [("value", 1)] (i_seq (e_var 0)) (g_name 1) (p_nil) (e_if (T_cmp c_is (e_var 1) (e_non)) (e_int) (E_add (e_var 1) (e_int)))))
abbrev st__law_value : Stmt := topS 41
abbrev N__law_value : List Str := ["row", "way"]
abbrev P__law_value : List Str := ["row", "way"]
theorem sc__law_value : FnScope N__law_value P__law_value (defScope st__law_value) := ⟨rfl, rfl, rfl, by decide +kernel, rfl, by decide +kernel, by decide +kernel⟩
def d__law_value (f__law_taken : List Slot → Mn D) (f__law_pick : List Slot → Mn D) : Ev → Ms :=
    seqM (pIf (dAnd (dCmp neD (dBin ixD (dVar 1) (dLit (.int 3))) (dLit (.str "none"))) (dCmp eqD (dCl 2 f__law_taken (dRow 0 (dCons (dLit (.int 4)) (dNil)))) (dLit (.int 0)))) (pRet (dLit .none)) (sNil))
    (pRet (dCl 2 f__law_pick (dRow 0 (dCons (dLst (dCons (dLit (.int 0)) (dCons (dLit (.int 0)) (dCons (dLit (.int 1)) (dCons (dLit (.int 1)) (dCons (dLit (.int 2)) (dCons (dCl 2 f__law_taken (dRow 0 (dCons (dLit (.int 10)) (dNil)))) (dNil)))))))) (dNil)))))
theorem s__law_value {G : Gm} {k : Nat} {j__law_taken : Nat} {f__law_taken : List Slot → Mn D} (F__law_taken : FO G j__law_taken "_law_taken" 2 f__law_taken) (h__law_taken : j__law_taken ≤ k) {j__law_pick : Nat} {f__law_pick : List Slot → Mn D} (F__law_pick : FO G j__law_pick "_law_pick" 2 f__law_pick) (h__law_pick : j__law_pick ≤ k) : SB G k ⟨defScope st__law_value, fun _ => true⟩ N__law_value (defBody st__law_value) (d__law_value f__law_taken f__law_pick) :=
    s_cons (P_if (t_w (w_and (T_cmp c_ne (E_ix (e_var 1) (e_int)) (e_str)) (w_and1 (T_cmp c_eq (e_call F__law_taken (a_row 0 (a_cons (e_int) (a_nil))) h__law_taken) (e_int))))) (s_one (P_ret (e_non))) (s_nil))
    (s_one (P_ret (e_call F__law_pick (a_row 0 (a_cons (e_lst (a_cons (e_int) (a_cons (e_int) (a_cons (e_int) (a_cons (e_int) (a_cons (e_int) (a_cons (e_call F__law_taken (a_row 0 (a_cons (e_int) (a_nil))) h__law_taken) (a_nil)))))))) (a_nil))) h__law_pick)))
abbrev st__law_filter : Stmt := topS 42
abbrev N__law_filter : List Str := ["row", "deep", "kind", "word"]
abbrev P__law_filter : List Str := ["row", "deep"]
theorem sc__law_filter : FnScope N__law_filter P__law_filter (defScope st__law_filter) := ⟨rfl, rfl, rfl, by decide +kernel, rfl, by decide +kernel, by decide +kernel⟩
def d__law_filter (f__law_taken : List Slot → Mn D) (f__law_pick : List Slot → Mn D) (f__law_filter : List Slot → Mn D) : Ev → Ms :=
    seqM (pSet 2 (dCl 2 f__law_taken (dRow 0 (dCons (dBin addD (dLit (.int 5)) (dBin mulxD (dLit (.int 3)) (dFn intD (dCons (dCmpE gtD (dVar 1) (dLit (.int 0))) (dNil))))) (dNil)))))
    (seqM (pIf (dCmp ltD (dVar 2) (dLit (.int 4))) (seqM (pSet 3 (dCl 2 f__law_pick (dRow 0 (dCons (dLst (dCons (dLit (.str "less")) (dCons (dLit (.str "equal")) (dNil)))) (dNil)))))
    (pRet (dBin ixD (dLst (dCons (dTup (dCons (dVar 3) (dCons (dCl 2 f__law_taken (dRow 0 (dCons (dLit (.int 2)) (dNil)))) (dCons (dCl 2 f__law_taken (dRow 0 (dCons (dLit (.int 4)) (dNil)))) (dNil))))) (dCons (dTup (dCons (dVar 3) (dCons (dCl 2 f__law_taken (dRow 0 (dCons (dLit (.int 2)) (dNil)))) (dCons (dLit (.int 1)) (dNil))))) (dCons (dTup (dCons (dLit (.str "same")) (dNil))) (dCons (dTup (dCons (dLit (.str "null")) (dCons (dCl 2 f__law_taken (dRow 0 (dCons (dLit (.int 2)) (dNil)))) (dNil)))) (dNil)))))) (dVar 2)))) (sNil))
    (seqM (pIf (dCmp eqD (dVar 2) (dLit (.int 4))) (pRet (dTup (dCons (dLit (.str "less")) (dCons (dLit (.int 0)) (dCons (dLit (.int 1)) (dNil)))))) (sNil))
    (seqM (pIf (dCmp eqD (dVar 2) (dLit (.int 5))) (pRet (dTup (dCons (dLit (.str "not")) (dCons (dCl 2 f__law_filter (dRow 0 (dCons (dBin subD (dVar 1) (dLit (.int 1))) (dNil)))) (dNil))))) (sNil))
    (pRet (dTup (dCons (dCl 2 f__law_pick (dRow 0 (dCons (dLst (dCons (dLit (.str "and")) (dCons (dLit (.str "or")) (dNil)))) (dNil)))) (dCons (dCl 2 f__law_filter (dRow 0 (dCons (dBin subD (dVar 1) (dLit (.int 1))) (dNil)))) (dCons (dCl 2 f__law_filter (dRow 0 (dCons (dBin subD (dVar 1) (dLit (.int 1))) (dNil)))) (dNil)))))))))
theorem s__law_filter {G : Gm} {k : Nat} (B : Tp G) {j__law_taken : Nat} {f__law_taken : List Slot → Mn D} (F__law_taken : FO G j__law_taken "_law_taken" 2 f__law_taken) (h__law_taken : j__law_taken ≤ k) {j__law_pick : Nat} {f__law_pick : List Slot → Mn D} (F__law_pick : FO G j__law_pick "_law_pick" 2 f__law_pick) (h__law_pick : j__law_pick ≤ k) {j__law_filter : Nat} {f__law_filter : List Slot → Mn D} (F__law_filter : FO G j__law_filter "_law_filter" 2 f__law_filter) (h__law_filter : j__law_filter ≤ k) : SB G k ⟨defScope st__law_filter, fun _ => true⟩ N__law_filter (defBody st__law_filter) (d__law_filter f__law_taken f__law_pick f__law_filter) :=
    s_cons (P_set 2 (e_call F__law_taken (a_row 0 (a_cons (E_add (e_int) (e_mulx (e_int) (e_intc (a_cons (E_cmp c_gt (e_var 1) (e_int)) (a_nil)) B.b_int))) (a_nil))) h__law_taken))
    (s_cons (P_if (T_cmp c_lt (e_var 2) (e_int)) (s_cons (P_set 3 (e_call F__law_pick (a_row 0 (a_cons (e_lst (a_cons (e_str) (a_cons (e_str) (a_nil)))) (a_nil))) h__law_pick))
    (s_one (P_ret (E_ix (e_lst (a_cons (e_tup (a_cons (e_var 3) (a_cons (e_call F__law_taken (a_row 0 (a_cons (e_int) (a_nil))) h__law_taken) (a_cons (e_call F__law_taken (a_row 0 (a_cons (e_int) (a_nil))) h__law_taken) (a_nil))))) (a_cons (e_tup (a_cons (e_var 3) (a_cons (e_call F__law_taken (a_row 0 (a_cons (e_int) (a_nil))) h__law_taken) (a_cons (e_int) (a_nil))))) (a_cons (e_tup (a_cons (e_str) (a_nil))) (a_cons (e_tup (a_cons (e_str) (a_cons (e_call F__law_taken (a_row 0 (a_cons (e_int) (a_nil))) h__law_taken) (a_nil)))) (a_nil)))))) (e_var 2))))) (s_nil))
    (s_cons (P_if (T_cmp c_eq (e_var 2) (e_int)) (s_one (P_ret (e_tup (a_cons (e_str) (a_cons (e_int) (a_cons (e_int) (a_nil))))))) (s_nil))
    (s_cons (P_if (T_cmp c_eq (e_var 2) (e_int)) (s_one (P_ret (e_tup (a_cons (e_str) (a_cons (e_call F__law_filter (a_row 0 (a_cons (E_sub (e_var 1) (e_int)) (a_nil))) h__law_filter) (a_nil)))))) (s_nil))
    (s_one (P_ret (e_tup (a_cons (e_call F__law_pick (a_row 0 (a_cons (e_lst (a_cons (e_str) (a_cons (e_str) (a_nil)))) (a_nil))) h__law_pick) (a_cons (e_call F__law_filter (a_row 0 (a_cons (E_sub (e_var 1) (e_int)) (a_nil))) h__law_filter) (a_cons (e_call F__law_filter (a_row 0 (a_cons (E_sub (e_var 1) (e_int)) (a_nil))) h__law_filter) (a_nil))))))))))
abbrev st__law_join : Stmt := topS 43
abbrev N__law_join : List Str := ["word", "one", "other", "some"]
abbrev P__law_join : List Str := ["word", "one", "other"]
theorem sc__law_join : FnScope N__law_join P__law_join (defScope st__law_join) := ⟨rfl, rfl, rfl, by decide +kernel, rfl, by decide +kernel, by decide +kernel⟩
def d__law_join  : Ev → Ms :=
    seqM (pSet 3 (dLst (dCons (dVar 1) (dCons (dVar 2) (dNil)))))
    (seqM (pIf (dCmp eqD (dVar 0) (dLit (.str "and"))) (pRet (dIf (dCmp inD (dLit (.bool false)) (dVar 3)) (dLit (.bool false)) (dIf (dCmp inD (dLit .none) (dVar 3)) (dLit .none) (dLit (.bool true))))) (sNil))
    (pRet (dIf (dCmp inD (dLit (.bool true)) (dVar 3)) (dLit (.bool true)) (dIf (dCmp inD (dLit .none) (dVar 3)) (dLit .none) (dLit (.bool false))))))
theorem s__law_join {G : Gm} {k : Nat}  (hk : 1 ≤ k) : SB G k ⟨defScope st__law_join, fun _ => true⟩ N__law_join (defBody st__law_join) (d__law_join) :=
    s_cons (P_set 3 (e_lst (a_cons (e_var 1) (a_cons (e_var 2) (a_nil)))))
    (s_cons (P_if (T_cmp c_eq (e_var 0) (e_str)) (s_one (P_ret (e_if (T_cmp (c_in hk) (e_bl) (e_var 3)) (e_bl) (e_if (T_cmp (c_in hk) (e_non) (e_var 3)) (e_non) (e_bl))))) (s_nil))
    (s_one (P_ret (e_if (T_cmp (c_in hk) (e_bl) (e_var 3)) (e_bl) (e_if (T_cmp (c_in hk) (e_non) (e_var 3)) (e_non) (e_bl))))))
abbrev st__law_truth : Stmt := topS 44
abbrev N__law_truth : List Str := ["way", "mark", "line", "word", "some", "marks", "found"]
abbrev P__law_truth : List Str := ["way", "mark", "line"]
theorem sc__law_truth : FnScope N__law_truth P__law_truth (defScope st__law_truth) := ⟨rfl, rfl, rfl, by decide +kernel, rfl, by decide +kernel, by decide +kernel⟩
def d__law_truth (f__law_truth : List Slot → Mn D) (f__law_join : List Slot → Mn D) (f__law_rank : List Slot → Mn D) : Ev → Ms :=
    seqM (pSet 3 (dBin ixD (dVar 1) (dLit (.int 0))))
    (seqM (pIf (dCmp eqD (dVar 3) (dLit (.str "not"))) (seqM (pSet 6 (dCl 3 f__law_truth (dCons (dVar 0) (dCons (dBin ixD (dVar 1) (dLit (.int 1))) (dCons (dVar 2) (dNil))))))
    (pRet (dIf (dCmp isD (dVar 6) (dLit .none)) (dLit .none) (dNotV (dVar 6))))) (sNil))
    (seqM (pIf (dCmp inD (dVar 3) (dLst (dCons (dLit (.str "and")) (dCons (dLit (.str "or")) (dNil))))) (pRet (dCl 3 f__law_join (dCons (dVar 3) (dCons (dCl 3 f__law_truth (dCons (dVar 0) (dCons (dBin ixD (dVar 1) (dLit (.int 1))) (dCons (dVar 2) (dNil))))) (dCons (dCl 3 f__law_truth (dCons (dVar 0) (dCons (dBin ixD (dVar 1) (dLit (.int 2))) (dCons (dVar 2) (dNil))))) (dNil)))))) (sNil))
    (seqM (pIf (dCmp eqD (dVar 3) (dLit (.str "null"))) (pRet (dCmpE isD (dBin ixD (dVar 2) (dBin ixD (dVar 1) (dLit (.int 1)))) (dLit .none))) (sNil))
    (seqM (pSet 4 (dIf (dCmp eqD (dVar 3) (dLit (.str "same"))) (dFn listD (dCons (dVar 2) (dNil))) (dLst (dCons (dBin ixD (dVar 2) (dBin ixD (dVar 1) (dLit (.int 1)))) (dCons (dBin ixD (dVar 1) (dLit (.int 2))) (dNil))))))
    (seqM (pIf (dAnd (dCmp inD (dLit .none) (dVar 4)) (dCmp eqD (dBin ixD (dVar 0) (dLit (.int 3))) (dLit (.str "unknown")))) (pRet (dLit .none)) (sNil))
    (seqM (pSet 5 (dCl 1 f__law_rank (dCons (dVar 4) (dNil))))
    (pRet (dIf (dCmp eqD (dVar 3) (dLit (.str "less"))) (dCmpE ltD (dBin ixD (dVar 5) (dLit (.int 0))) (dBin ixD (dVar 5) (dLit (.int 1)))) (dCmpE eqD (dBin ixD (dVar 5) (dLit (.int 0))) (dBin ixD (dVar 5) (dLit (.int 1))))))))))))
theorem s__law_truth {G : Gm} {k : Nat} (B : Tp G) {j__law_truth : Nat} {f__law_truth : List Slot → Mn D} (F__law_truth : FO G j__law_truth "_law_truth" 3 f__law_truth) (h__law_truth : j__law_truth ≤ k) {j__law_join : Nat} {f__law_join : List Slot → Mn D} (F__law_join : FO G j__law_join "_law_join" 3 f__law_join) (h__law_join : j__law_join ≤ k) {j__law_rank : Nat} {f__law_rank : List Slot → Mn D} (F__law_rank : FO G j__law_rank "_law_rank" 1 f__law_rank) (h__law_rank : j__law_rank ≤ k) (hk : 1 ≤ k) : SB G k ⟨defScope st__law_truth, fun _ => true⟩ N__law_truth (defBody st__law_truth) (d__law_truth f__law_truth f__law_join f__law_rank) :=
    s_cons (P_set 3 (E_ix (e_var 1) (e_int)))
    (s_cons (P_if (T_cmp c_eq (e_var 3) (e_str)) (s_cons (P_set 6 (e_call F__law_truth (a_cons (e_var 0) (a_cons (E_ix (e_var 1) (e_int)) (a_cons (e_var 2) (a_nil)))) h__law_truth))
    (s_one (P_ret (e_if (T_cmp c_is (e_var 6) (e_non)) (e_non) (e_not (e_var 6)))))) (s_nil))
    (s_cons (P_if (T_cmp (c_in hk) (e_var 3) (e_lst (a_cons (e_str) (a_cons (e_str) (a_nil))))) (s_one (P_ret (e_call F__law_join (a_cons (e_var 3) (a_cons (e_call F__law_truth (a_cons (e_var 0) (a_cons (E_ix (e_var 1) (e_int)) (a_cons (e_var 2) (a_nil)))) h__law_truth) (a_cons (e_call F__law_truth (a_cons (e_var 0) (a_cons (E_ix (e_var 1) (e_int)) (a_cons (e_var 2) (a_nil)))) h__law_truth) (a_nil)))) h__law_join))) (s_nil))
    (s_cons (P_if (T_cmp c_eq (e_var 3) (e_str)) (s_one (P_ret (E_cmp c_is (E_ix (e_var 2) (E_ix (e_var 1) (e_int))) (e_non)))) (s_nil))
    (s_cons (P_set 4 (e_if (T_cmp c_eq (e_var 3) (e_str)) (e_list (a_cons (e_var 2) (a_nil)) B.b_list) (e_lst (a_cons (E_ix (e_var 2) (E_ix (e_var 1) (e_int))) (a_cons (E_ix (e_var 1) (e_int)) (a_nil))))))
    (s_cons (P_if (t_w (w_and (T_cmp (c_in hk) (e_non) (e_var 4)) (w_and1 (T_cmp c_eq (E_ix (e_var 0) (e_int)) (e_str))))) (s_one (P_ret (e_non))) (s_nil))
    (s_cons (P_set 5 (e_call F__law_rank (a_cons (e_var 4) (a_nil)) h__law_rank))
    (s_one (P_ret (e_if (T_cmp c_eq (e_var 3) (e_str)) (E_cmp c_lt (E_ix (e_var 5) (e_int)) (E_ix (e_var 5) (e_int))) (E_cmp c_eq (E_ix (e_var 5) (e_int)) (E_ix (e_var 5) (e_int))))))))))))
abbrev st__law_bad_row : Stmt := topS 45
abbrev st_law : Stmt := topS 46
abbrev N_law : List Str := ["script", "row", "turn", "bad", "way", "mark", "line"]
abbrev P_law : List Str := ["script"]
theorem sc_law : FnScope N_law P_law (defScope st_law) := ⟨rfl, rfl, rfl, by decide +kernel, rfl, by decide +kernel, by decide +kernel⟩
end K05
namespace K05
open PySem PySem.Spec PyProof.Rows L2 DL
abbrev Fs := List Slot → Mn D
abbrev NoDict (d : D) : Prop := ∀ kvs, d ≠ .dict kvs
theorem neg_b (b : Bool) : dFun 1 1 d__negation [.dat (.bool b)] = pur (.bool !b) := by
  simp [dFun_eq, d__negation, isD, truD]
theorem neg_n : dFun 1 1 d__negation [.dat .none] = pur .none := by
  simp [dFun_eq, d__negation, isD, truD]
theorem vo_i (i : Int) : dFun 1 1 d_value_order [.dat (.int i)] = pur (.int i) := by
  simp [dFun_eq, d_value_order, isD, negD]
theorem vo_n : dFun 1 1 d_value_order [.dat .none] = pur (.int (-1)) := by
  simp [dFun_eq, d_value_order, isD, negD]
def isIntTo : D → Int → Bool
  | .int i, g => decide (0 ≤ i) && decide (i ≤ g)
  | _, _ => false
abbrev SpIntTo (f : Fs) : Prop := ∀ (d : D) (g : Int), NoDict d → f [.dat d, .dat (.int g)] = pur (.bool (isIntTo d g))
theorem int_to : SpIntTo (dFun 2 2 d_is_integer_to) := by
  intro d g h
  cases d with
  | int i =>
    by_cases h0 : 0 ≤ i <;> simp [dFun_eq, d_is_integer_to, isA, truD, leD, h0, isIntTo]
  | dict kvs => exact absurd rfl (h kvs)
  | _ => simp [dFun_eq, d_is_integer_to, isA, truD, leD, isIntTo]
inductive N3 where
  | none | unknown | value
def N3.s : N3 → String
  | .none => "none"
  | .unknown => "unknown"
  | .value => "value"
/-- a semantics -/
def wayD (a b c : Bool) (n : N3) (e : Bool) : D := .tuple [.str (if a then "bag" else "set"), .str (if b then "maximum" else "sum"), .str (if c then "count" else "kind"), .str (Str.ofString n.s), .str (if e then "null" else "zero")]
inductive Vl where
  | nul
  | int (i : Int)
def Vl.d : Vl → D
  | .nul => .none
  | .int i => .int i
def vunder (n : N3) : D → Bool
  | .none => (match n with | .none => false | _ => true)
  | d => isIntTo d 9
theorem way_3 (a b c : Bool) (n : N3) (e : Bool) : ixD (wayD a b c n e) (.int 3) = some (.str (Str.ofString n.s)) := rfl
abbrev SpVu (f : Fs) : Prop := ∀ a b c n e d, NoDict d → f [.dat (wayD a b c n e), .dat d] = pur (.bool (vunder n d))
theorem vu {f : Fs} (hf : SpIntTo f) : SpVu (dFun 2 2 (d__is_value_under f)) := by
  intro a b c n e d h
  cases d with
  | none => cases n <;> simp [dFun_eq, d__is_value_under, isD, c_NULLS, way_3, vunder, N3.s]
  | _ => simp [dFun_eq, d__is_value_under, isD, c_GREATEST_VALUE, vunder, hf _ _ h]
abbrev SpRow (f : Fs) : Prop := ∀ a b c n e u v, NoDict u → NoDict v → f [.dat (wayD a b c n e), .dat (.tuple [u, v])] = pur (.bool (vunder n u && vunder n v))
theorem is_row {f : Fs} (hf : SpVu f) : SpRow (dFun 2 3 (d_is_row f)) := by
  intro a b c n e u v hu hv
  simp [dFun_eq, d_is_row, isA, truD, c_ROW_LENGTH, lenD, itmD, hf _ _ _ _ _ _ hu, hf _ _ _ _ _ _ hv, allD, bools]
abbrev SpSem (f : Fs) : Prop := ∀ a b c n e, f [.dat (wayD a b c n e)] = pur (.bool true)
theorem sem : SpSem (dFun 1 3 d_is_semantics) := by
  intro a b c n e
  have h1 : inD (.str (if a then "bag" else "set")) (.tuple [.str "bag", .str "set"]) = some true := by cases a <;> (rw [in_tup _ _ rfl rfl]; simp)
  have h2 : inD (.str (if b then "maximum" else "sum")) (.tuple [.str "maximum", .str "sum"]) = some true := by cases b <;> (rw [in_tup _ _ rfl rfl]; simp)
  have h3 : inD (.str (if c then "count" else "kind")) (.tuple [.str "count", .str "kind"]) = some true := by cases c <;> (rw [in_tup _ _ rfl rfl]; simp)
  have h4 : inD (.str (Str.ofString n.s)) (.tuple [.str "none", .str "unknown", .str "value"]) = some true := by cases n <;> (rw [in_tup _ _ rfl rfl]; simp [N3.s])
  have h5 : inD (.str (if e then "null" else "zero")) (.tuple [.str "null", .str "zero"]) = some true := by cases e <;> (rw [in_tup _ _ rfl rfl]; simp)
  simp [dFun_eq, d_is_semantics, isA, truD, c_WORDS, lenD, wayD, zipD, h1, h2, h3, h4, h5, allD, bools]
inductive Flt where
  | less (c : Bool) (n : Int)
  | equal (c : Bool) (n : Int)
  | same
  | null (c : Bool)
  | not (f : Flt)
  | and (f g : Flt)
  | or (f g : Flt)
def colD (c : Bool) : D := .int (if c then 1 else 0)
def Flt.d : Flt → D
  | .less c n => .tuple [.str "less", colD c, .int n]
  | .equal c n => .tuple [.str "equal", colD c, .int n]
  | .same => .tuple [.str "same"]
  | .null c => .tuple [.str "null", colD c]
  | .not f => .tuple [.str "not", f.d]
  | .and f g => .tuple [.str "and", f.d, g.d]
  | .or f g => .tuple [.str "or", f.d, g.d]
def Flt.ok : Flt → Bool
  | .less _ n => decide (0 ≤ n) && decide (n ≤ 9)
  | .equal _ n => decide (0 ≤ n) && decide (n ≤ 9)
  | .same => true
  | .null _ => true
  | .not f => f.ok
  | .and f g => f.ok && g.ok
  | .or f g => f.ok && g.ok
def Flt.size : Flt → Nat
  | .less _ _ => 1
  | .equal _ _ => 1
  | .same => 1
  | .null _ => 1
  | .not f => f.size + 1
  | .and f g => f.size + g.size + 1
  | .or f g => f.size + g.size + 1
def Flt.inner : Flt → List Flt
  | .not f => [f]
  | .and f g => [f, g]
  | .or f g => [f, g]
  | _ => []
theorem Flt.nd (f : Flt) : NoDict f.d := by intro k e; cases f <;> simp [Flt.d] at e
abbrev SpFits (f : Fs) : Prop := (∀ d, NoDict d → f [.dat d, .dat (.str "column")] = pur (.bool (isIntTo d 1))) ∧ (∀ d, NoDict d → f [.dat d, .dat (.str "number")] = pur (.bool (isIntTo d 9))) ∧ ∀ d, NoDict d → f [.dat d, .dat (.str "filter")] = pur (.bool true)
@[simp] theorem gi_c : kinD k_GREATEST (.str "column") = some true := by simp [kinD, k_GREATEST, List.lookup]
@[simp] theorem gi_n : kinD k_GREATEST (.str "number") = some true := by simp [kinD, k_GREATEST, List.lookup]
@[simp] theorem gi_f : kinD k_GREATEST (.str "filter") = some false := by simp [kinD, k_GREATEST, List.lookup]
@[simp] theorem gg_c : kgetD k_GREATEST (.str "column") = some (.int 1) := by simp [kgetD, k_GREATEST, List.lookup]
@[simp] theorem gg_n : kgetD k_GREATEST (.str "number") = some (.int 9) := by simp [kgetD, k_GREATEST, List.lookup]
theorem fits {f : Fs} (hf : SpIntTo f) : SpFits (dFun 2 2 (d__fits f)) := by
  refine ⟨fun d h => ?_, fun d h => ?_, fun d h => ?_⟩ <;> simp [dFun_eq, d__fits, hf _ _ h]
theorem col_ok (c : Bool) : isIntTo (colD c) 1 = true := by cases c <;> rfl
theorem col_nd (c : Bool) : NoDict (colD c) := by intro k e; cases c <;> simp [colD] at e
theorem int_nd (i : Int) : NoDict (.int i) := by intro k e; cases e
theorem fget {k w : String} {d : D} (h : List.lookup [Str.ofString k, Str.ofString w] t_FORMS = some d) : tgetD t_FORMS (.tuple [.str (Str.ofString k), .str (Str.ofString w)]) = some d := by
  show List.lookup [Str.ofString k, Str.ofString w] t_FORMS = some d
  exact h
theorem fnin {k w : String} {d : D} (h : List.lookup [Str.ofString k, Str.ofString w] t_FORMS = some d) : tninD t_FORMS (.tuple [.str (Str.ofString k), .str (Str.ofString w)]) = some false := by
  show some (!(List.lookup [Str.ofString k, Str.ofString w] t_FORMS).isSome) = some false
  rw [h]; rfl
theorem lk_less : List.lookup [Str.ofString "filter", Str.ofString "less"] t_FORMS = some (.tuple [.str "column", .str "number"]) := by simp [t_FORMS, List.lookup]
@[simp] theorem fg_less : tgetD t_FORMS (.tuple [.str "filter", .str "less"]) = some (.tuple [.str "column", .str "number"]) := fget lk_less
@[simp] theorem fn_less : tninD t_FORMS (.tuple [.str "filter", .str "less"]) = some false := fnin lk_less
theorem lk_equal : List.lookup [Str.ofString "filter", Str.ofString "equal"] t_FORMS = some (.tuple [.str "column", .str "number"]) := by simp [t_FORMS, List.lookup]
@[simp] theorem fg_equal : tgetD t_FORMS (.tuple [.str "filter", .str "equal"]) = some (.tuple [.str "column", .str "number"]) := fget lk_equal
@[simp] theorem fn_equal : tninD t_FORMS (.tuple [.str "filter", .str "equal"]) = some false := fnin lk_equal
theorem lk_same : List.lookup [Str.ofString "filter", Str.ofString "same"] t_FORMS = some (.tuple []) := by simp [t_FORMS, List.lookup]
@[simp] theorem fg_same : tgetD t_FORMS (.tuple [.str "filter", .str "same"]) = some (.tuple []) := fget lk_same
@[simp] theorem fn_same : tninD t_FORMS (.tuple [.str "filter", .str "same"]) = some false := fnin lk_same
theorem lk_null : List.lookup [Str.ofString "filter", Str.ofString "null"] t_FORMS = some (.tuple [.str "column"]) := by simp [t_FORMS, List.lookup]
@[simp] theorem fg_null : tgetD t_FORMS (.tuple [.str "filter", .str "null"]) = some (.tuple [.str "column"]) := fget lk_null
@[simp] theorem fn_null : tninD t_FORMS (.tuple [.str "filter", .str "null"]) = some false := fnin lk_null
theorem lk_not : List.lookup [Str.ofString "filter", Str.ofString "not"] t_FORMS = some (.tuple [.str "filter"]) := by simp [t_FORMS, List.lookup]
@[simp] theorem fg_not : tgetD t_FORMS (.tuple [.str "filter", .str "not"]) = some (.tuple [.str "filter"]) := fget lk_not
@[simp] theorem fn_not : tninD t_FORMS (.tuple [.str "filter", .str "not"]) = some false := fnin lk_not
theorem lk_and : List.lookup [Str.ofString "filter", Str.ofString "and"] t_FORMS = some (.tuple [.str "filter", .str "filter"]) := by simp [t_FORMS, List.lookup]
@[simp] theorem fg_and : tgetD t_FORMS (.tuple [.str "filter", .str "and"]) = some (.tuple [.str "filter", .str "filter"]) := fget lk_and
@[simp] theorem fn_and : tninD t_FORMS (.tuple [.str "filter", .str "and"]) = some false := fnin lk_and
theorem lk_or : List.lookup [Str.ofString "filter", Str.ofString "or"] t_FORMS = some (.tuple [.str "filter", .str "filter"]) := by simp [t_FORMS, List.lookup]
@[simp] theorem fg_or : tgetD t_FORMS (.tuple [.str "filter", .str "or"]) = some (.tuple [.str "filter", .str "filter"]) := fget lk_or
@[simp] theorem fn_or : tninD t_FORMS (.tuple [.str "filter", .str "or"]) = some false := fnin lk_or
abbrev SpForm (f : Fs) : Prop := ∀ x : Flt, x.ok = true → f [.dat x.d, .dat (.str "filter")] = pur (.bool true)
theorem has_form {f : Fs} (hf : SpFits f) : SpForm (dFun 2 5 (d__has_form f)) := by
  intro x hx
  obtain ⟨h1, h2, h3⟩ := hf
  have n9 : ∀ n : Int, (decide (0 ≤ n) && decide (n ≤ 9)) = true → isIntTo (.int n) 9 = true := fun n h => h
  cases x with
  | less c n => simp [dFun_eq, d__has_form, Flt.d, isA, truD, lenD, addD, zipD, h1 _ (col_nd _), h2 _ (int_nd _), h3 _ (Flt.nd _), col_ok, allD, bools, n9 n hx]
  | equal c n => simp [dFun_eq, d__has_form, Flt.d, isA, truD, lenD, addD, zipD, h1 _ (col_nd _), h2 _ (int_nd _), h3 _ (Flt.nd _), col_ok, allD, bools, n9 n hx]
  | _ => simp [dFun_eq, d__has_form, Flt.d, isA, truD, lenD, addD, zipD, h1 _ (col_nd _), h2 _ (int_nd _), h3 _ (Flt.nd _), col_ok, allD, bools]
def prF (x : Flt) : D := .tuple [x.d, .str "filter"]
abbrev SpInner (f : Fs) : Prop := ∀ x : Flt, f [.dat x.d, .dat (.str "filter")] = pur (.list (x.inner.map prF))
theorem inner_f : SpInner (dFun 2 5 d__inner_tuples) := by
  intro x
  cases x <;> simp [dFun_eq, d__inner_tuples, Flt.d, Flt.inner, prF, zipD]
end K05
namespace K05
open PySem PySem.Spec PyProof.Rows L2 DL
def total : List Flt → Nat
  | [] => 0
  | x :: xs => x.size + total xs
theorem total_app : ∀ xs ys : List Flt, total (xs ++ ys) = total xs + total ys
  | [], ys => by simp [total]
  | x :: xs, ys => by simp [total, total_app xs ys]; omega
theorem total_inner (x : Flt) : x.size = total x.inner + 1 := by cases x <;> simp [Flt.size, Flt.inner, total] <;> omega
theorem size_pos (x : Flt) : 1 ≤ x.size := by rw [total_inner]; omega
theorem total_len : ∀ xs : List Flt, xs.length ≤ total xs
  | [] => by simp [total]
  | x :: xs => by have := total_len xs; have := size_pos x; simp [total]; omega
theorem inner_ok (x : Flt) (h : x.ok = true) : ∀ y ∈ x.inner, y.ok = true := by
  cases x <;> simp_all [Flt.inner, Flt.ok]
abbrev tupBody (fh fi : Fs) : Ev → Ms := seqM (sPopT (.tup [5, 6]) 3)
    (seqM (sIf (dOr (dCmp eqD (dFn lenD (dCons (dVar 4) (dNil))) (dVar 2)) (dNot (dTru (dCl 2 fh (dCons (dVar 5) (dCons (dVar 6) (dNil))))))) (sRet (dLit .none)) (sNil))
    (seqM (sApp 4 (dVar 5))
    (sExt 3 (dCl 2 fi (dCons (dVar 5) (dCons (dVar 6) (dNil)))))))
theorem popT_app (v k m : D) (ys : List D) (a b : D) (fo : Slot) (s5 s6 : Slot) : popT (.tup [5, 6]) 3 [.dat v, .dat k, .dat m, .own (ys ++ [.tuple [a, b]]), fo, s5, s6] = some (ys, [a, b]) := by
  simp [popT]
theorem tup_loop {fh fi : Fs} (h1 : SpForm fh) (h2 : SpInner fi) (v k : D) : ∀ (n : Nat) (xs L : List Flt) (s5 s6 : Slot), (∀ x ∈ xs, x.ok = true) → L.length + total xs ≤ 20 → total xs < n →
    ∃ L' t5 t6, whileN (dTru (dVar 3)) (tupBody fh fi) n [.dat v, .dat k, .dat (.int 20), .own (xs.map prF), .own (L.map Flt.d), s5, s6] = nxM [.dat v, .dat k, .dat (.int 20), .own [], .own (List.map Flt.d L'), t5, t6] := by
  intro n
  induction n with
  | zero => intro xs L s5 s6 _ _ h; omega
  | succ n ih =>
    intro xs L s5 s6 hok ht hn
    rw [whileN_s]
    by_cases hx : xs = []
    · subst hx
      refine ⟨L, s5, s6, ?_⟩
      simp [truD]
    · obtain ⟨ys, y, rfl⟩ : ∃ ys y, xs = ys ++ [y] := ⟨xs.dropLast, xs.getLast hx, (List.dropLast_concat_getLast hx).symm⟩
      have hy : y.ok = true := hok y (by simp)
      rw [total_app] at ht hn
      have e1 := total_inner y
      simp only [total, Nat.add_zero] at ht hn
      have hlen : ys.length + y.inner.length ≤ sizeLine := by
        have a := total_len ys
        have b := total_len y.inner
        exact size_ok _ (by omega)
      have hL : L.length < sizeLine := Nat.lt_of_lt_of_le (by omega : L.length < 31) (size_ok 31)
      obtain ⟨L', t5, t6, he⟩ := ih (ys ++ y.inner) (L ++ [y]) (.dat y.d) (.dat (.str "filter")) (fun z hz => by
        rcases List.mem_append.mp hz with q | q
        · exact hok z (by simp [q])
        · exact inner_ok y hy z q) (by rw [total_app, List.length_append]; simp; omega) (by rw [total_app]; omega)
      refine ⟨L', t5, t6, ?_⟩
      rw [← he]
      have hne : ¬ ((L.length : Int) = 20) := by omega
      have hp : (ys ++ [y]).map prF = ys.map prF ++ [.tuple [y.d, .str "filter"]] := by simp [prF]
      rw [hp]
      simp [truD, popT_app, lenD, hne, h1 y hy, h2 y, hlen, hL]
abbrev SpTup (f : Fs) : Prop := ∀ x : Flt, x.ok = true → x.size ≤ 20 → ∃ L : List D, f [.dat x.d, .dat (.str "filter"), .dat (.int 20)] = pur (.list L)
theorem tuples_ok {fh fi : Fs} (h1 : SpForm fh) (h2 : SpInner fi) : SpTup (dFun 3 7 (d_tuples_of fh fi)) := by
  intro x hok hx
  obtain ⟨L', t5, t6, he⟩ := tup_loop h1 h2 x.d (.str "filter") 64 [x] [] .hid .hid (by simpa using hok) (by simpa [total] using hx) (by simp [total]; omega)
  refine ⟨L'.map Flt.d, ?_⟩
  rw [dFun_eq]
  simp only [d_tuples_of]
  simp only [List.map_cons, List.map_nil, prF] at he
  simp [he]
abbrev SpIsFilter (f : Fs) : Prop := ∀ x : Flt, x.ok = true → x.size ≤ 20 → f [.dat x.d] = pur (.bool true)
theorem isn_list (ds : List D) : isnD (.list ds) .none = some true := rfl
theorem is_filter {ft : Fs} (h1 : SpTup ft) : SpIsFilter (dFun 1 1 (d_is_filter ft)) := by
  intro x hx hs
  obtain ⟨L, e⟩ := h1 x hx hs
  simp [dFun_eq, d_is_filter, c_MOST_TUPLES, e, isn_list]
end K05
namespace K05
open PySem PySem.Spec PyProof.Rows L2 DL
def Vl.ord : Vl → Int
  | .nul => -1
  | .int i => i
def Vl.isN : Vl → Bool
  | .nul => true
  | _ => false
def Vl.beq : Vl → Vl → Bool
  | .nul, .nul => true
  | .int i, .int j => i == j
  | _, _ => false
def N3.unk : N3 → Bool
  | .unknown => true
  | _ => false
def cmpV (n : N3) (less : Bool) (x y : Vl) : Option Bool :=
  if (n.unk && (x.isN || y.isN)) = true then none else some (if less = true then decide (x.ord < y.ord) else x.beq y)
def td : Option Bool → D
  | none => .none
  | some b => .bool b
def tnot : Option Bool → Option Bool
  | none => none
  | some b => some !b
def tand : Option Bool → Option Bool → Option Bool
  | some false, _ => some false
  | _, some false => some false
  | none, _ => none
  | _, none => none
  | _, _ => some true
def tor : Option Bool → Option Bool → Option Bool
  | some true, _ => some true
  | _, some true => some true
  | none, _ => none
  | _, none => none
  | _, _ => some false
def tv (n : N3) (u v : Vl) : Flt → Option Bool
  | .less c m => cmpV n true (if c then v else u) (.int m)
  | .equal c m => cmpV n false (if c then v else u) (.int m)
  | .same => cmpV n false u v
  | .null c => some (if c then v else u).isN
  | .not f => tnot (tv n u v f)
  | .and f g => tand (tv n u v f) (tv n u v g)
  | .or f g => tor (tv n u v f) (tv n u v g)
def lineD (u v : Vl) : D := .tuple [u.d, v.d]
def nD (n : N3) : D := .str (Str.ofString n.s)
abbrev SpNeg (f : Fs) : Prop := ∀ t, f [.dat (td t)] = pur (td (tnot t))
theorem neg : SpNeg (dFun 1 1 d__negation) := by
  intro t
  cases t with
  | none => exact neg_n
  | some b => exact neg_b b
abbrev SpAnd (f : Fs) : Prop := ∀ t u, f [.dat (td t), .dat (td u)] = pur (td (tand t u))
theorem conj : SpAnd (dFun 2 2 d__conjunction) := by
  intro t u
  rcases t with _ | (_ | _) <;> rcases u with _ | (_ | _) <;> simp [dFun_eq, d__conjunction, td, tand, isD]
abbrev SpOr (f : Fs) : Prop := ∀ t u, f [.dat (td t), .dat (td u)] = pur (td (tor t u))
theorem disj : SpOr (dFun 2 2 d__disjunction) := by
  intro t u
  rcases t with _ | (_ | _) <;> rcases u with _ | (_ | _) <;> simp [dFun_eq, d__disjunction, td, tor, isD]
abbrev SpConn (f : Fs) : Prop := (∀ t, f [.dat (.str "not"), .dat (.list [td t])] = pur (td (tnot t))) ∧ (∀ t u, f [.dat (.str "and"), .dat (.list [td t, td u])] = pur (td (tand t u))) ∧ ∀ t u, f [.dat (.str "or"), .dat (.list [td t, td u])] = pur (td (tor t u))
theorem conn {fn fc fd : Fs} (h1 : SpNeg fn) (h2 : SpAnd fc) (h3 : SpOr fd) : SpConn (dFun 2 2 (d_connected fn fc fd)) := by
  refine ⟨fun t => ?_, fun t u => ?_, fun t u => ?_⟩
  · simp [dFun_eq, d_connected, h1 _]
  · simp [dFun_eq, d_connected, h2 _ _]
  · simp [dFun_eq, d_connected, h3 _ _]
abbrev SpVo (f : Fs) : Prop := ∀ x : Vl, f [.dat x.d] = pur (.int x.ord)
theorem vo : SpVo (dFun 1 1 d_value_order) := by
  intro x
  cases x with
  | nul => exact vo_n
  | int i => exact vo_i i
theorem way_3' (a b c : Bool) (n : N3) (e : Bool) : ixD (wayD a b c n e) (.int 3) = some (nD n) := rfl
theorem unk_eq (n : N3) : eqD (nD n) (.str "unknown") = some n.unk := by cases n <;> simp [nD, N3.s, N3.unk]
abbrev SpCmp (f : Fs) : Prop := ∀ a b c n e x y, f [.dat (wayD a b c n e), .dat (.str "less"), .dat (Vl.d x), .dat (Vl.d y)] = pur (td (cmpV n true x y)) ∧ f [.dat (wayD a b c n e), .dat (.str "equal"), .dat (Vl.d x), .dat (Vl.d y)] = pur (td (cmpV n false x y))
theorem cmp {f : Fs} (hf : SpVo f) : SpCmp (dFun 4 4 (d__comparison f)) := by
  intro a b c n e x y
  have h1 : f [.dat .none] = pur (.int (-1)) := hf .nul
  have h2 : ∀ i, f [.dat (.int i)] = pur (.int i) := fun i => hf (.int i)
  cases hn : n.unk <;> cases x <;> cases y <;> simp [dFun_eq, d__comparison, c_NULLS, way_3', unk_eq, hn, Vl.d, cmpV, Vl.isN, Vl.ord, Vl.beq, isD, td, ltD, h1, h2]
  all_goals rfl
theorem col_ix (c : Bool) (a b : D) : ixD (.tuple [a, b]) (colD c) = some (if c then b else a) := by cases c <;> simp [colD]
theorem col_d (c : Bool) (u v : Vl) : (if c = true then v.d else u.d) = (if c = true then v else u : Vl).d := by cases c <;> rfl
theorem isN_d (x : Vl) : isD x.d .none = some x.isN := by cases x <;> rfl
abbrev SpTruth (f : Fs) (m : Nat) : Prop := ∀ x : Flt, x.size ≤ m → ∀ a b c n e u v, f [.dat (wayD a b c n e), .dat x.d, .dat (lineD u v)] = pur (td (tv n u v x))
theorem inc (s : String) : inD (.str (Str.ofString s)) c_CONNECTIVES = some (["not", "and", "or"].any fun t => t == s) := by
  rw [c_CONNECTIVES, in_tup _ _ rfl rfl]
  simp
theorem truth_of {fn ft fk : Fs} {m : Nat} (h1 : SpConn fn) (h2 : SpTruth ft m) (h5 : SpCmp fk) : SpTruth (dFun 3 5 (d_truth_of fn ft fk)) (m + 1) := by
  intro x hx a b c n e u v
  have c0 : ∀ c : Bool, ixD (lineD u v) (colD c) = some (if c = true then v else u : Vl).d := fun c => by rw [lineD, col_ix, col_d]
  have c1 : ixD (lineD u v) (.int 0) = some u.d := by simp [lineD]
  have c2 : ixD (lineD u v) (.int 1) = some v.d := by simp [lineD]
  have i5 : ∀ m : Int, PyData.int m = Vl.d (.int m) := fun m => rfl
  cases x with
  | less c m => simp [dFun_eq, d_truth_of, Flt.d, inc, c0, tv]; rw [i5, (h5 _ _ _ _ _ _ _).1]; rfl
  | equal c m => simp [dFun_eq, d_truth_of, Flt.d, inc, c0, tv]; rw [i5, (h5 _ _ _ _ _ _ _).2]; rfl
  | same => simp [dFun_eq, d_truth_of, Flt.d, inc, c1, c2, tv, (h5 _ _ _ _ _ _ _).2]
  | null c => simp [dFun_eq, d_truth_of, Flt.d, inc, c0, tv, isN_d, td]
  | not f =>
    have hf := h2 f (by simp [Flt.size] at hx; omega) a b c n e u v
    simp [dFun_eq, d_truth_of, Flt.d, inc, tv, itmD, hf, h1.1 _]
  | and f g =>
    have hf := h2 f (by simp [Flt.size] at hx; omega) a b c n e u v
    have hg := h2 g (by simp [Flt.size] at hx; omega) a b c n e u v
    simp [dFun_eq, d_truth_of, Flt.d, inc, tv, itmD, hf, hg, h1.2.1 _ _]
  | or f g =>
    have hf := h2 f (by simp [Flt.size] at hx; omega) a b c n e u v
    have hg := h2 g (by simp [Flt.size] at hx; omega) a b c n e u v
    simp [dFun_eq, d_truth_of, Flt.d, inc, tv, itmD, hf, hg, h1.2.2 _ _]
abbrev SpJoin (f : Fs) : Prop := (∀ t u, f [.dat (.str "and"), .dat (td t), .dat (td u)] = pur (td (tand t u))) ∧ ∀ t u, f [.dat (.str "or"), .dat (td t), .dat (td u)] = pur (td (tor t u))
theorem in_list (x : D) (ds : List D) (hx : SeqAt.shaped x = true) (hd : SeqAt.shaped (.list ds) = true) : inD x (.list ds) = some (ds.any fun z => PyData.eqv z x) := by simp [inD, hx, hd]
theorem td_list (t u : Option Bool) : SeqAt.shaped (.list [td t, td u]) = true := by
  rcases t with _ | b <;> rcases u with _ | c <;> simp [td, SeqAt.shaped, PyData.canLay0, PyData.canLayAll0, PyData.depth, PyData.depthAll]
theorem joins : SpJoin (dFun 3 4 d__law_join) := by
  have k : ∀ x t u, SeqAt.shaped x = true → inD x (.list [td t, td u]) = some ([td t, td u].any fun z => PyData.eqv z x) := fun x t u hx => in_list _ _ hx (td_list t u)
  constructor <;> intro t u
  · simp [dFun_eq, d__law_join, k, sh_none, sh_bool]
    rcases t with _ | (_ | _) <;> rcases u with _ | (_ | _) <;> simp [td, tand]
  · simp [dFun_eq, d__law_join, k, sh_none, sh_bool]
    rcases t with _ | (_ | _) <;> rcases u with _ | (_ | _) <;> simp [td, tor]
def Vl.rk : Vl → Int
  | .nul => 0
  | .int i => i + 1
abbrev SpRank (f : Fs) : Prop := ∀ x y : Vl, f [.dat (.list [x.d, y.d])] = pur (.list [.int x.rk, .int y.rk])
theorem rank : SpRank (dFun 1 2 d__law_rank) := by
  intro x y
  cases x <;> cases y <;> simp [dFun_eq, d__law_rank, itmD, Vl.d, Vl.rk, isD, addD]
def Vl.nn : Vl → Bool
  | .nul => true
  | .int i => decide (0 ≤ i)
theorem rk_lt {x y : Vl} (hx : x.nn = true) (hy : y.nn = true) : decide (x.rk < y.rk) = decide (x.ord < y.ord) := by
  apply decide_eq_decide.mpr
  cases x <;> cases y <;> simp only [Vl.nn, Vl.rk, Vl.ord, decide_eq_true_eq] at * <;> omega
theorem rk_eq {x y : Vl} (hx : x.nn = true) (hy : y.nn = true) : (x.rk == y.rk) = x.beq y := by
  cases x with
  | nul =>
    cases y with
    | nul => rfl
    | int j =>
      have h : 0 ≤ j := by simpa [Vl.nn] using hy
      have h2 : (0 : Int) ≠ j + 1 := by omega
      simpa [Vl.rk, Vl.beq] using h2
  | int i =>
    have h : 0 ≤ i := by simpa [Vl.nn] using hx
    cases y with
    | nul =>
      have h2 : i + 1 ≠ 0 := by omega
      simpa [Vl.rk, Vl.beq] using h2
    | int j =>
      show (i + 1 == j + 1) = (i == j)
      rw [Bool.eq_iff_iff, beq_iff_eq, beq_iff_eq]
      omega
theorem vd_list (x y : Vl) : SeqAt.shaped (.list [x.d, y.d]) = true := by
  cases x <;> cases y <;> simp [Vl.d, SeqAt.shaped, PyData.canLay0, PyData.canLayAll0, PyData.depth, PyData.depthAll]
theorem none_in (x y : Vl) : inD .none (.list [x.d, y.d]) = some (x.isN || y.isN) := by
  rw [in_list _ _ sh_none (vd_list x y)]
  cases x <;> cases y <;> simp [Vl.d, Vl.isN]
abbrev SpLawTruth (f : Fs) (m : Nat) : Prop := ∀ x : Flt, x.size ≤ m → x.ok = true → ∀ a b c n e u v, u.nn = true → v.nn = true → f [.dat (wayD a b c n e), .dat x.d, .dat (lineD u v)] = pur (td (tv n u v x))
theorem in_w (s : String) (ss : List String) : inD (.str (Str.ofString s)) (.list (ss.map fun t => .str (Str.ofString t))) = some (ss.any fun t => t == s) := by
  have sh : SeqAt.shaped (.list (ss.map fun t => PyData.str (Str.ofString t))) = true := by
    have h1 : ∀ l : List String, PyData.canLayAll0 (l.map fun t => PyData.str (Str.ofString t)) = true := by
      intro l
      induction l with
      | nil => rfl
      | cons a l ih => simp [PyData.canLayAll0, ih]
    have h2 : ∀ l : List String, PyData.depthAll (l.map fun t => PyData.str (Str.ofString t)) = 0 := by
      intro l
      induction l with
      | nil => rfl
      | cons a l ih => simp [PyData.depthAll, PyData.depth, ih]
    simp [SeqAt.shaped, PyData.canLay0, PyData.depth, h1, h2]
  rw [in_list _ _ (by simp [SeqAt.shaped, PyData.depth]) sh]
  simp [List.any_map, Function.comp_def]
theorem sel_nn (c : Bool) {u v : Vl} (hu : u.nn = true) (hv : v.nn = true) : (if c = true then v else u : Vl).nn = true := by cases c <;> assumption
theorem law_truth {fr ft fj : Fs} {m : Nat} (h1 : SpLawTruth ft m) (h2 : SpJoin fj) (h3 : SpRank fr) : SpLawTruth (dFun 3 7 (d__law_truth ft fj fr)) (m + 1) := by
  intro x hx hok a b c n e u v hu hv
  have c0 : ∀ c : Bool, ixD (lineD u v) (colD c) = some (if c = true then v else u : Vl).d := fun c => by rw [lineD, col_ix, col_d]
  have ls : listD [lineD u v] = some (.list [u.d, v.d]) := rfl
  have i5 : ∀ m : Int, PyData.int m = Vl.d (.int m) := fun m => rfl
  have w1 : ∀ s : String, inD (.str (Str.ofString s)) (.list [.str "and", .str "or"]) = some (["and", "or"].any fun t => t == s) := fun s => in_w s ["and", "or"]
  -- the comparing part
  have cmpL : ∀ (x y : Vl) (less : Bool), x.nn = true → y.nn = true →
      (if (n.unk && (x.isN || y.isN)) = true then (none : Option Bool) else some (if less = true then decide (x.rk < y.rk) else x.rk == y.rk)) = cmpV n less x y := fun x y less hx hy => by
    unfold cmpV
    rw [rk_lt hx hy, rk_eq hx hy]
  cases x with
  | less c m =>
    have hm : (Vl.int m).nn = true := by simp [Flt.ok] at hok; simp [Vl.nn, hok.1]
    have q := cmpL _ (.int m) true (sel_nn c hu hv) hm
    simp [dFun_eq, d__law_truth, Flt.d, c0, w1, tv, sh_none]
    rw [i5]
    simp [none_in, way_3', unk_eq, h3 _ _, ltD, ← q]
    generalize (if c = true then v else u : Vl) = z
    cases hU : n.unk <;> cases hZ : z.isN <;> simp [td, Vl.isN]
  | equal c m =>
    have hm : (Vl.int m).nn = true := by simp [Flt.ok] at hok; simp [Vl.nn, hok.1]
    have q := cmpL _ (.int m) false (sel_nn c hu hv) hm
    simp [dFun_eq, d__law_truth, Flt.d, c0, w1, tv, sh_none]
    rw [i5]
    simp [none_in, way_3', unk_eq, h3 _ _, ltD, ← q]
    generalize (if c = true then v else u : Vl) = z
    cases hU : n.unk <;> cases hZ : z.isN <;> simp [td, Vl.isN]
  | same =>
    have q := cmpL u v false hu hv
    simp [dFun_eq, d__law_truth, Flt.d, ls, w1, tv, sh_none]
    simp [none_in, way_3', unk_eq, h3 _ _, ltD, ← q]
    cases hU : n.unk <;> cases hZ : u.isN <;> cases hY : v.isN <;> simp [td]
  | null c => simp [dFun_eq, d__law_truth, Flt.d, c0, w1, tv, isN_d, td]
  | not f =>
    have hf := h1 f (by simp [Flt.size] at hx; omega) (by simpa [Flt.ok] using hok) a b c n e u v hu hv
    simp [dFun_eq, d__law_truth, Flt.d, tv, hf]
    cases tv n u v f <;> simp [td, tnot, isD, truD]
  | and f g =>
    simp [Flt.ok] at hok
    have hf := h1 f (by simp [Flt.size] at hx; omega) hok.1 a b c n e u v hu hv
    have hg := h1 g (by simp [Flt.size] at hx; omega) hok.2 a b c n e u v hu hv
    simp [dFun_eq, d__law_truth, Flt.d, tv, w1, hf, hg, h2.1 _ _]
  | or f g =>
    simp [Flt.ok] at hok
    have hf := h1 f (by simp [Flt.size] at hx; omega) hok.1 a b c n e u v hu hv
    have hg := h1 g (by simp [Flt.size] at hx; omega) hok.2 a b c n e u v hu hv
    simp [dFun_eq, d__law_truth, Flt.d, tv, w1, hf, hg, h2.2 _ _]
end K05
namespace K05
open PySem PySem.Spec PyProof.Rows L2 DL
theorem cmul2 (i : Int) : CMul i 48271 := .inr ⟨by decide, by decide⟩
theorem dat1 {K : PySem.W.Frag} {M : Addr → Prop} {r : Rw} {H : Hp} {vs : List V} {m : Int} (h : ArgL K M r H vs [.row, .dat (.int m)]) : vs = [.ref r.a, .int m] := by
  cases h with
  | row h => cases h with
    | dat d h => cases h; cases d; rfl
theorem tkF_some {ss : List Slot} {rs rs' : RS} {o : Out D} (h : tkF ss rs = some (o, rs')) : ∃ m : Int, ss = [.row, .dat (.int m)] ∧ 0 < m ∧ m < 1073741824 ∧ o = .val (.int (tk m rs).1) ∧ rs' = (tk m rs).2 := by
  unfold tkF at h
  split at h
  · rename_i m
    split at h
    · rename_i c
      cases h
      exact ⟨m, rfl, c.1, c.2, rfl, rfl⟩
    · cases h
  · cases h
theorem upd_upd' {H : Hp} {a : Addr} {o o' : HO} : upd (upd H a o) a o' = upd H a o' := by
  funext b
  by_cases h : b = a
  · subst h; rw [upd_same, upd_same]
  · rw [upd_ne h, upd_ne h, upd_ne h]
theorem fo_taken {G : Gm} (h : HasF G "_law_taken" st__law_taken P__law_taken) (B : Tp G) : FO G 1 "_law_taken" 2 tkF := by
  obtain ⟨f, fd, hmg, F, bd⟩ := h.ex
  refine ⟨f, fd, _, hmg, F.kp, bd, rfl, F.okX sc__law_taken (fun vs H Q E h => h.1) fun cdv A outer s H vs Q E hr hsp => ?_⟩
  obtain ⟨hn, M, r, ss, rs, mr, ml, row, ar, o, rs', e, w⟩ := hsp
  obtain ⟨m, rfl, h0, h1, rfl, rfl⟩ := tkF_some e
  obtain rfl := dat1 ar
  refine ⟨_, pss_cons (ps_if (pt_cmpR op_gt (pe_ix ix_list (pv 0) pe_int (fun _ _ => rfl)) pe_int (nomark _))
      (pss_cons (ps_set (i := 3) sc__law_taken.nd rfl (Or.inl rfl) (pe_op op_mod (pe_callTy call_int1 rfl B.b_int PyProof.Rows.boot_int (pa_cons (pe_ix ix_list (pv 0) pe_int (fun _ _ => rfl)) pa_nil)) (pv 1)))
      (pss_cons (ps_asg (pe_op op_fdiv (pe_ix ix_list (pv 0) pe_int (fun _ _ => rfl)) (pv 1)) (pg_sub (pv 0) pe_int set_list))
      (pss_one (ps_ret (pv 3))))) pss_nil)
    (pss_cons (ps_asg (pe_op op_add (pe_ix ix_list (pv 0) pe_int (fun _ _ => rfl)) pe_int) (pg_sub (pv 0) pe_int set_list))
    (pss_cons (ps_if (pt_cmpR op_gt (pe_ix ix_list (pv 0) pe_int (fun _ _ => rfl)) (pe_callB call_len_seq rfl B.b_len PySem.boot_len (pa_cons (pe_ix ix_list (pv 0) pe_int (fun _ _ => rfl)) pa_nil)) (nomark _))
      (pss_cons (ps_asg (pe_op op_mod (pe_callTy call_int1 rfl B.b_int PyProof.Rows.boot_int (pa_cons (pe_op op_add (pe_op op_mul (pe_ix ix_list (pv 0) pe_int (fun _ _ => rfl)) pe_int) pe_int) pa_nil)) pe_int) (pg_sub (pv 0) pe_int set_list))
      (pss_one (ps_ret (pe_op op_mod (pe_callTy call_int1 rfl B.b_int PyProof.Rows.boot_int (pa_cons (pe_op op_fdiv (pe_ix ix_list (pv 0) pe_int (fun _ _ => rfl)) pe_int) pa_nil)) (pv 1))))) pss_nil)
    (pss_cons (ps_set (i := 2) sc__law_taken.nd rfl (Or.inl rfl) (pe_ix ix_list (pe_ix ix_list (pv 0) pe_int (fun _ _ => rfl)) (pe_op op_sub (pe_ix ix_list (pv 0) pe_int (fun _ _ => rfl)) pe_int) (fun _ _ => rfl)))
    (pss_cons (ps_asg (pe_op op_mod (pe_callTy call_int1 rfl B.b_int PyProof.Rows.boot_int (pa_cons (pe_op op_add (pe_op op_add (pe_op op_mul (pe_ix ix_list (pv 0) pe_int (fun _ _ => rfl)) pe_int) (pv 2)) pe_int) pa_nil)) pe_int) (pg_sub (pv 0) pe_int set_list))
    (pss_cons (ps_if (pt_cmpR op_ge (pv 2) (pe_op op_pow pe_int pe_int) (nomark _))
      (pss_one (ps_asg (pe_op op_fdiv (pv 2) (pv 1)) (pg_sub (pv 0) pe_int set_list))) pss_nil)
    (pss_one (ps_ret (pe_op op_mod (pe_callTy call_int1 rfl B.b_int PyProof.Rows.boot_int (pa_cons (pv 2) pa_nil)) (pv 1))))))))), ?_⟩
  have hR : H r.a = some (.lst (rowV r rs)) := row.1.1
  have en : rs.ns = r.ns := row.1.2
  have hS : SqL G.K H r.sc (r.ns.map V.int) := row.2.sq
  have fin : ∀ (rs2 : RS) (d : Int) (H' : Hp), tk m rs = (d, rs2) → rs2.ns = rs.ns → H' = upd H r.a (.lst (rowV r rs2)) → Q (.int d) H' := fun rs2 d H' e1 e2 e3 => by
    subst e3
    rw [e1] at w
    exact w _ stp_upd (row_put mr row stp_upd upd_same e2) _ (.int d)
  refine ⟨_, rfl, r.a, _, _, _, rfl, rfl, .of hR, rfl, _, _, rfl, rfl, _, rfl, ?_⟩
  refine ite2 (fun c => ?_) (fun c => ?_)
  · have c' : 0 < rs.c := of_decide_eq_true c
    refine ⟨_, rfl, r.a, _, _, _, rfl, rfl, .of hR, rfl, .inl ⟨_, rfl, _, rfl, _, _, rfl, rfl, h0, ?_⟩⟩
    refine ⟨_, rfl, r.a, _, _, _, rfl, rfl, .of hR, rfl, _, rfl, _, _, rfl, rfl, ⟨h0, h1⟩, _, rfl, r.a, _, _, 3, rfl, rfl, hR, rfl, ?_⟩
    exact ⟨_, rfl, fin { rs with c := rs.c / m } _ _ (by unfold tk; rw [if_pos c']) rfl rfl⟩
  · have c' : ¬ 0 < rs.c := of_decide_eq_false (Bool.eq_false_iff.mpr c)
    -- row[1] = row[1] + 1
    refine ⟨_, rfl, r.a, _, _, _, rfl, rfl, .of hR, rfl, _, _, rfl, rfl, _, rfl, r.a, _, _, 1, rfl, rfl, hR, rfl, ?_⟩
    have hR1 : upd H r.a (.lst [.ref r.sc, .int ((rs.a : Int) + 1), .int rs.b, .int rs.c]) r.a = some (.lst [.ref r.sc, .int ((rs.a : Int) + 1), .int rs.b, .int rs.c]) := upd_same
    have hS1 : ∀ xs, SqL G.K (upd H r.a (.lst xs)) r.sc (r.ns.map V.int) := fun xs => (sqlm_kp row.2 (stp_upd.kp mr)).sq
    refine ⟨_, rfl, r.a, _, _, _, rfl, rfl, .of hR1, rfl, _, rfl, r.a, _, _, _, rfl, rfl, .of hR1, rfl, r.sc, _, rfl, .inl (hS1 _), _, _, rfl, rfl, _, rfl, ?_⟩
    refine ite2 (fun d => ?_) (fun d => ?_)
    · have d' : ((r.ns.map V.int).length : Int) < (rs.a : Int) + 1 := of_decide_eq_true d
      rw [List.length_map] at d'
      refine ⟨_, rfl, r.a, _, _, _, rfl, rfl, .of hR1, rfl, _, _, rfl, rfl, cmul2 _, _, _, rfl, rfl, .inl ⟨_, rfl, _, _, rfl, rfl, (by show (0 : Int) < 2147483647; decide), _, rfl, r.a, _, _, 2, rfl, rfl, hR1, rfl, ?_⟩⟩
      rw [upd_upd']
      refine ⟨_, rfl, r.a, _, _, _, rfl, rfl, .of upd_same, rfl, _, _, rfl, rfl, ⟨by decide, by decide⟩, .inl ⟨_, rfl, _, rfl, _, _, rfl, rfl, h0, ?_⟩⟩
      exact fin { rs with a := rs.a + 1, b := (rs.b * 48271 + 11) % 2147483647 } _ _ (by unfold tk; rw [if_neg c', if_pos (by rw [en]; omega)]) rfl rfl
    · have d' : ¬ ((r.ns.map V.int).length : Int) < (rs.a : Int) + 1 := of_decide_eq_false (Bool.eq_false_iff.mpr d)
      rw [List.length_map] at d'
      have hcell : atI (r.ns.map V.int) ((rs.a : Int) + 1 - 1) = some (.int (rs.ns.getD rs.a 0)) := by
        rw [show ((rs.a : Int) + 1 - 1) = ((rs.a : Nat) : Int) by omega]
        refine atI_nat ?_
        have hl : rs.a < r.ns.length := by omega
        rw [List.getElem?_map, List.getElem?_eq_getElem hl, en]
        simp [List.getD_eq_getElem?_getD, List.getElem?_eq_getElem hl]
      refine ⟨_, rfl, r.a, _, _, _, rfl, rfl, .of hR1, rfl, _, rfl, r.a, _, _, _, rfl, rfl, .of hR1, rfl, _, _, rfl, rfl, r.sc, _, _, _, rfl, rfl, hS1 _, hcell, ?_⟩
      refine ⟨_, rfl, r.a, _, _, _, rfl, rfl, .of hR1, rfl, _, _, rfl, rfl, cmul2 _, _, rfl, _, _, rfl, rfl, _, _, rfl, rfl, .inl ⟨_, rfl, _, _, rfl, rfl, (by show (0 : Int) < 2147483647; decide), _, rfl, r.a, _, _, 2, rfl, rfl, hR1, rfl, ?_⟩⟩
      rw [upd_upd']
      refine ⟨_, rfl, _, _, rfl, rfl, ⟨by decide, by decide, by decide⟩, _, _, rfl, rfl, _, rfl, ?_⟩
      refine ite2 (fun z => ?_) (fun z => ?_)
      · have z' : (10 : Int) ^ 18 ≤ rs.ns.getD rs.a 0 := of_decide_eq_true z
        refine ⟨_, rfl, _, rfl, _, _, rfl, rfl, ⟨h0, h1⟩, _, rfl, r.a, _, _, 3, rfl, rfl, upd_same, rfl, ?_⟩
        rw [upd_upd']
        refine ⟨_, rfl, .inl ⟨_, rfl, _, rfl, _, _, rfl, rfl, h0, ?_⟩⟩
        exact fin { rs with a := rs.a + 1, b := (rs.b * 48271 + rs.ns.getD rs.a 0 + 11) % 2147483647, c := rs.ns.getD rs.a 0 / m } _ _ (by unfold tk; rw [if_neg c', if_neg (by rw [en]; omega)]; dsimp only; rw [if_pos z']) rfl rfl
      · have z' : ¬ (10 : Int) ^ 18 ≤ rs.ns.getD rs.a 0 := of_decide_eq_false (Bool.eq_false_iff.mpr z)
        refine ⟨_, rfl, .inl ⟨_, rfl, _, rfl, _, _, rfl, rfl, h0, ?_⟩⟩
        exact fin { rs with a := rs.a + 1, b := (rs.b * 48271 + rs.ns.getD rs.a 0 + 11) % 2147483647 } _ _ (by unfold tk; rw [if_neg c', if_neg (by rw [en]; omega)]; dsimp only; rw [if_neg z']) rfl rfl
end K05
namespace K05
open PySem PySem.Spec PyProof.Rows L2 DL
/-- a value is given, and P of it -/
def Gv {α : Type} (m : Mn α) (P : α → Prop) : Prop := ∀ rs, ∃ d rs', m rs = some (.val d, rs') ∧ P d
theorem Gv.bnd {α β : Type} {m : Mn α} {k : α → Mn β} {P : α → Prop} {Q : β → Prop} (h : Gv m P) (hk : ∀ a, P a → Gv (k a) Q) : Gv (DL.bnd m k) Q := fun rs => by
  obtain ⟨d, rs1, e, p⟩ := h rs
  obtain ⟨d2, rs2, e2, p2⟩ := hk d p rs1
  refine ⟨d2, rs2, ?_, p2⟩
  unfold DL.bnd
  rw [e]
  exact e2
theorem Gv.pur {α : Type} {a : α} {P : α → Prop} (h : P a) : Gv (DL.pur a) P := fun rs => ⟨a, rs, rfl, h⟩
theorem Gv.imp {α : Type} {m : Mn α} {P Q : α → Prop} (h : Gv m P) (i : ∀ a, P a → Q a) : Gv m Q := fun rs => by
  obtain ⟨d, rs1, e, p⟩ := h rs
  exact ⟨d, rs1, e, i d p⟩
theorem bnd_id {α : Type} (m : Mn α) : (DL.bnd m fun a => DL.pur a) = m := by
  funext rs
  unfold DL.bnd DL.pur
  cases h : m rs with
  | none => rfl
  | some q =>
    obtain ⟨q1, q2⟩ := q
    cases q1 <;> rfl
abbrev SpTk (f : Fs) : Prop := ∀ m : Int, 0 < m → m < 1073741824 → Gv (f [.row, .dat (.int m)]) fun d => ∃ i : Int, 0 ≤ i ∧ i < m ∧ d = .int i
theorem taken : SpTk tkF := fun m h0 h1 rs => by
  refine ⟨_, _, by simp only [tkF]; rw [if_pos ⟨h0, h1⟩], (tk m rs).1, (tk_range m rs h0).1, (tk_range m rs h0).2, rfl⟩
abbrev SpPick (f : Fs) : Prop := ∀ ds : List D, 0 < ds.length → ds.length < 1000 → Gv (f [.row, .dat (.list ds)]) fun d => d ∈ ds
theorem pick {f : Fs} (h : SpTk f) : SpPick (dFun 2 2 (d__law_pick f)) := by
  intro ds h0 h1
  simp [dFun_eq, d__law_pick, lenD, fin_bnS, bnd_bnd, bnS_bnd]
  refine Gv.bnd (h ds.length (by omega) (by omega)) fun d ⟨i, i0, i1, e⟩ => ?_
  subst e
  obtain ⟨j, rfl⟩ : ∃ j : Nat, i = (j : Int) := ⟨i.toNat, by omega⟩
  have hl : j < ds.length := by omega
  have q : ixD (.list ds) (.int (j : Int)) = some ds[j] := atI_nat (List.getElem?_eq_getElem hl)
  rw [q]
  exact Gv.pur (List.getElem_mem hl)
def IsWay (d : D) : Prop := ∃ a b c n e, d = wayD a b c n e
abbrev SpLawSem (f : Fs) : Prop := Gv (f [.row]) IsWay
theorem law_sem {f : Fs} (h : SpPick f) : SpLawSem (dFun 1 5 (d__law_semantics f)) := by
  show Gv (dFun 1 5 (d__law_semantics f) [.row]) _
  simp [dFun_eq, d__law_semantics, pPar_eq, fin_bnS, bnd_bnd, bnS_bnd, sq_bnS]
  refine Gv.bnd (h _ (by simp) (by simp)) fun d1 m1 => ?_
  refine Gv.bnd (h _ (by simp) (by simp)) fun d2 m2 => ?_
  refine Gv.bnd (h _ (by simp) (by simp)) fun d3 m3 => ?_
  refine Gv.bnd (h _ (by simp) (by simp)) fun d4 m4 => ?_
  refine Gv.bnd (h _ (by simp) (by simp)) fun d5 m5 => ?_
  refine Gv.pur ?_
  have p1 : ∃ a : Bool, d1 = .str (if a then "bag" else "set") := by
    simp at m1
    rcases m1 with e | e
    · exact ⟨true, e⟩
    · exact ⟨false, e⟩
  have p2 : ∃ a : Bool, d2 = .str (if a then "maximum" else "sum") := by
    simp at m2
    rcases m2 with e | e
    · exact ⟨true, e⟩
    · exact ⟨false, e⟩
  have p3 : ∃ a : Bool, d3 = .str (if a then "count" else "kind") := by
    simp at m3
    rcases m3 with e | e
    · exact ⟨true, e⟩
    · exact ⟨false, e⟩
  have p4 : ∃ a : N3, d4 = .str (Str.ofString a.s) := by
    simp at m4
    rcases m4 with e | e | e
    · exact ⟨.none, e⟩
    · exact ⟨.unknown, e⟩
    · exact ⟨.value, e⟩
  have p5 : ∃ a : Bool, d5 = .str (if a then "null" else "zero") := by
    simp at m5
    rcases m5 with e | e
    · exact ⟨true, e⟩
    · exact ⟨false, e⟩
  obtain ⟨a, rfl⟩ := p1
  obtain ⟨b, rfl⟩ := p2
  obtain ⟨c, rfl⟩ := p3
  obtain ⟨n, rfl⟩ := p4
  obtain ⟨e, rfl⟩ := p5
  exact ⟨a, b, c, n, e, rfl⟩
/-- valid under n -/
def Vl.okU (n : N3) : Vl → Bool
  | .nul => (match n with | .none => false | _ => true)
  | .int i => decide (0 ≤ i) && decide (i ≤ 9)
abbrev SpLawVal (f : Fs) : Prop := ∀ a b c n e, Gv (f [.row, .dat (wayD a b c n e)]) fun d => ∃ x : Vl, d = x.d ∧ x.okU n = true
theorem ne_none (n : N3) : neD (.str (Str.ofString n.s)) (.str "none") = some (match n with | .none => false | _ => true) := by cases n <;> simp [N3.s]
theorem law_val {ft fp : Fs} (h1 : SpTk ft) (h2 : SpPick fp) : SpLawVal (dFun 2 2 (d__law_value ft fp)) := by
  intro a b c n e
  simp [dFun_eq, d__law_value, way_3, ne_none, fin_bnS, bnd_bnd, bnS_bnd, sq_bnS]
  have rest : Gv (bnd (ft [Slot.row, Slot.dat (PyData.int 10)]) fun a => fp [Slot.row, Slot.dat (.list [.int 0, .int 0, .int 1, .int 1, .int 2, a])]) fun d => ∃ x : Vl, d = x.d ∧ x.okU n = true := by
    refine Gv.bnd (h1 10 (by decide) (by decide)) fun d ⟨i, i0, i1, e⟩ => ?_
    subst e
    refine Gv.imp (h2 _ (by simp) (by simp)) fun d m => ?_
    simp at m
    rcases m with e | e | e | e
    · exact ⟨.int 0, e, by simp [Vl.okU]⟩
    · exact ⟨.int 1, e, by simp [Vl.okU]⟩
    · exact ⟨.int 2, e, by simp [Vl.okU]⟩
    · exact ⟨.int i, e, by simp [Vl.okU, i0]; omega⟩
  have first : Gv (bnd (ft [Slot.row, Slot.dat (PyData.int 4)]) fun a => bnd (lft (eqD a (PyData.int 0))) fun a => if a = true then DL.pur PyData.none else bnd (ft [Slot.row, Slot.dat (PyData.int 10)]) fun a => fp [Slot.row, Slot.dat (.list [.int 0, .int 0, .int 1, .int 1, .int 2, a])]) fun d => ∃ x : Vl, d = x.d ∧ (match x with | .nul => true | .int i => decide (0 ≤ i) && decide (i ≤ 9)) = true := by
    refine Gv.bnd (h1 4 (by decide) (by decide)) fun d ⟨i, i0, i1, e⟩ => ?_
    subst e
    simp only [eq_ii, lft_some', bnd_pur]
    split
    · exact Gv.pur ⟨.nul, rfl, rfl⟩
    · refine Gv.imp rest fun d ⟨x, e, hx⟩ => ⟨x, e, ?_⟩
      cases x with
      | nul => rfl
      | int i => exact hx
  cases n with
  | none => simpa [N3.s, bnd_id] using rest
  | unknown =>
    simp [N3.s, bnd_id]
    refine Gv.imp first fun d ⟨x, e, hx⟩ => ⟨x, e, ?_⟩
    cases x <;> exact hx
  | value =>
    simp [N3.s, bnd_id]
    refine Gv.imp first fun d ⟨x, e, hx⟩ => ⟨x, e, ?_⟩
    cases x <;> exact hx
def IsFlt (b : Nat) (d : D) : Prop := ∃ x : Flt, d = x.d ∧ x.ok = true ∧ x.size ≤ b
abbrev SpLawFlt (f : Fs) (m : Nat) : Prop := ∀ k : Nat, k < m → Gv (f [.row, .dat (.int k)]) (IsFlt (2 ^ (k + 1) - 1))
theorem int_b (b : Bool) : intD [.bool b] = some (.int (if b then 1 else 0)) := rfl
theorem col_i {i : Int} (h0 : 0 ≤ i) (h1 : i < 2) : PyData.int i = colD (decide (i = 1)) := by
  rcases (by omega : i = 0 ∨ i = 1) with rfl | rfl <;> rfl
theorem law_flt {ft fp ff : Fs} {m : Nat} (h1 : SpTk ft) (h2 : SpPick fp) (h3 : SpLawFlt ff m) : SpLawFlt (dFun 2 4 (d__law_filter ft fp ff)) (m + 1) := by
  intro k hk
  have hpow : 1 ≤ 2 ^ (k + 1) - 1 := by
    have : 2 ^ 1 ≤ 2 ^ (k + 1) := Nat.pow_le_pow_right (by decide) (by omega)
    omega
  -- the four short ones
  have short : ∀ i : Int, 0 ≤ i → i < 4 → Gv (bnd (fp [.row, .dat (.list [.str "less", .str "equal"])]) fun w => bnd (ft [.row, .dat (.int 2)]) fun a => bnd (ft [.row, .dat (.int 4)]) fun b => bnd (ft [.row, .dat (.int 2)]) fun c => bnd (ft [.row, .dat (.int 2)]) fun e =>
      lft (ixD (.list [.tuple [w, a, b], .tuple [w, c, .int 1], .tuple [.str "same"], .tuple [.str "null", e]]) (.int i))) (IsFlt (2 ^ (k + 1) - 1)) := by
    intro i i0 i1
    refine Gv.bnd (h2 _ (by simp) (by simp)) fun w mw => ?_
    refine Gv.bnd (h1 2 (by decide) (by decide)) fun d ⟨a, a0, a1, e⟩ => ?_
    subst e
    refine Gv.bnd (h1 4 (by decide) (by decide)) fun d ⟨b, b0, b1, e⟩ => ?_
    subst e
    refine Gv.bnd (h1 2 (by decide) (by decide)) fun d ⟨c, c0, c1, e⟩ => ?_
    subst e
    refine Gv.bnd (h1 2 (by decide) (by decide)) fun d ⟨q, q0, q1, e⟩ => ?_
    subst e
    simp at mw
    rw [col_i a0 a1, col_i c0 c1, col_i q0 q1]
    rcases (by omega : i = 0 ∨ i = 1 ∨ i = 2 ∨ i = 3) with rfl | rfl | rfl | rfl
    · simp only [ix_l0, lft_some']
      refine Gv.pur ?_
      rcases mw with rfl | rfl
      · exact ⟨.less (decide (a = 1)) b, rfl, by simp [Flt.ok, b0]; omega, hpow⟩
      · exact ⟨.equal (decide (a = 1)) b, rfl, by simp [Flt.ok, b0]; omega, hpow⟩
    · simp only [ix_l1, lft_some']
      refine Gv.pur ?_
      rcases mw with rfl | rfl
      · exact ⟨.less (decide (c = 1)) 1, rfl, rfl, hpow⟩
      · exact ⟨.equal (decide (c = 1)) 1, rfl, rfl, hpow⟩
    · simp only [ix_l2, lft_some']
      exact Gv.pur ⟨.same, rfl, rfl, hpow⟩
    · simp only [ix_l3, lft_some']
      exact Gv.pur ⟨.null (decide (q = 1)), rfl, rfl, hpow⟩
  have lt_ii : ∀ i j : Int, ltD (.int i) (.int j) = some (decide (i < j)) := fun i j => rfl
  simp [dFun_eq, d__law_filter, fin_bnS, bnd_bnd, bnS_bnd, sq_bnS, gtD, mulxD, addD, subD, int_b, bnd_id]
  refine Gv.bnd (P := fun d => ∃ i : Int, 0 ≤ i ∧ i < 8 ∧ (0 < k ∨ i < 5) ∧ d = .int i) ?_ fun d ⟨i, i0, i1, i2, e⟩ => ?_
  · by_cases hk0 : 0 < k
    · rw [if_pos hk0]
      exact Gv.imp (h1 (5 + 3 * 1) (by decide) (by decide)) fun d ⟨i, i0, i1, e⟩ => ⟨i, i0, i1, .inl hk0, e⟩
    · rw [if_neg hk0]
      exact Gv.imp (h1 (5 + 3 * 0) (by decide) (by decide)) fun d ⟨i, i0, i1, e⟩ => ⟨i, i0, by omega, .inr i1, e⟩
  subst e
  simp only [lt_ii, eq_ii, lft_some', bnd_pur, decide_eq_true_eq, beq_iff_eq]
  split
  · rename_i hs
    exact short i i0 hs
  · split
    · exact Gv.pur ⟨.less false 1, rfl, rfl, hpow⟩
    · have hk0 : 0 < k := by omega
      have hkk : ((k : Int) - 1) = ((k - 1 : Nat) : Int) := by omega
      rw [hkk]
      have hr := h3 (k - 1) (by omega)
      rw [show k - 1 + 1 = k by omega] at hr
      have hp2 : 2 ^ (k + 1) = 2 * 2 ^ k := by rw [Nat.pow_succ]; omega
      have hp1 : 2 ≤ 2 ^ k := by
        have : 2 ^ 1 ≤ 2 ^ k := Nat.pow_le_pow_right (by decide) hk0
        omega
      split
      · refine Gv.bnd hr fun d ⟨x, e, ok, sz⟩ => ?_
        subst e
        exact Gv.pur ⟨.not x, rfl, ok, by simp only [Flt.size]; omega⟩
      · refine Gv.bnd (h2 _ (by simp) (by simp)) fun w mw => ?_
        refine Gv.bnd hr fun d ⟨x, e, ok, sz⟩ => ?_
        subst e
        refine Gv.bnd hr fun d ⟨y, e, ok2, sz2⟩ => ?_
        subst e
        simp at mw
        refine Gv.pur ?_
        rcases mw with rfl | rfl
        · exact ⟨.and x y, rfl, by simp [Flt.ok, ok, ok2], by simp only [Flt.size]; omega⟩
        · exact ⟨.or x y, rfl, by simp [Flt.ok, ok, ok2], by simp only [Flt.size]; omega⟩
abbrev SpAlike (f : Fs) : Prop := ∀ t, f [.dat (td t), .dat (td t)] = pur (.bool true)
theorem law_alike {f : Fs} : SpAlike (dFun 2 3 (d__law_alike f)) := by
  intro t
  rcases t with _ | b <;> simp [dFun_eq, d__law_alike, td, isA, truD, isD]
abbrev SpChkS (f : Fs) : Prop := ∀ a b c n e, f [.dat (wayD a b c n e)] = pur .none
theorem chk_sem {f : Fs} (h : SpSem f) : SpChkS (dFun 1 1 (d_check_semantics f)) := by
  intro a b c n e
  simp [dFun_eq, d_check_semantics, h _ _ _ _ _, truD]
abbrev SpChkF (f : Fs) : Prop := ∀ x : Flt, x.ok = true → x.size ≤ 20 → f [.dat x.d] = pur .none
theorem chk_flt {f : Fs} (h : SpIsFilter f) : SpChkF (dFun 1 1 (d_check_filter f)) := by
  intro x h1 h2
  simp [dFun_eq, d_check_filter, h x h1 h2, truD]
theorem okU_v {n : N3} {x : Vl} (h : x.okU n = true) : vunder n x.d = true := by
  cases x with
  | nul => cases n <;> simp_all [Vl.okU, Vl.d, vunder]
  | int i => exact h
theorem okU_nn {n : N3} {x : Vl} (h : x.okU n = true) : x.nn = true := by
  cases x with
  | nul => rfl
  | int i => simp [Vl.okU] at h; simp [Vl.nn, h.1]
theorem vl_nd (x : Vl) : NoDict x.d := by intro k e; cases x <;> cases e
abbrev SpTr (f : Fs) : Prop := ∀ a b c n e (x : Flt) u v, x.ok = true → x.size ≤ 20 → Vl.okU n u = true → Vl.okU n v = true → f [.dat (wayD a b c n e), .dat x.d, .dat (lineD u v)] = pur (td (tv n u v x))
theorem truth_ok {fs ff fr ft : Fs} (h1 : SpChkS fs) (h2 : SpChkF ff) (h3 : SpRow fr) (h4 : SpTruth ft 20) : SpTr (dFun 3 3 (d_truth fs ff fr ft)) := by
  intro a b c n e x u v hx hs hu hv
  have q := h3 a b c n e u.d v.d (vl_nd u) (vl_nd v)
  rw [okU_v hu, okU_v hv] at q
  have h4' := h4 x hs a b c n e u v
  rw [lineD] at h4' ⊢
  simp [dFun_eq, d_truth, h1 _ _ _ _ _, h2 x hx hs, truD, q, h4']
def bads : List D := [.none, .tuple [], .tuple [.int 1], .list [.int 1, .int 2], .tuple [.int 1, .int 2, .int 3], .tuple [.int 10, .int 0], .tuple [.int 0, .int (-1)], .tuple [.bool true, .int 0], .tuple [.str "1", .int 1]]
def nulls : List D := [.tuple [.none, .int 1], .tuple [.int 1, .none], .tuple [.none, .none]]
def BadD (n : N3) (d : D) : Prop := d ∈ bads ∨ n = .none ∧ d ∈ nulls
abbrev SpRowNo (f : Fs) : Prop := ∀ a b c n e d, BadD n d → f [.dat (wayD a b c n e), .dat d] = pur (.bool false)
theorem row_no {f : Fs} (hf : SpVu f) : SpRowNo (dFun 2 3 (d_is_row f)) := by
  intro a b c n e d h
  have two : ∀ u v, NoDict u → NoDict v → (vunder n u && vunder n v) = false → dFun 2 3 (d_is_row f) [.dat (wayD a b c n e), .dat (.tuple [u, v])] = pur (.bool false) := fun u v hu hv z => by
    rw [is_row hf a b c n e u v hu hv, z]
  have nn : NoDict .none := by intro k e; cases e
  have ns : ∀ x, NoDict (.str x) := by intro x k e; cases e
  have nb : ∀ x, NoDict (.bool x) := by intro x k e; cases e
  rcases h with h | ⟨rfl, h⟩
  · simp only [bads, List.mem_cons, List.not_mem_nil, or_false] at h
    rcases h with rfl | rfl | rfl | rfl | rfl | rfl | rfl | rfl | rfl
    · simp [dFun_eq, d_is_row, isA, truD]
    · simp [dFun_eq, d_is_row, isA, truD, lenD, c_ROW_LENGTH]
    · simp [dFun_eq, d_is_row, isA, truD, lenD, c_ROW_LENGTH]
    · simp [dFun_eq, d_is_row, isA, truD]
    · simp [dFun_eq, d_is_row, isA, truD, lenD, c_ROW_LENGTH]
    · exact two _ _ (int_nd _) (int_nd _) (by simp [vunder, isIntTo])
    · exact two _ _ (int_nd _) (int_nd _) (by simp [vunder, isIntTo])
    · exact two _ _ (nb _) (int_nd _) (by simp [vunder, isIntTo])
    · exact two _ _ (ns _) (int_nd _) (by simp [vunder, isIntTo])
  · simp only [nulls, List.mem_cons, List.not_mem_nil, or_false] at h
    rcases h with rfl | rfl | rfl
    · exact two _ _ nn (int_nd _) rfl
    · exact two _ _ (int_nd _) nn (by simp [vunder])
    · exact two _ _ nn nn rfl
abbrev SpTrNo (f : Fs) : Prop := ∀ a b c n e (x : Flt) d, x.ok = true → x.size ≤ 20 → BadD n d → f [.dat (wayD a b c n e), .dat x.d, .dat d] = exc "BadRow" none
theorem truth_no {fs ff fr ft : Fs} (h1 : SpChkS fs) (h2 : SpChkF ff) (h3 : SpRowNo fr) : SpTrNo (dFun 3 3 (d_truth fs ff fr ft)) := by
  intro a b c n e x d hx hs hd
  simp [dFun_eq, d_truth, h1 _ _ _ _ _, h2 x hx hs, truD, h3 a b c n e d hd]
end K05
namespace K05
open PySem PySem.Spec PyProof.Rows L2 DL
structure Df (G : Gm) : Prop where
  h_is_semantics : HasF G "is_semantics" st_is_semantics P_is_semantics
  h_check_semantics : HasF G "check_semantics" st_check_semantics P_check_semantics
  h_is_integer_to : HasF G "is_integer_to" st_is_integer_to P_is_integer_to
  h_is_row : HasF G "is_row" st_is_row P_is_row
  h__is_value_under : HasF G "_is_value_under" st__is_value_under P__is_value_under
  h_value_order : HasF G "value_order" st_value_order P_value_order
  h_tuples_of : HasF G "tuples_of" st_tuples_of P_tuples_of
  h__has_form : HasF G "_has_form" st__has_form P__has_form
  h__fits : HasF G "_fits" st__fits P__fits
  h__inner_tuples : HasF G "_inner_tuples" st__inner_tuples P__inner_tuples
  h_is_filter : HasF G "is_filter" st_is_filter P_is_filter
  h_check_filter : HasF G "check_filter" st_check_filter P_check_filter
  h_truth : HasF G "truth" st_truth P_truth
  h_truth_of : HasF G "truth_of" st_truth_of P_truth_of
  h__comparison : HasF G "_comparison" st__comparison P__comparison
  h_connected : HasF G "connected" st_connected P_connected
  h__negation : HasF G "_negation" st__negation P__negation
  h__conjunction : HasF G "_conjunction" st__conjunction P__conjunction
  h__disjunction : HasF G "_disjunction" st__disjunction P__disjunction
  h__law_taken : HasF G "_law_taken" st__law_taken P__law_taken
  h__law_pick : HasF G "_law_pick" st__law_pick P__law_pick
  h__law_alike : HasF G "_law_alike" st__law_alike P__law_alike
  h__law_semantics : HasF G "_law_semantics" st__law_semantics P__law_semantics
  h__law_rank : HasF G "_law_rank" st__law_rank P__law_rank
  h__law_value : HasF G "_law_value" st__law_value P__law_value
  h__law_filter : HasF G "_law_filter" st__law_filter P__law_filter
  h__law_join : HasF G "_law_join" st__law_join P__law_join
  h__law_truth : HasF G "_law_truth" st__law_truth P__law_truth
section
variable {G : Gm}
theorem fo_int_to (B : Tp G) (h : Df G) : ∃ f, FO G 1 "is_integer_to" 2 f ∧ SpIntTo f := ⟨_, fo_has h.h_is_integer_to sc_is_integer_to (s_is_integer_to B), int_to⟩
theorem fo_vu (B : Tp G) (h : Df G) : ∃ f, FO G 2 "_is_value_under" 2 f ∧ SpVu f := by
  obtain ⟨g, F, p⟩ := fo_int_to B h
  exact ⟨_, fo_has (k := 1) h.h__is_value_under sc__is_value_under (s__is_value_under B F (by decide)), vu p⟩
theorem fo_row (B : Tp G) (h : Df G) : ∃ f, FO G 3 "is_row" 2 f ∧ SpRow f ∧ SpRowNo f := by
  obtain ⟨g, F, p⟩ := fo_vu B h
  exact ⟨_, fo_has (k := 2) h.h_is_row sc_is_row (s_is_row B F (by decide)), is_row p, row_no p⟩
theorem fo_sem (B : Tp G) (h : Df G) : ∃ f, FO G 2 "is_semantics" 1 f ∧ SpSem f := ⟨_, fo_has (k := 1) h.h_is_semantics sc_is_semantics (s_is_semantics B (by decide)), sem⟩
theorem fo_chk (B : Tp G) (h : Df G) : ∃ f, FO G 3 "check_semantics" 1 f ∧ SpChkS f := by
  obtain ⟨g, F, p⟩ := fo_sem B h
  exact ⟨_, fo_has (k := 2) h.h_check_semantics sc_check_semantics (s_check_semantics B F (by decide)), chk_sem p⟩
theorem fo_vo (h : Df G) : ∃ f, FO G 1 "value_order" 1 f ∧ SpVo f := ⟨_, fo_has h.h_value_order sc_value_order s_value_order, vo⟩
theorem fo_fits (B : Tp G) (h : Df G) : ∃ f, FO G 2 "_fits" 2 f ∧ SpFits f := by
  obtain ⟨g, F, p⟩ := fo_int_to B h
  exact ⟨_, fo_has (k := 1) h.h__fits sc__fits (s__fits B F (by decide)), fits p⟩
theorem fo_form (B : Tp G) (h : Df G) : ∃ f, FO G 3 "_has_form" 2 f ∧ SpForm f := by
  obtain ⟨g, F, p⟩ := fo_fits B h
  exact ⟨_, fo_has (k := 2) h.h__has_form sc__has_form (s__has_form B F (by decide)), has_form p⟩
theorem fo_inner (B : Tp G) (h : Df G) : ∃ f, FO G 3 "_inner_tuples" 2 f ∧ SpInner f := ⟨_, fo_has (k := 2) h.h__inner_tuples sc__inner_tuples (s__inner_tuples B), inner_f⟩
theorem fo_tup (B : Tp G) (h : Df G) : ∃ f, FO G 4 "tuples_of" 3 f ∧ SpTup f := by
  obtain ⟨g, F, p⟩ := fo_form B h
  obtain ⟨g2, F2, p2⟩ := fo_inner B h
  exact ⟨_, fo_has (k := 3) h.h_tuples_of sc_tuples_of (s_tuples_of B F (by decide) F2 (by decide)), tuples_ok p p2⟩
theorem fo_isf (B : Tp G) (h : Df G) : ∃ f, FO G 5 "is_filter" 1 f ∧ SpIsFilter f := by
  obtain ⟨g, F, p⟩ := fo_tup B h
  exact ⟨_, fo_has (k := 4) h.h_is_filter sc_is_filter (s_is_filter B F (by decide)), is_filter p⟩
theorem fo_chkf (B : Tp G) (h : Df G) : ∃ f, FO G 6 "check_filter" 1 f ∧ SpChkF f := by
  obtain ⟨g, F, p⟩ := fo_isf B h
  exact ⟨_, fo_has (k := 5) h.h_check_filter sc_check_filter (s_check_filter B F (by decide)), chk_flt p⟩
theorem fo_cmp (B : Tp G) (h : Df G) : ∃ f, FO G 2 "_comparison" 4 f ∧ SpCmp f := by
  obtain ⟨g, F, p⟩ := fo_vo h
  exact ⟨_, fo_has (k := 1) h.h__comparison sc__comparison (s__comparison B F (by decide)), cmp p⟩
theorem fo_conn (h : Df G) : ∃ f, FO G 2 "connected" 2 f ∧ SpConn f := ⟨_, fo_has (k := 1) h.h_connected sc_connected (s_connected (fo_has (k := 0) h.h__negation sc__negation s__negation) (by decide) (fo_has (k := 0) h.h__conjunction sc__conjunction s__conjunction) (by decide) (fo_has (k := 0) h.h__disjunction sc__disjunction s__disjunction) (by decide)), conn neg conj disj⟩
theorem fo_to (B : Tp G) (h : Df G) : ∀ m : Nat, ∃ f, FO G (10 + m) "truth_of" 3 f ∧ SpTruth f m
  | 0 => ⟨_, fo_zero h.h_truth_of rfl, fun x hx => absurd (size_pos x) (by omega)⟩
  | m + 1 => by
    obtain ⟨g0, F0, p0⟩ := fo_to B h m
    obtain ⟨g1, F1, p1⟩ := fo_conn h
    obtain ⟨g4, F4, p4⟩ := fo_cmp B h
    exact ⟨_, fo_has (k := 10 + m) h.h_truth_of sc_truth_of (s_truth_of B F1 (by omega) F0 (by omega) F4 (by omega) (by omega)), truth_of p1 p0 p4⟩
theorem fo_truth (B : Tp G) (h : Df G) : ∃ f, FO G 31 "truth" 3 f ∧ SpTr f ∧ SpTrNo f := by
  obtain ⟨g1, F1, p1⟩ := fo_chk B h
  obtain ⟨g2, F2, p2⟩ := fo_chkf B h
  obtain ⟨g3, F3, p3, p3'⟩ := fo_row B h
  obtain ⟨g4, F4, p4⟩ := fo_to B h 20
  exact ⟨_, fo_has (k := 30) h.h_truth sc_truth (s_truth B F1 (by omega) F2 (by omega) F3 (by omega) F4 (by omega)), truth_ok p1 p2 p3 p4, truth_no p1 p2 p3'⟩
theorem fo_pick (B : Tp G) (h : Df G) : ∃ f, FO G 2 "_law_pick" 2 f ∧ SpPick f := ⟨_, fo_has (k := 1) h.h__law_pick sc__law_pick (s__law_pick B (fo_taken h.h__law_taken B) (by decide)), pick taken⟩
theorem fo_lsem (B : Tp G) (h : Df G) : ∃ f, FO G 3 "_law_semantics" 1 f ∧ SpLawSem f := by
  obtain ⟨g, F, p⟩ := fo_pick B h
  exact ⟨_, fo_has (k := 2) h.h__law_semantics sc__law_semantics (s__law_semantics F (by decide)), law_sem p⟩
theorem fo_lval (B : Tp G) (h : Df G) : ∃ f, FO G 3 "_law_value" 2 f ∧ SpLawVal f := by
  obtain ⟨g, F, p⟩ := fo_pick B h
  exact ⟨_, fo_has (k := 2) h.h__law_value sc__law_value (s__law_value (fo_taken h.h__law_taken B) (by decide) F (by decide)), law_val taken p⟩
theorem fo_lflt (B : Tp G) (h : Df G) : ∀ m : Nat, ∃ f, FO G (5 + m) "_law_filter" 2 f ∧ SpLawFlt f m
  | 0 => ⟨_, fo_zero h.h__law_filter rfl, fun k hk => absurd hk (by omega)⟩
  | m + 1 => by
    obtain ⟨g0, F0, p0⟩ := fo_lflt B h m
    obtain ⟨g1, F1, p1⟩ := fo_pick B h
    exact ⟨_, fo_has (k := 5 + m) h.h__law_filter sc__law_filter (s__law_filter B (fo_taken h.h__law_taken B) (by omega) F1 (by omega) F0 (by omega)), law_flt taken p1 p0⟩
theorem fo_alike (B : Tp G) (h : Df G) : ∃ f, FO G 3 "_law_alike" 2 f ∧ SpAlike f := ⟨_, fo_has (k := 2) h.h__law_alike sc__law_alike (s__law_alike B (fo_zero (k := 2) h.h__law_alike rfl) (by decide)), law_alike⟩
theorem fo_join (h : Df G) : ∃ f, FO G 3 "_law_join" 3 f ∧ SpJoin f := ⟨_, fo_has (k := 2) h.h__law_join sc__law_join (s__law_join (by decide)), joins⟩
theorem fo_rank (h : Df G) : ∃ f, FO G 3 "_law_rank" 1 f ∧ SpRank f := ⟨_, fo_has (k := 2) h.h__law_rank sc__law_rank s__law_rank, rank⟩
theorem fo_lt (B : Tp G) (h : Df G) : ∀ m : Nat, ∃ f, FO G (10 + m) "_law_truth" 3 f ∧ SpLawTruth f m
  | 0 => ⟨_, fo_zero h.h__law_truth rfl, fun x hx => absurd (size_pos x) (by omega)⟩
  | m + 1 => by
    obtain ⟨g0, F0, p0⟩ := fo_lt B h m
    obtain ⟨g1, F1, p1⟩ := fo_join h
    obtain ⟨g2, F2, p2⟩ := fo_rank h
    exact ⟨_, fo_has (k := 10 + m) h.h__law_truth sc__law_truth (s__law_truth B F0 (by omega) F1 (by omega) F2 (by omega) (by omega)), law_truth p0 p1 p2⟩
end
end K05
namespace K05
open PySem PySem.Spec PyProof.Rows L2 DL
theorem pss_given {X : Cx} {P : Prop} {b : List Stmt} {t : TS} (h : P → PSs X b t) : PSs X b (fun D σ H => P ∧ (σ.length = X.N.length → t D σ H)) := ⟨fun pins s σ H D I q => (h q.1).run pins s σ H D I (q.2 I.len)⟩
abbrev Nbad : List Str := ["work", "e"]
theorem scbad : FnScope Nbad ["work"] (defScope st__law_bad_row) := ⟨rfl, rfl, rfl, by decide +kernel, rfl, by decide +kernel, by decide +kernel⟩
structure BadF (G : Gm) (CS CB : Addr) : Prop where
  q : G.mg "QueryError" = some (.ref CS)
  b : G.mg "BadRow" = some (.ref CB)
  c : PySem.W.exmOne G.K (.ref CB) (.ref CS) = some true
  e : ExcC G.K CB
  k : PySem.W.kitOne G.K (.ref CB) (.ref CB) = some true
def TTbad (CB : Addr) : (XK → Hp → VK → Prop) → Hp → VK → Prop := fun tl H Q =>
  tl (fun cls dd H' => cls = .ref CB ∧ dd = none ∧ Q (.bl true) H') H (fun _ H' => Q (.bl false) H')
theorem bad_gives {G : Gm} {X : Cx} {CS CB g : Addr} {cdg : Value} {q : Str} (hK : X.K = G.K) (hmg : X.mg = G.mg) (F : BadF G CS CB) (B : Tp G) :
    LamX.GivesTo X Nbad "_law_bad_row" (defScope st__law_bad_row) g cdg (defBody st__law_bad_row) "work" q (TTbad CB) := by
  intro f c' s H Q tl act hc h
  refine ⟨_, pss_cons (ps_try_as (X := (cxOf C8.CX0 X.prog X.w X.K X.mg X.base Nbad "_law_bad_row" (defScope st__law_bad_row) g cdg X.A X.stack s H C8.E0).nox) (i := 1) (c := .ref CS)
      (tb := fun W D σ H => ∃ Ech : XK, (∀ cls d σ' H', Ech cls d H' → W cls d σ' H') ∧ σ[0]? = some (some (.ref f)) ∧ H c' = some (LamX.CodeO c' q) ∧ tl Ech H (fun _ H' => D.nx σ H'))
      (ts := fun a cls d D σ H => (cls = .ref CB ∧ d = none) ∧ (σ.length = Nbad.length → tSeq (tRet (tCB (rIsE X.K CB a) (tCons (fun σ H Q => ∃ v, σ[1]? = some (some v) ∧ Q v H) (tCons (tC (.ref CB)) tNil)))) tNext D σ H))
      rfl rfl scbad.nd rfl rfl ⟨rfl, by decide, .inl (by show X.mg _ = _; rw [hmg]; exact F.q)⟩ LamX.takes0 (fun W pn xe tk _ => ?_) (fun a oe cls d pn hz hf => ?_)) (pss_one (ps_ret pe_bl)), ?_⟩
  · refine ⟨fun pins s' σ H' D I h' => ?_⟩
    obtain ⟨Ech, hW, h1, h2, h3⟩ := h'
    exact (pss_one (ps_expr (act W pn xe Ech _ _ tk hW))).run pins s' σ H' D I ⟨h1, h2, h3⟩
  · refine pss_given fun ⟨e1, e2⟩ => ?_
    subst e1 e2
    have C : ExcC X.K CB := by rw [hK]; exact F.e
    exact pss_one (ps_ret (pe_callB (call_isE C hz hf) rfl (by show X.mg _ = none; rw [hmg]; exact B.b_isinstance) PyProof.Rows.boot_isinstance (pa_cons (pv 1) (pa_cons (pe_glob (v := .ref CB) (u := .ref CB) rfl (by show X.mg _ = _; rw [hmg]; exact F.b) rfl) pa_nil))))
  · have h0 : (L2.start Nbad [V.ref f])[0]? = some (some (V.ref f)) := rfl
    refine ⟨fun cls dd H' => cls = .ref CB ∧ dd = none ∧ Q (.bl true) H', fun cls d σ' H' ⟨e1, e2, e3⟩ => ?_, h0, hc, h⟩
    subst e1 e2
    refine ⟨true, by show PySem.W.exmOne X.K _ _ = _; rw [hK]; exact F.c, fun _ a ha => ⟨⟨rfl, rfl⟩, fun hl => ?_⟩, fun z => by cases z⟩
    have h1 : (σ'.set 1 (some (V.ref a)))[1]? = some (some (V.ref a)) := by
      rw [List.length_set] at hl
      exact List.getElem?_set_self (by rw [hl]; decide)
    exact ⟨_, h1, .ref CB, .ref CB, true, rfl, fun u r => r, by rw [hK]; exact F.k, e3⟩
end K05
namespace K05
open PySem PySem.Spec PyProof.Rows L2 DL
def dTurn (f__law_semantics : Fs) (f__law_filter : Fs) (f__law_value : Fs) (f_is_filter : Fs) (f__law_alike : Fs) (f_truth : Fs) (f__law_truth : Fs) : Ev → Ms := (seqM (pTgt (.tup [4, 5]) (dTup (dCons (dCl 1 f__law_semantics (dRow 1 (dNil))) (dCons (dCl 2 f__law_filter (dRow 1 (dCons (dLit (.int 3)) (dNil)))) (dNil)))))
    (seqM (pSet 6 (dTup (dCons (dCl 2 f__law_value (dRow 1 (dCons (dVar 4) (dNil)))) (dCons (dCl 2 f__law_value (dRow 1 (dCons (dVar 4) (dNil)))) (dNil)))))
    (pIf (dOr (dCmp isnD (dCl 1 f_is_filter (dCons (dVar 5) (dNil))) (dLit (.bool true))) (dNot (dTru (dCl 2 f__law_alike (dCons (dCl 3 f_truth (dCons (dVar 4) (dCons (dVar 5) (dCons (dVar 6) (dNil))))) (dCons (dCl 3 f__law_truth (dCons (dVar 4) (dCons (dVar 5) (dCons (dVar 6) (dNil))))) (dNil))))))) (pRet (dLit (.bool false))) (sNil))))
def dTurns (f__law_semantics : Fs) (f__law_filter : Fs) (f__law_value : Fs) (f_is_filter : Fs) (f__law_alike : Fs) (f_truth : Fs) (f__law_truth : Fs) : Ev → Ms := sFor false (dRng rng1 (dCons (dLit (.int 10)) (dNil))) (.name 2) (dTurn f__law_semantics f__law_filter f__law_value f_is_filter f__law_alike f_truth f__law_truth)
def dPickBad (f__law_pick : Fs) : Ev → Ms := pSet 3 (dCl 2 f__law_pick (dRow 1 (dCons (dLst (dCons (dLit .none) (dCons (dTup (dNil)) (dCons (dTup (dCons (dLit (.int 1)) (dNil))) (dCons (dLst (dCons (dLit (.int 1)) (dCons (dLit (.int 2)) (dNil)))) (dCons (dTup (dCons (dLit (.int 1)) (dCons (dLit (.int 2)) (dCons (dLit (.int 3)) (dNil))))) (dCons (dTup (dCons (dLit (.int 10)) (dCons (dLit (.int 0)) (dNil)))) (dCons (dTup (dCons (dLit (.int 0)) (dCons (dUn negD (dLit (.int 1))) (dNil)))) (dCons (dTup (dCons (dLit (.bool true)) (dCons (dLit (.int 0)) (dNil)))) (dCons (dTup (dCons (dLit (.str "1")) (dCons (dLit (.int 1)) (dNil)))) (dNil))))))))))) (dNil))))
def dLam1 (f_truth : Fs) : Ev → Mn D := dCl 3 f_truth (dCons (dVar 4) (dCons (dVar 5) (dCons (dVar 3) (dNil))))
def dLam2 (f_truth f__law_pick : Fs) : Ev → Mn D := dCl 3 f_truth (dCons (dTup (dCons (dLit (.str "bag")) (dCons (dLit (.str "sum")) (dCons (dLit (.str "count")) (dCons (dLit (.str "none")) (dCons (dLit (.str "zero")) (dNil))))))) (dCons (dVar 5) (dCons (dCl 2 f__law_pick (dRow 1 (dCons (dLst (dCons (dTup (dCons (dLit .none) (dCons (dLit (.int 1)) (dNil)))) (dCons (dTup (dCons (dLit (.int 1)) (dCons (dLit .none) (dNil)))) (dCons (dTup (dCons (dLit .none) (dCons (dLit .none) (dNil)))) (dNil))))) (dNil)))) (dNil))))
abbrev lawBody : List Stmt := defBody st_law
abbrev lawAt (j : Nat) : Stmt := lawBody.getD j (.Pass ⟨0, 0, 0, 0⟩)
def lamBody : Stmt → Expr
  | .If (.UnaryOp .Not (.Call _ [.Lambda _ b _ _] _ _) _) _ _ _ => b
  | .Return (some (.Call _ [.Lambda _ b _ _] _ _)) _ => b
  | _ => .Constant .none 0 ⟨0, 0, 0, 0⟩
def lamScope : Stmt → Scope
  | .If (.UnaryOp .Not (.Call _ [.Lambda _ _ s _] _ _) _) _ _ _ => s
  | .Return (some (.Call _ [.Lambda _ _ s _] _ _)) _ => s
  | _ => defScope st_law
abbrev sxL : Sx := ⟨defScope st_law, fun _ => true⟩
section
variable {G : Gm} {k : Nat}
theorem s_turns (B : Tp G) {j__law_semantics : Nat} {f__law_semantics : Fs} (F__law_semantics : FO G j__law_semantics "_law_semantics" 1 f__law_semantics) (h__law_semantics : j__law_semantics ≤ k) {j__law_filter : Nat} {f__law_filter : Fs} (F__law_filter : FO G j__law_filter "_law_filter" 2 f__law_filter) (h__law_filter : j__law_filter ≤ k) {j__law_value : Nat} {f__law_value : Fs} (F__law_value : FO G j__law_value "_law_value" 2 f__law_value) (h__law_value : j__law_value ≤ k) {j_is_filter : Nat} {f_is_filter : Fs} (F_is_filter : FO G j_is_filter "is_filter" 1 f_is_filter) (h_is_filter : j_is_filter ≤ k) {j__law_alike : Nat} {f__law_alike : Fs} (F__law_alike : FO G j__law_alike "_law_alike" 2 f__law_alike) (h__law_alike : j__law_alike ≤ k) {j_truth : Nat} {f_truth : Fs} (F_truth : FO G j_truth "truth" 3 f_truth) (h_truth : j_truth ≤ k) {j__law_truth : Nat} {f__law_truth : Fs} (F__law_truth : FO G j__law_truth "_law_truth" 3 f__law_truth) (h__law_truth : j__law_truth ≤ k) : SS G k sxL N_law (lawAt 1) (dTurns f__law_semantics f__law_filter f__law_value f_is_filter f__law_alike f_truth f__law_truth) :=
    s_for false (i_range1 (a_cons (e_int) (a_nil)) B.b_range) (g_name 2) (s_cons (P_tgt (e_tup (a_cons (e_call F__law_semantics (a_row 1 (a_nil)) h__law_semantics) (a_cons (e_call F__law_filter (a_row 1 (a_cons (e_int) (a_nil))) h__law_filter) (a_nil)))) (g_tup [4, 5] (.cons (by rfl) (by rfl) (.cons (by rfl) (by rfl) (.nil)))))
    (s_cons (P_set 6 (e_tup (a_cons (e_call F__law_value (a_row 1 (a_cons (e_var 4) (a_nil))) h__law_value) (a_cons (e_call F__law_value (a_row 1 (a_cons (e_var 4) (a_nil))) h__law_value) (a_nil)))))
    (s_one (P_if (t_w (w_or (T_cmp c_isn (e_call F_is_filter (a_cons (e_var 5) (a_nil)) h_is_filter) (e_bl)) (w_or1 (t_not (t_val (e_call F__law_alike (a_cons (e_call F_truth (a_cons (e_var 4) (a_cons (e_var 5) (a_cons (e_var 6) (a_nil)))) h_truth) (a_cons (e_call F__law_truth (a_cons (e_var 4) (a_cons (e_var 5) (a_cons (e_var 6) (a_nil)))) h__law_truth) (a_nil))) h__law_alike)))))) (s_one (P_ret (e_bl))) (s_nil)))))
theorem s_pickBad {j__law_pick : Nat} {f__law_pick : Fs} (F__law_pick : FO G j__law_pick "_law_pick" 2 f__law_pick) (h__law_pick : j__law_pick ≤ k) : SS G k sxL N_law (lawAt 2) (dPickBad f__law_pick) :=
    P_set 3 (e_call F__law_pick (a_row 1 (a_cons (e_lst (a_cons (e_non) (a_cons (e_tup (a_nil)) (a_cons (e_tup (a_cons (e_int) (a_nil))) (a_cons (e_lst (a_cons (e_int) (a_cons (e_int) (a_nil)))) (a_cons (e_tup (a_cons (e_int) (a_cons (e_int) (a_cons (e_int) (a_nil))))) (a_cons (e_tup (a_cons (e_int) (a_cons (e_int) (a_nil)))) (a_cons (e_tup (a_cons (e_int) (a_cons (E_neg (e_int)) (a_nil)))) (a_cons (e_tup (a_cons (e_bl) (a_cons (e_int) (a_nil)))) (a_cons (e_tup (a_cons (e_str) (a_cons (e_int) (a_nil)))) (a_nil))))))))))) (a_nil))) h__law_pick)
theorem e_lam1 {j_truth : Nat} {f_truth : Fs} (F_truth : FO G j_truth "truth" 3 f_truth) (h_truth : j_truth ≤ k) : SE G k ⟨lamScope (lawAt 3), fun _ => false⟩ N_law (lamBody (lawAt 3)) (dLam1 f_truth) :=
    e_call F_truth (a_cons (e_var 4) (a_cons (e_var 5) (a_cons (e_var 3) (a_nil)))) h_truth
theorem e_lam2 {j_truth : Nat} {f_truth : Fs} (F_truth : FO G j_truth "truth" 3 f_truth) (h_truth : j_truth ≤ k) {j__law_pick : Nat} {f__law_pick : Fs} (F__law_pick : FO G j__law_pick "_law_pick" 2 f__law_pick) (h__law_pick : j__law_pick ≤ k) : SE G k ⟨lamScope (lawAt 4), fun _ => false⟩ N_law (lamBody (lawAt 4)) (dLam2 f_truth f__law_pick) :=
    e_call F_truth (a_cons (e_tup (a_cons (e_str) (a_cons (e_str) (a_cons (e_str) (a_cons (e_str) (a_cons (e_str) (a_nil))))))) (a_cons (e_var 5) (a_cons (e_call F__law_pick (a_row 1 (a_cons (e_lst (a_cons (e_tup (a_cons (e_non) (a_cons (e_int) (a_nil)))) (a_cons (e_tup (a_cons (e_int) (a_cons (e_non) (a_nil)))) (a_cons (e_tup (a_cons (e_non) (a_cons (e_non) (a_nil)))) (a_nil))))) (a_nil))) h__law_pick) (a_nil)))) h_truth
end
end K05
namespace K05
open PySem PySem.Spec PyProof.Rows L2 DL
def GvS (m : Ms) (P : Ev → Prop) : Prop := ∀ rs, ∃ ev rs', m rs = some (.nx ev, rs') ∧ P ev
theorem GvS.bnS {α : Type} {m : Mn α} {k : α → Ms} {P : α → Prop} {Q : Ev → Prop} (h : Gv m P) (hk : ∀ a, P a → GvS (k a) Q) : GvS (DL.bnS m k) Q := fun rs => by
  obtain ⟨d, rs1, e, p⟩ := h rs
  obtain ⟨d2, rs2, e2, p2⟩ := hk d p rs1
  refine ⟨d2, rs2, ?_, p2⟩
  unfold DL.bnS
  rw [e]
  exact e2
theorem GvS.nx {ev : Ev} {Q : Ev → Prop} (h : Q ev) : GvS (nxM ev) Q := fun rs => ⟨ev, rs, rfl, h⟩
theorem GvS.wl {m : Ms} {k : Ev → Ms} {P Q : Ev → Prop} (h : GvS m P) (hk : ∀ a, P a → GvS (k a) Q) : GvS (DL.wl m k) Q := fun rs => by
  obtain ⟨d, rs1, e, p⟩ := h rs
  obtain ⟨d2, rs2, e2, p2⟩ := hk d p rs1
  refine ⟨d2, rs2, ?_, p2⟩
  unfold DL.wl
  rw [e]
  exact e2
theorem GvS.sq {m : Ms} {k : Ev → Ms} {P Q : Ev → Prop} (h : GvS m P) (hk : ∀ a, P a → GvS (k a) Q) : GvS (DL.sq m k) Q := fun rs => by
  obtain ⟨d, rs1, e, p⟩ := h rs
  obtain ⟨d2, rs2, e2, p2⟩ := hk d p rs1
  refine ⟨d2, rs2, ?_, p2⟩
  unfold DL.sq
  rw [e]
  exact e2
def LEv (ev : Ev) : Prop := ∃ s2 s4 s5 s6, ev = [.hid, .row, s2, .hid, s4, s5, s6]
def GEv (s : Slot) (ev : Ev) : Prop := ∃ s2 a b c n e x s6, ev = [.hid, .row, s2, s, .dat (wayD a b c n e), .dat (Flt.d x), s6] ∧ x.ok = true ∧ x.size ≤ 20
theorem turn_ok {fs ff fv fi fa ft fl : Fs} (h1 : SpLawSem fs) (h2 : SpLawFlt ff 4) (h3 : SpLawVal fv) (h4 : SpIsFilter fi) (h5 : SpAlike fa) (h6 : SpTr ft) (h7 : SpLawTruth fl 20) (ev : Ev) (h : LEv ev) : GvS (dTurn fs ff fv fi fa ft fl ev) (GEv .hid) := by
  obtain ⟨s2, s4, s5, s6, rfl⟩ := h
  simp [dTurn, sq_bnS, bnS_bnd, bnd_bnd]
  refine GvS.bnS h1 fun d ⟨a, b, c, n, e, hd⟩ => ?_
  subst hd
  refine GvS.bnS (h2 3 (by decide)) fun d ⟨x, hd, ok, sz⟩ => ?_
  subst hd
  refine GvS.bnS (h3 a b c n e) fun d ⟨u, hd, hu⟩ => ?_
  subst hd
  refine GvS.bnS (h3 a b c n e) fun d ⟨v, hd, hv⟩ => ?_
  subst hd
  have sz' : x.size ≤ 20 := Nat.le_trans sz (by decide)
  have q6 := h6 a b c n e x u v ok sz' hu hv
  have q7 := h7 x sz' ok a b c n e u v (okU_nn hu) (okU_nn hv)
  rw [lineD] at q6 q7
  simp [h4 x ok sz', q6, q7, h5 _, truD, isnD, isD]
  exact GvS.nx ⟨s2, a, b, c, n, e, x, _, rfl, ok, sz'⟩
theorem turns_ok {fs ff fv fi fa ft fl : Fs} (h1 : SpLawSem fs) (h2 : SpLawFlt ff 4) (h3 : SpLawVal fv) (h4 : SpIsFilter fi) (h5 : SpAlike fa) (h6 : SpTr ft) (h7 : SpLawTruth fl 20) : GvS (dTurns fs ff fv fi fa ft fl [.hid, .row, .hid, .hid, .hid, .hid, .hid]) (GEv .hid) := by
  have go : ∀ (ds : List D) (ev : Ev), LEv ev → (ds = [] → GEv .hid ev) → GvS (forGo (.name 2) (dTurn fs ff fv fi fa ft fl) ds ev) (GEv .hid) := by
    intro ds
    induction ds with
    | nil => intro ev _ h; exact GvS.nx (h rfl)
    | cons d ds ih =>
      intro ev h _
      obtain ⟨s2, s4, s5, s6, rfl⟩ := h
      rw [forGo_cons]
      simp
      refine GvS.wl (turn_ok h1 h2 h3 h4 h5 h6 h7 _ ⟨_, _, _, _, rfl⟩) fun ev g => ih ev ?_ fun _ => g
      obtain ⟨s2, a, b, c, n, e, x, s6, rfl, _⟩ := g
      exact ⟨_, _, _, _, rfl⟩
  rw [dTurns, sFor_f]
  simp [rng1]
  exact go _ _ ⟨_, _, _, _, rfl⟩ fun z => by cases z
theorem pickBad_ok {fp : Fs} (h : SpPick fp) (ev : Ev) (g : GEv .hid ev) : GvS (dPickBad fp ev) fun ev' => ∃ d, d ∈ bads ∧ GEv (.dat d) ev' := by
  obtain ⟨s2, a, b, c, n, e, x, s6, rfl, ok, sz⟩ := g
  simp [dPickBad, bnS_bnd, bnd_bnd, negD]
  refine GvS.bnS (h _ (by simp) (by simp)) fun d m => ?_
  exact GvS.nx ⟨d, m, s2, a, b, c, n, e, x, s6, rfl, ok, sz⟩
theorem lam1_ok {ft : Fs} (h : SpTrNo ft) {d : D} (hd : d ∈ bads) (ev : Ev) (g : GEv (.dat d) ev) : dLam1 ft ev = exc "BadRow" none := by
  obtain ⟨s2, a, b, c, n, e, x, s6, rfl, ok, sz⟩ := g
  simp [dLam1, h a b c n e x d ok sz (.inl hd)]
theorem lam2_ok {ft fp : Fs} (h : SpTrNo ft) (hp : SpPick fp) {s : Slot} (ev : Ev) (g : GEv s ev) : ∀ rs, ∃ rs', dLam2 ft fp ev rs = some (.exc "BadRow" none, rs') := by
  obtain ⟨s2, a, b, c, n, e, x, s6, rfl, ok, sz⟩ := g
  intro rs
  have q := fun d (hd : d ∈ nulls) => h true false true .none false x d ok sz (.inr ⟨rfl, hd⟩)
  obtain ⟨d, rs', e1, m⟩ := hp nulls (by decide) (by decide) rs
  refine ⟨rs', ?_⟩
  simp [dLam2, bnd_bnd]
  unfold nulls at e1
  unfold DL.bnd
  rw [e1]
  exact congrFun (q d m) rs'
end K05
namespace K05
open PySem PySem.Spec PyProof.Rows L2 DL LamX
section
variable {K : PySem.W.Frag} {M : Addr → Prop} {H H' : Hp} {r : Rw} {σ : L2.St} {ev : Ev} {rs rs' : RS}
theorem ext_lst (x : ExtN H H') {a : Addr} {xs : List V} (h : H a = some (.lst xs)) : H' a = some (.lst xs) := x _ _ h fun ps e => by cases e
theorem rd_lst (x : ExtN H H') {a : Addr} {xs : List V} (h : Rd H a (.lst xs)) : Rd H' a (.lst xs) := by
  rcases h with h | ⟨o, h⟩
  · exact .inl (x _ _ h fun ps e => by cases e)
  · exact .inr ⟨o, x _ _ h fun ps e => by cases e⟩
theorem sqt_extn (x : ExtN H H') {a : Addr} {xs : List V} (h : SqT K H a xs) : SqT K H' a xs := by
  rcases h with (h | ⟨o, h⟩) | h
  · exact .inl (.inl (x _ _ h fun ps e => by cases e))
  · exact .inl (.inr ⟨o, x _ _ h fun ps e => by cases e⟩)
  · exact .inr h
mutual
theorem da_extn (x : ExtN H H') : ∀ {v : V} {d : D}, Da K M H v d → Da K M H' v d
  | _, _, .non => .non
  | _, _, .bl b => .bl b
  | _, _, .int i => .int i
  | _, _, .str z => .str z
  | _, _, .lst h n t => .lst (ext_lst x h) n (dal_extn x t)
  | _, _, .tup h t => .tup (sqt_extn x h) (dal_extn x t)
theorem dal_extn (x : ExtN H H') : ∀ {vs : List V} {ds : List D}, DaL K M H vs ds → DaL K M H' vs ds
  | _, _, .nil => .nil
  | _, _, .cons h t => .cons (da_extn x h) (dal_extn x t)
end
theorem row_extn (x : ExtN H H') (h : RowAt K M H r rs) : RowAt K M H' r rs := by
  refine ⟨⟨ext_lst x h.1.1, h.1.2⟩, ?_⟩
  rcases h.2 with ⟨q, n⟩ | q
  · exact .inl ⟨rd_lst x q, n⟩
  · exact .inr q
theorem rel_extn (x : ExtN H H') (R : RelE K M r σ H ev rs) : RelE K M r σ H' ev rs := by
  refine ⟨R.mr, fun b m => ?_, row_extn x R.row, fun i s e => ?_, R.len⟩
  · obtain ⟨xs, q⟩ := R.ml b m
    exact ⟨xs, ext_lst x q⟩
  · have q := R.slots i s e
    cases s with
    | hid => trivial
    | own _ => trivial
    | row => exact q
    | dat d => obtain ⟨v, h1, h2⟩ := q; exact ⟨v, h1, da_extn x h2⟩
theorem tabs_stp {T : List (Addr × Str)} (h : Tabs T H) (s : Stp r H H') {xs : List V} (hr : H r.a = some (.lst xs)) : Tabs T H' := fun p hp => by
  obtain ⟨ps, h1, h2, h3⟩ := h p hp
  have np : ∀ {b o}, H b = some o → (∀ ys, o ≠ .lst ys) → H' b = some o := fun {b o} e n => s b o (fun z => n xs (by rw [z, hr] at e; exact (Option.some.inj e).symm)) e
  refine ⟨ps, np h1 (fun ys e => by cases e), h2, fun pos cv hc => ?_⟩
  obtain ⟨c, e1, e2⟩ := h3 pos cv hc
  exact ⟨c, e1, np e2 fun ys e => by unfold CodeO at e; cases e⟩
end
structure FnB (G : Gm) : Prop where
  ex : ∃ (g : Addr) (oc : Value) (od : Option Addr) (kV doc pm cdv ct : Value) (an : Option Addr) (osl : Array (Option Value)), G.mg "_law_bad_row" = some (.ref g) ∧
    G.K.lookup g = some ⟨oc, od, .func (PySem.W.fnOf "_law_bad_row" "_law_bad_row" (defArgs st__law_bad_row) (defBody st__law_bad_row) (defScope st__law_bad_row) .none kV doc pm an cdv ct), osl⟩ ∧ PySem.W.codeIn G.K cdv "_law_bad_row" = true ∧ PySem.W.keepIn G.K (.ref g) = true ∧
    L2.Binds G.K (PySem.W.fnOf "_law_bad_row" "_law_bad_row" (defArgs st__law_bad_row) (defBody st__law_bad_row) (defScope st__law_bad_row) .none kV doc pm an cdv ct) ["work"] []
def noArgs : Arguments := { posonlyargs := [], args := [], vararg := none, kwonlyargs := [], kw_defaults := [], kwarg := none, defaults := [] }
theorem pe_bad {G : Gm} {X : Cx} {N : List Str} {k : Nat} {sc : Sx} {CS CB c P : Addr} {body : Expr} {scope : Scope} {p lpos pos : Pos} {fb : Ev → Mn D} (g : Gd G (k + 2) sc N X) (B : Tp G) (F : BadF G CS CB) (W : FnB G)
    (hg : glB sc "_law_bad_row" = true) (hcode : X.env.code = .ref c) (TB : TabB X.base X.mg c P) (L : LamS sc.sc scope)
    (hb : SE G k ⟨scope, fun _ => false⟩ N body fb) :
    PE X (.Call (.Name "_law_bad_row" p) [.Lambda noArgs body scope lpos] [] pos) (tLam [(P, X.env.qual ++ "<lambda>")] (TTbad CB) fun E => tE G.K G.mg (fun cls d _ H => E cls d H) fb) := by
  obtain ⟨gg, oc, od, kV, doc, pm, cdv, ct, an, osl, e1, e2, e3, e4, e5⟩ := W.ex
  refine pe_lamcall (Ng := Nbad) (a := "work") (k := k) (gl_of g hg) (by rw [g.hmg]; exact e1) (by rw [g.hK]; exact e4) (by rw [g.hK]; exact e2) (by rw [g.hK]; exact e3) (by rw [g.hK]; exact e5) scbad rfl (.inl rfl)
    (bad_gives g.hK g.hmg F B) TB hcode (List.mem_cons_self) (fun q hq _ => by cases hq with | head => rfl | tail _ z => cases z) g.room (by rw [g.hsc]; exact L) rfl (fun _ _ _ _ _ => rfl) (fun A outer s H E f c' hr => ?_)
  have g2 : Gd G k ⟨scope, fun _ => false⟩ N (lamCx X A outer s H E scope f c') := ⟨g.hN, g.nd, rfl, (fun x e => by cases e), rfl, hr, g.hP, g.hw, g.hK, g.hmg, g.hb⟩
  exact hb _ _ g2 (takes_of rfl rfl rfl rfl)
/-- its reading -/
theorem bad_read {G : Gm} {CS CB : Addr} (F : BadF G CS CB) {T : List (Addr × Str)} {fb : Ev → Mn D} {M : Addr → Prop} {r : Rw} {σ : L2.St} {H : Hp} {ev : Ev} {rs : RS} {Q : VK} (R : RelE G.K M r σ H ev rs) (hT : Tabs T H)
    (hf : ∃ rs', fb ev rs = some (.exc "BadRow" none, rs')) (h : ∀ H' rs', RelE G.K M r σ H' ev rs' → Tabs T H' → Q (.bl true) H') :
    tLam T (TTbad CB) (fun E => tE G.K G.mg (fun cls d _ H => E cls d H) fb) σ H Q := by
  refine ⟨hT, fun H1 x T1 => ?_⟩
  obtain ⟨rs', e⟩ := hf
  refine ⟨M, r, ev, rs, rel_extn x R, _, _, e, fun cls dd H' s w a => ?_⟩
  obtain ⟨⟨C, a1, a2⟩, a3⟩ := a
  have eC : C = CB := by
    rw [F.b] at a1
    cases a1
    rfl
  subst eC
  have R1 := rel_extn x R
  exact ⟨a2, a3, h H' rs' (R1.stp s w) (tabs_stp T1 s R1.row.1.1)⟩
end K05
namespace K05
open PySem PySem.Spec PyProof.Rows L2 DL LamX
def spLaw (K : PySem.W.Frag) (P : Addr) : Sp := fun vs H Q _ => ∃ (a : Addr) (ns : List Int), vs = [.ref a] ∧ SqL K H a (ns.map V.int) ∧ H P = some (.tbl #[]) ∧ ∀ H', Q (.bl true) H'
theorem lamS3 : LamS (defScope st_law) (lamScope (lawAt 3)) := lamS_by rfl
theorem lamS4 : LamS (defScope st_law) (lamScope (lawAt 4)) := lamS_by rfl
def ev0 : Ev := [.hid, .row, .hid, .hid, .hid, .hid, .hid]
theorem ev0_own : ∀ (i : Nat) (ds : List D), ev0[i]? ≠ some (Slot.own ds)
  | 0, _, e => by cases e
  | 1, _, e => by cases e
  | 2, _, e => by cases e
  | 3, _, e => by cases e
  | 4, _, e => by cases e
  | 5, _, e => by cases e
  | 6, _, e => by cases e
  | i + 7, _, e => by simp [ev0] at e
theorem ok_law {G : Gm} {CS CB c P fa : Addr} {oc : Value} {od : Option Addr} {kV doc pm ct : Value} {an : Option Addr} {osl : Array (Option Value)} (B : Tp G) (h : Df G) (F : BadF G CS CB) (W : FnB G)
    (lk : G.K.lookup fa = some ⟨oc, od, .func (PySem.W.fnOf "law" "law" (defArgs st_law) (defBody st_law) (defScope st_law) .none kV doc pm an (.ref c) ct), osl⟩) (hcd : PySem.W.codeIn G.K (.ref c) "law" = true) (TB : TabB G.base G.mg c P) :
    FnOk G.P G.w G.K G.mg G.base (L2.CX G.P G.w) 34 fa (PySem.W.fnOf "law" "law" (defArgs st_law) (defBody st_law) (defScope st_law) .none kV doc pm an (.ref c) ct) ["script"] (spLaw G.K P) := by
  obtain ⟨fS, FS, pS⟩ := fo_lsem B h
  obtain ⟨fF, FF, pF⟩ := fo_lflt B h 4
  obtain ⟨fV, FV, pV⟩ := fo_lval B h
  obtain ⟨fI, FI, pI⟩ := fo_isf B h
  obtain ⟨fA, FA, pA⟩ := fo_alike B h
  obtain ⟨fT, FT, pT, pN⟩ := fo_truth B h
  obtain ⟨fL, FL, pL⟩ := fo_lt B h 20
  obtain ⟨fP, FP, pP⟩ := fo_pick B h
  refine fn_of lk hcd sc_law (fun vs H Q E q => ?_) (fun A outer s H vs Q E hr hsp => ?_)
  · obtain ⟨a, ns, rfl, _⟩ := q
    rfl
  have g : Gd G 33 sxL N_law (cxOf (L2.CX G.P G.w) G.P G.w G.K G.mg G.base N_law "law" (defScope st_law) fa (.ref c) A outer s H E) := ⟨rfl, sc_law.nd, rfl, fun _ _ => rfl, rfl, hr, rfl, rfl, rfl, rfl, rfl⟩
  obtain ⟨a, ns, rfl, hS, hP, q⟩ := hsp
  have tk : Takes (cxOf (L2.CX G.P G.w) G.P G.w G.K G.mg G.base N_law "law" (defScope st_law) fa (.ref c) A outer s H E) (fun cls d _ H => E cls d H) := takes_of rfl rfl rfl rfl
  refine ⟨_, pss_cons (ps_set (i := 1) sc_law.nd rfl (.inr rfl) (pe_lst (pa_cons (pv 0) (pa_cons pe_int (pa_cons pe_int (pa_cons pe_int pa_nil))))))
    (pss_cons (s_turns B FS (by decide) FF (by decide) FV (by decide) FI (by decide) FA (by decide) FT (by decide) FL (by decide) _ _ g tk (passes_of rfl))
    (pss_cons (s_pickBad FP (by decide) _ _ g tk (passes_of rfl))
    (pss_cons (ps_if (pt_not (pt_val (pe_bad (k := 31) g B F W rfl rfl TB lamS3 (e_lam1 FT (by decide))))) (pss_one (ps_ret pe_bl)) pss_nil)
    (pss_one (ps_ret (pe_bad (k := 31) g B F W rfl rfl TB lamS4 (e_lam2 FT (by decide) FP (by decide)))))))), ?_⟩
  refine ⟨_, rfl, by show 4 ≤ sizeLine; exact size_ok 4, fun p hp => ?_⟩
  have hPp : P ≠ p := ne_of_none hP hp
  have sm : Same H (upd H p (.lst [.ref a, .int 0, .int 15324, .int 0])) := same_upd hp
  generalize hH1 : upd H p (.lst [.ref a, .int 0, .int 15324, .int 0]) = H1 at sm
  have hrow : H1 p = some (.lst [.ref a, .int 0, .int 15324, .int 0]) := by rw [← hH1]; exact upd_same
  have hTab : H1 P = some (.tbl #[]) := sm _ _ hP
  have R : RelS G.K (fun b => b = p) ⟨p, a, ns⟩ (fun b o => H1 b = some o ∧ b ≠ p) ((L2.start N_law [.ref a]).set 1 (some (.ref p))) H1 ev0 ⟨ns, 0, 15324, 0⟩ fun _ => 0 := by
    have av : ∀ b, Av (fun b => b = p) ev0 (fun _ => 0) b → b = p := fun b m => m.elim id fun ⟨i, ⟨ds, e⟩, _⟩ => absurd e (ev0_own i ds)
    refine ⟨⟨.inl rfl, fun b m => ⟨[.ref a, .int 0, .int 15324, .int 0], by rw [av b m]; exact hrow⟩, ⟨⟨hrow, rfl⟩, ?_⟩, fun i s e => ?_, by show 7 ≤ 7; exact Nat.le_refl 7⟩, rfl, fun b o q => q.1, fun o q => q.2 rfl, fun b m n => absurd m n, fun i ds e => absurd e (ev0_own i ds), fun i j ⟨ds, e⟩ => absurd e (ev0_own i ds)⟩
    · rcases hS with hS | hS
      · refine .inl ⟨?_, fun m => ?_⟩
        · rcases hS with z | ⟨o, z⟩
          · exact .inl (sm _ _ z)
          · exact .inr ⟨o, sm _ _ z⟩
        · have e := av _ m
          rcases hS with z | ⟨o, z⟩
          · exact absurd e (ne_of_none z hp)
          · exact absurd e (ne_of_none z hp)
      · exact .inr hS
    · match i, e with
      | 0, e => cases e; trivial
      | 1, e => cases e; exact rfl
      | 2, e => cases e; trivial
      | 3, e => cases e; trivial
      | 4, e => cases e; trivial
      | 5, e => cases e; trivial
      | 6, e => cases e; trivial
      | i + 7, e => simp [ev0] at e
  obtain ⟨ev1, rs1, e1, g1⟩ := turns_ok pS pF pV pI pA pT pL ⟨ns, 0, 15324, 0⟩
  refine ⟨_, _, _, _, _, _, R, _, _, e1, fun σ2 H2 oa2 R2 => ?_⟩
  obtain ⟨ev2, rs2, e2, d, hd, g2⟩ := pickBad_ok pP ev1 g1 rs1
  refine ⟨_, _, _, _, _, _, R2, _, _, e2, fun σ3 H3 oa3 R3 => ?_⟩
  have hTab3 : H3 P = some (.tbl #[]) := R3.prot _ _ ⟨hTab, hPp⟩
  have gl : GEv (.dat d) (lend ev2) := by
    obtain ⟨s2, a, b, c, n, e, x, s6, rfl, ok, sz⟩ := g2
    exact ⟨lendS s2, a, b, c, n, e, x, lendS s6, rfl, ok, sz⟩
  have T3 : ∀ qq : Str, Tabs [(P, qq)] H3 := fun qq q hq => by
    cases hq with
    | head => exact TabS.nil hTab3
    | tail _ z => cases z
  refine bad_read F R3.lent (T3 _) ⟨_, congrFun (lam1_ok pN hd _ gl) _⟩ fun H4 rs4 R4 T4 => ?_
  refine ⟨_, rfl, ?_⟩
  exact bad_read F R4 T4 (lam2_ok pN pP _ gl _) fun H5 rs5 R5 T5 => q H5
end K05
namespace K05
open PySem PySem.Spec PyProof.Rows L2 DL LamX
theorem law_mk {l : PySem.W.OpenLaw} {w : World} {K : PySem.W.Frag} {h : Heap} {mg : Str → Option Value} {fa f c P CS CB : Addr} {oc : Value} {od : Option Addr} {kV doc pm ct : Value} {an : Option Addr} {osl : Array (Option Value)} (X : K.In h) (G : h.Ns mainGlobals mg) (hfa : mg "law" = some (.ref fa))
    (tp : ∀ base, Tp ⟨l.prog, w, K, mg, base⟩) (df : ∀ base, Df ⟨l.prog, w, K, mg, base⟩) (bf : ∀ base, BadF ⟨l.prog, w, K, mg, base⟩ CS CB) (fb : ∀ base, FnB ⟨l.prog, w, K, mg, base⟩)
    (a : PySem.W.nsIn K mainGlobals "law" = some (some (.ref f))) (lk : K.lookup f = some ⟨oc, od, .func (PySem.W.fnOf "law" "law" (defArgs st_law) (defBody st_law) (defScope st_law) .none kV doc pm an (.ref c) ct), osl⟩) (cd : PySem.W.codeIn K (.ref c) "law" = true)
    (hc : PySem.W.codeHdIn K c P = true) (nP : K.lookup P = none) (hP : h.get? P = some (PySem.W.tabObj #[])) : LawAtS l w K (L2.CX l.prog w) 34 63 "script" mg fa h := by
  have e := hfa.symm.trans (PySem.W.mg_of X G a)
  cases e
  refine ⟨PySem.W.fnOf "law" "law" (defArgs st_law) (defBody st_law) (defScope st_law) .none kV doc pm an (.ref c) ct, [(c, P)], spLaw K P, fun q hq => ?_, fun q hq => ?_, fun q hq => ?_, fun s v => .of_eq rfl, fun H a ns _ _ hT hS => ?_, fun base _ _ hb => ?_⟩
  · cases hq with
    | head => exact hP
    | tail _ z => cases z
  · cases hq with
    | head => exact nP
    | tail _ z => cases z
  · cases hq with
    | head => exact PySem.W.codeHd_of_K X hc
    | tail _ z => cases z
  · exact ⟨a, ns, rfl, hS, hT _ (List.mem_cons_self), fun _ => rfl⟩
  · exact ok_law (G := ⟨l.prog, w, K, mg, base⟩) (tp base) (df base) (bf base) (fb base) lk cd (hb _ (List.mem_cons_self))
theorem cx_end {l : PySem.W.OpenLaw} (w : World) (H : Hp) (s : Shared) (e : Value) (s' : Shared) (h : L2.CX l.prog w [] H s (fun _ _ _ => False) e s') : False := by
  obtain ⟨_, _, _, _, _, _, _, _, _, _, _, _, z⟩ := h
  exact z
section
variable {P : Program} {w : World} {K : PySem.W.Frag} {mg : Str → Option Value} {base h : Heap} {x : Str}
theorem bf_mk' {CS CB : Addr} (X : K.In h) (Gn : h.Ns mainGlobals mg) (a : PySem.W.nsIn K mainGlobals "QueryError" = some (some (.ref CS))) (b : PySem.W.nsIn K mainGlobals "BadRow" = some (some (.ref CB)))
    (s1 : PySem.W.subIn K (.ref CS) (.type "BaseException") = some true) (s2 : PySem.W.hasDictIn K CS = true) (s3 : PySem.W.typeIn K (.ref CS) = some (.type "type")) (s4 : PySem.W.subIn K (.ref CB) (.ref CS) = some true)
    (hg : PySem.W.findIn K (.ref CB) "__getattribute__" = some (some (.builtin "BaseException.__getattribute__"))) (hk : PySem.W.findIn K (.ref CB) "__getattr__" = some none) (hs : PySem.W.subIn K (.ref CB) (.type "BaseException") = some true) (hd : PySem.W.hasDictIn K CB = true)
    (ha : PySem.W.findIn K (.ref CB) "__class__" = some (some (.builtin "object.__class__"))) (hn : PySem.W.specialIn K (.builtin "object.__class__") "__get__" = some (some (.builtin "getset_descriptor.__get__"))) (ht : PySem.W.takesIn K (.builtin "object.__class__") = some true) (hm : PySem.W.mroIn K CB (.type "object") = some true) :
    BadF ⟨P, w, K, mg, base⟩ CS CB :=
  ⟨PySem.W.mg_of X Gn a, PySem.W.mg_of X Gn b, PySem.W.exm_ref s1 s2 s3 s4, ⟨hg, hk, hs, hd, ha, hn, ht, hm⟩, by unfold PySem.W.kitOne; rw [if_pos (by simp)]⟩
theorem fb_mk' {f : Addr} {oc kV doc pm cdv ct : Value} {od an : Option Addr} {osl : Array (Option Value)} (X : K.In h) (Gn : h.Ns mainGlobals mg) (a : PySem.W.nsIn K mainGlobals "_law_bad_row" = some (some (.ref f)))
    (l : K.lookup f = some ⟨oc, od, .func (PySem.W.fnOf "_law_bad_row" "_law_bad_row" (defArgs st__law_bad_row) (defBody st__law_bad_row) (defScope st__law_bad_row) .none kV doc pm an cdv ct), osl⟩) (c : PySem.W.codeIn K cdv "_law_bad_row" = true) (k : PySem.W.keepIn K (.ref f) = true) : FnB ⟨P, w, K, mg, base⟩ :=
  ⟨f, oc, od, kV, doc, pm, cdv, ct, an, osl, PySem.W.mg_of X Gn a, l, c, k, (fun_mk (st := st__law_bad_row) l c k).binds fun _ _ _ _ _ _ us hl => match us, hl with | [_], _ => rfl⟩
end
def bfB (K : PySem.W.Frag) : Bool := ((He.Fa.glo "QueryError").ok K) && (((He.Fa.glo "BadRow").ok K) && ((decide (PySem.W.subIn K (.ref (He.ga K "QueryError")) (.type "BaseException") = some true)) && ((PySem.W.hasDictIn K (He.ga K "QueryError")) && ((decide (PySem.W.typeIn K (.ref (He.ga K "QueryError")) = some (.type "type"))) && ((decide (PySem.W.subIn K (.ref (He.ga K "BadRow")) (.ref (He.ga K "QueryError")) = some true)) && ((He.eqO (PySem.W.findIn K (.ref (He.ga K "BadRow")) "__getattribute__") (some (some (.builtin "BaseException.__getattribute__")))) && ((He.eqO (PySem.W.findIn K (.ref (He.ga K "BadRow")) "__getattr__") (some none)) && ((decide (PySem.W.subIn K (.ref (He.ga K "BadRow")) (.type "BaseException") = some true)) && ((PySem.W.hasDictIn K (He.ga K "BadRow")) && ((He.eqO (PySem.W.findIn K (.ref (He.ga K "BadRow")) "__class__") (some (some (.builtin "object.__class__")))) && ((He.eqO (PySem.W.specialIn K (.builtin "object.__class__") "__get__") (some (some (.builtin "getset_descriptor.__get__")))) && ((decide (PySem.W.takesIn K (.builtin "object.__class__") = some true)) && (decide (PySem.W.mroIn K (He.ga K "BadRow") (.type "object") = some true))))))))))))))
section
variable {P : Program} {w : World} {K : PySem.W.Frag} {mg : Str → Option Value} {base h : Heap}
theorem bf_of (X : K.In h) (Gn : h.Ns mainGlobals mg) (c : bfB K = true) : BadF ⟨P, w, K, mg, base⟩ (He.ga K "QueryError") (He.ga K "BadRow") := by
  obtain ⟨c0, d0⟩ := Bool.and_eq_true_iff.mp (show (((He.Fa.glo "QueryError").ok K) && (((He.Fa.glo "BadRow").ok K) && ((decide (PySem.W.subIn K (.ref (He.ga K "QueryError")) (.type "BaseException") = some true)) && ((PySem.W.hasDictIn K (He.ga K "QueryError")) && ((decide (PySem.W.typeIn K (.ref (He.ga K "QueryError")) = some (.type "type"))) && ((decide (PySem.W.subIn K (.ref (He.ga K "BadRow")) (.ref (He.ga K "QueryError")) = some true)) && ((He.eqO (PySem.W.findIn K (.ref (He.ga K "BadRow")) "__getattribute__") (some (some (.builtin "BaseException.__getattribute__")))) && ((He.eqO (PySem.W.findIn K (.ref (He.ga K "BadRow")) "__getattr__") (some none)) && ((decide (PySem.W.subIn K (.ref (He.ga K "BadRow")) (.type "BaseException") = some true)) && ((PySem.W.hasDictIn K (He.ga K "BadRow")) && ((He.eqO (PySem.W.findIn K (.ref (He.ga K "BadRow")) "__class__") (some (some (.builtin "object.__class__")))) && ((He.eqO (PySem.W.specialIn K (.builtin "object.__class__") "__get__") (some (some (.builtin "getset_descriptor.__get__")))) && ((decide (PySem.W.takesIn K (.builtin "object.__class__") = some true)) && (decide (PySem.W.mroIn K (He.ga K "BadRow") (.type "object") = some true))))))))))))))) = true from c)
  obtain ⟨c1, d1⟩ := Bool.and_eq_true_iff.mp d0
  obtain ⟨c2, d2⟩ := Bool.and_eq_true_iff.mp d1
  obtain ⟨c3, d3⟩ := Bool.and_eq_true_iff.mp d2
  obtain ⟨c4, d4⟩ := Bool.and_eq_true_iff.mp d3
  obtain ⟨c5, d5⟩ := Bool.and_eq_true_iff.mp d4
  obtain ⟨c6, d6⟩ := Bool.and_eq_true_iff.mp d5
  obtain ⟨c7, d7⟩ := Bool.and_eq_true_iff.mp d6
  obtain ⟨c8, d8⟩ := Bool.and_eq_true_iff.mp d7
  obtain ⟨c9, d9⟩ := Bool.and_eq_true_iff.mp d8
  obtain ⟨c10, d10⟩ := Bool.and_eq_true_iff.mp d9
  obtain ⟨c11, d11⟩ := Bool.and_eq_true_iff.mp d10
  obtain ⟨c12, d12⟩ := Bool.and_eq_true_iff.mp d11
  exact bf_mk' X Gn (He.eqO_ok c0) (He.eqO_ok c1) (of_decide_eq_true c2) c3 (of_decide_eq_true c4) (of_decide_eq_true c5) (He.eqO_ok c6) (He.eqO_ok c7) (of_decide_eq_true c8) c9 (He.eqO_ok c10) (He.eqO_ok c11) (of_decide_eq_true c12) (of_decide_eq_true d12)
end
end K05
set_option maxHeartbeats 0
noncomputable section
namespace K05
open PySem PySem.W PySem.Calls PyProof.Rows HandSHeadRun HM DL
open L2 (defArgs defBody defScope)
abbrev RW : OpenRow := OpenLaw.row PySem.Challenge.rw_queryheld_k04_whole_filters
def fstS : Stmt := RW.prog.main.body.getD 17 (.Pass ⟨0, 0, 0, 0⟩)
def keysOf : Stmt → List (Option PySem.Expr)
  | .Assign _ (.Dict ks _ _) _ => ks
  | _ => []
def valsOf : Stmt → List PySem.Expr
  | .Assign _ (.Dict _ vs _) _ => vs
  | _ => []
def tgOf : Stmt → PySem.Expr
  | .Assign [t] _ _ => t
  | _ => .Constant .none 0 ⟨0, 0, 0, 0⟩
def posOf : Stmt → Pos
  | .Assign _ _ p => p
  | _ => ⟨0, 0, 0, 0⟩
def pos2Of : Stmt → Pos
  | .Assign _ (.Dict _ _ p) _ => p
  | _ => ⟨0, 0, 0, 0⟩
def l1 : List Stmt := RW.prog.main.body.take 17
def l2 : List Stmt := RW.prog.main.body.drop 18
def lse0 : List Str := ["QueryError", "BadSemantics", "BadFilter", "BadRow", "WORDS", "NULLS", "GREATEST_VALUE", "ROW_LENGTH", "is_semantics", "check_semantics", "is_integer_to", "is_row", "_is_value_under", "value_order", "FORMS", "GREATEST", "tuples_of", "_has_form", "_fits", "_inner_tuples", "CONNECTIVES", "MOST_TUPLES", "is_filter", "check_filter", "truth"]
def lse1 : List Str := ["truth_of", "_comparison", "connected", "_negation", "_conjunction", "_disjunction", "_law_taken", "_law_pick", "_law_alike", "_law_semantics", "_law_rank", "_law_value", "_law_filter", "_law_join", "_law_truth", "_law_bad_row"]
def lse : List Str := lse0 ++ (lse1)
def fcs0 : List Fc := [.no "all", .no "bool", .no "int", .no "isinstance", .no "len", .no "list", .no "range", .no "str", .no "tuple", .no "zip", .con "CONNECTIVES" c_CONNECTIVES, .con "GREATEST_VALUE" c_GREATEST_VALUE, .con "MOST_TUPLES" c_MOST_TUPLES, .con "NULLS" c_NULLS, .con "ROW_LENGTH" c_ROW_LENGTH, .con "WORDS" c_WORDS, .ex "BadFilter", .ex "BadRow", .ex "BadSemantics", .fn "is_semantics", .fn "check_semantics", .fn "is_integer_to", .fn "is_row", .fn "_is_value_under", .fn "value_order"]
def fcs1 : List Fc := [.fn "tuples_of", .fn "_has_form", .fn "_fits", .fn "_inner_tuples", .fn "is_filter", .fn "check_filter", .fn "truth", .fn "truth_of", .fn "_comparison", .fn "connected", .fn "_negation", .fn "_conjunction", .fn "_disjunction", .fn "_law_taken", .fn "_law_pick", .fn "_law_alike", .fn "_law_semantics", .fn "_law_rank", .fn "_law_value", .fn "_law_filter", .fn "_law_join", .fn "_law_truth", .fn "_law_bad_row", .fn "law"]
def fcs : List Fc := fcs0 ++ (fcs1)
def fds0 : List He.FnD := [fnd "is_semantics" st_is_semantics, fnd "check_semantics" st_check_semantics, fnd "is_integer_to" st_is_integer_to, fnd "is_row" st_is_row, fnd "_is_value_under" st__is_value_under, fnd "value_order" st_value_order, fnd "tuples_of" st_tuples_of, fnd "_has_form" st__has_form, fnd "_fits" st__fits, fnd "_inner_tuples" st__inner_tuples, fnd "is_filter" st_is_filter, fnd "check_filter" st_check_filter, fnd "truth" st_truth, fnd "truth_of" st_truth_of, fnd "_comparison" st__comparison, fnd "connected" st_connected, fnd "_negation" st__negation, fnd "_conjunction" st__conjunction, fnd "_disjunction" st__disjunction, fnd "_law_taken" st__law_taken, fnd "_law_pick" st__law_pick, fnd "_law_alike" st__law_alike, fnd "_law_semantics" st__law_semantics, fnd "_law_rank" st__law_rank, fnd "_law_value" st__law_value]
def fds1 : List He.FnD := [fnd "_law_filter" st__law_filter, fnd "_law_join" st__law_join, fnd "_law_truth" st__law_truth, fnd "_law_bad_row" st__law_bad_row, fnd "law" st_law]
def fds : List He.FnD := fds0 ++ (fds1)
def sp0 : Spec1 := ⟨fcs, fds, [("GREATEST", k_GREATEST)], [("FORMS", t_FORMS)]⟩
def sp1 : SpecL := ⟨sp0, "law", [bfB]⟩
def qv : Program := view RW.prog [46]
abbrev Mn1 (w : World) : Prop := MainL RW qv lse sp1 11 6000 l1 l2 (tgOf fstS) (keysOf fstS) (valsOf fstS) (pos2Of fstS) w
abbrev Dc1 (w : World) : Prop := DictP RW 6000 l1 l2 (tgOf fstS) (keysOf fstS) (valsOf fstS) (pos2Of fstS) w
theorem size_w (w : World) : (boot_heap w.params).objs.size = 11 := by kernel_rfl
theorem main_f (w : World) : Mn1 (w.withFollow "special-get-raises" false) := by intro os pX; kernel_rfl
theorem main_t (w : World) : Mn1 (w.withFollow "special-get-raises" true) := by intro os pX; kernel_rfl
theorem dict_f (w : World) : Dc1 (w.withFollow "special-get-raises" false) := by intro os pX; kernel_rfl
theorem dict_t (w : World) : Dc1 (w.withFollow "special-get-raises" true) := by intro os pX; kernel_rfl
theorem main_w (w : World) : Mn1 w := byRow2 "special-get-raises" (P := Mn1) main_f main_t w
theorem dict_w (w : World) : Dc1 w := byRow2 "special-get-raises" (P := Dc1) dict_f dict_t w
section
variable {P : Program} {w : World} {K : PySem.W.Frag} {h base : Heap} {mg : Str → Option Value}
theorem nd_FORMS : (t_FORMS.map (·.1)).Nodup := by decide +kernel
theorem tp_all (X : K.In h) (Gn : h.Ns mainGlobals mg) (c : obsK sp0 K = valK sp0 P w) : Tp ⟨P, w, K, mg, base⟩ where
  b_all := f_no X Gn (fact c 0)
  b_bool := f_no X Gn (fact c 1)
  b_int := f_no X Gn (fact c 2)
  b_isinstance := f_no X Gn (fact c 3)
  b_len := f_no X Gn (fact c 4)
  b_list := f_no X Gn (fact c 5)
  b_range := f_no X Gn (fact c 6)
  b_str := f_no X Gn (fact c 7)
  b_tuple := f_no X Gn (fact c 8)
  b_zip := f_no X Gn (fact c 9)
  c_CONNECTIVES := f_con X Gn (fact c 10)
  c_GREATEST_VALUE := f_con X Gn (fact c 11)
  c_MOST_TUPLES := f_con X Gn (fact c 12)
  c_NULLS := f_con X Gn (fact c 13)
  c_ROW_LENGTH := f_con X Gn (fact c 14)
  c_WORDS := f_con X Gn (fact c 15)
  k_GREATEST := f_td X Gn c 0 rfl
  t_FORMS := f_tt X Gn c 0 rfl nd_FORMS
  x_BadFilter := f_ex X Gn (fact c 16)
  x_BadRow := f_ex X Gn (fact c 17)
  x_BadSemantics := f_ex X Gn (fact c 18)
theorem df_all (X : K.In h) (Gn : h.Ns mainGlobals mg) (c : obsK sp0 K = valK sp0 P w) : Df ⟨P, w, K, mg, base⟩ where
  h_is_semantics := f_has X Gn c 0 19 rfl rfl fun _ _ _ _ _ _ us hl => match us, hl with | [_], _ => rfl
  h_check_semantics := f_has X Gn c 1 20 rfl rfl fun _ _ _ _ _ _ us hl => match us, hl with | [_], _ => rfl
  h_is_integer_to := f_has X Gn c 2 21 rfl rfl fun _ _ _ _ _ _ us hl => match us, hl with | [_, _], _ => rfl
  h_is_row := f_has X Gn c 3 22 rfl rfl fun _ _ _ _ _ _ us hl => match us, hl with | [_, _], _ => rfl
  h__is_value_under := f_has X Gn c 4 23 rfl rfl fun _ _ _ _ _ _ us hl => match us, hl with | [_, _], _ => rfl
  h_value_order := f_has X Gn c 5 24 rfl rfl fun _ _ _ _ _ _ us hl => match us, hl with | [_], _ => rfl
  h_tuples_of := f_has X Gn c 6 25 rfl rfl fun _ _ _ _ _ _ us hl => match us, hl with | [_, _, _], _ => rfl
  h__has_form := f_has X Gn c 7 26 rfl rfl fun _ _ _ _ _ _ us hl => match us, hl with | [_, _], _ => rfl
  h__fits := f_has X Gn c 8 27 rfl rfl fun _ _ _ _ _ _ us hl => match us, hl with | [_, _], _ => rfl
  h__inner_tuples := f_has X Gn c 9 28 rfl rfl fun _ _ _ _ _ _ us hl => match us, hl with | [_, _], _ => rfl
  h_is_filter := f_has X Gn c 10 29 rfl rfl fun _ _ _ _ _ _ us hl => match us, hl with | [_], _ => rfl
  h_check_filter := f_has X Gn c 11 30 rfl rfl fun _ _ _ _ _ _ us hl => match us, hl with | [_], _ => rfl
  h_truth := f_has X Gn c 12 31 rfl rfl fun _ _ _ _ _ _ us hl => match us, hl with | [_, _, _], _ => rfl
  h_truth_of := f_has X Gn c 13 32 rfl rfl fun _ _ _ _ _ _ us hl => match us, hl with | [_, _, _], _ => rfl
  h__comparison := f_has X Gn c 14 33 rfl rfl fun _ _ _ _ _ _ us hl => match us, hl with | [_, _, _, _], _ => rfl
  h_connected := f_has X Gn c 15 34 rfl rfl fun _ _ _ _ _ _ us hl => match us, hl with | [_, _], _ => rfl
  h__negation := f_has X Gn c 16 35 rfl rfl fun _ _ _ _ _ _ us hl => match us, hl with | [_], _ => rfl
  h__conjunction := f_has X Gn c 17 36 rfl rfl fun _ _ _ _ _ _ us hl => match us, hl with | [_, _], _ => rfl
  h__disjunction := f_has X Gn c 18 37 rfl rfl fun _ _ _ _ _ _ us hl => match us, hl with | [_, _], _ => rfl
  h__law_taken := f_has X Gn c 19 38 rfl rfl fun _ _ _ _ _ _ us hl => match us, hl with | [_, _], _ => rfl
  h__law_pick := f_has X Gn c 20 39 rfl rfl fun _ _ _ _ _ _ us hl => match us, hl with | [_, _], _ => rfl
  h__law_alike := f_has X Gn c 21 40 rfl rfl fun _ _ _ _ _ _ us hl => match us, hl with | [_, _], _ => rfl
  h__law_semantics := f_has X Gn c 22 41 rfl rfl fun _ _ _ _ _ _ us hl => match us, hl with | [_], _ => rfl
  h__law_rank := f_has X Gn c 23 42 rfl rfl fun _ _ _ _ _ _ us hl => match us, hl with | [_], _ => rfl
  h__law_value := f_has X Gn c 24 43 rfl rfl fun _ _ _ _ _ _ us hl => match us, hl with | [_, _], _ => rfl
  h__law_filter := f_has X Gn c 25 44 rfl rfl fun _ _ _ _ _ _ us hl => match us, hl with | [_, _], _ => rfl
  h__law_join := f_has X Gn c 26 45 rfl rfl fun _ _ _ _ _ _ us hl => match us, hl with | [_, _, _], _ => rfl
  h__law_truth := f_has X Gn c 27 46 rfl rfl fun _ _ _ _ _ _ us hl => match us, hl with | [_, _, _], _ => rfl
end
abbrev dLaw : DefRec := topDef RW.prog 46
theorem e_pb : behindTheImports RW.prog = l1 ++ .Assign [tgOf fstS] (.Dict (keysOf fstS) (valsOf fstS) (pos2Of fstS)) (posOf fstS) :: l2 := by kernel_rfl
theorem e_pk : (keysOf fstS).all (fun k => match k with
      | some k => isTup k
      | none => false) = true := by kernel_rfl
theorem e_pl : (keysOf fstS).length = 17 := by kernel_rfl
theorem e_pv : (keysOf fstS).length = (valsOf fstS).length := by kernel_rfl
theorem e_ps (env : Env) : swapsWithSole [tgOf fstS] (.Dict (keysOf fstS) (valsOf fstS) (pos2Of fstS)) (posOf fstS).line env = pure false := by rfl
theorem e_o1 : opening RW.prog = plainProg RW.prog.main.scope.names := by kernel_rfl
theorem e_o2 (s : Shared) : fenceModules? RW.prog s = some s := by kernel_rfl
theorem e_o3 : chainsOk qv = true := by kernel_rfl
theorem e_h1 : defOf qv RW.name = some (dLaw, []) := by kernel_rfl
theorem e_h2 : RW.prog.theDef RW.name = some (dLaw.params, dLaw.body, dLaw.scope) := by kernel_rfl
theorem e_h3 : kwWritten? dLaw.params.kwonlyargs dLaw.params.kw_defaults = some [] := by rfl
theorem e_h6 : (chainsOk qv && opensWell RW.prog && (frees RW.toRowW && RW.within.isEmpty)) = true := by decide +kernel
theorem e_h7 : RW.prog.bare := ⟨rfl, rfl, rfl, rfl, rfl, by decide +kernel⟩
theorem e_nm : dLaw.name = ("law" : PySem.Str) := by kernel_rfl
theorem e_df : dLaw.params.defaults = [] := by kernel_rfl
theorem e_call : WalkO qv lse (XL qv []) (hookL sp1 RW.prog 11).says RW.toRowW dLaw [] fun f vs => PySem.call f vs := by
  refine LamX.walk_ofTsE (l := PySem.Challenge.rw_queryheld_k04_whole_filters) (n := 63) (k := 34) (x := "script") (CX := fun w => L2.CX (PySem.Challenge.rw_queryheld_k04_whole_filters).prog w) rfl (by decide) e_df ⟨rfl, by decide, by decide⟩ ?F cx_end
  intro w mg fa h Y G hmg0
  obtain ⟨K, cc, P, KX, c, hcd, nP, hP, hcode, hmore⟩ := Y
  refine ⟨K, KX, ?_⟩
  have hmg : mg ("law" : PySem.Str) = some (.ref fa) := by
    rw [← e_nm]
    exact hmg0
  have bb : bfB K = true := List.all_eq_true.mp hmore bfB (List.mem_cons_self)
  obtain ⟨oc, od, osl, kV, doc, pm, an, cdv, ct, h1, h2, h3, h4⟩ := f_fun (st := st_law) KX G c 29 48 rfl rfl
  obtain ⟨oc', od', osl', kV', doc', pm', an', cdv', ct', q1, q2, q3, q4⟩ := f_fun (st := st__law_bad_row) KX G c 28 47 rfl rfl
  have ec := code_is h2 hcode
  subst ec
  exact law_mk KX G hmg (fun base => tp_all KX G c) (fun base => df_all KX G c) (fun base => bf_of KX G bb) (fun base => fb_mk' KX G (glo_ns (fact c 47)) q2 q3 q4) (glo_ns (fact c 48)) h2 h3 hcd nP hP
end K05
end
open PySem PySem.W PySem.Calls PyProof.Rows
theorem PySem.Challenge.cw_queryheld_k04_whole_filters_holds : PySem.Challenge.rw_queryheld_k04_whole_filters.Holds := by
  w_on; o_law
  refine HM.holds_behind (fun w => HM.behind_runL (pos := K05.posOf K05.fstS) (K05.size_w w) (K05.main_w w) (K05.dict_w w) (HM.parts_ok K05.e_pb K05.e_pk K05.e_pl K05.e_pv K05.e_ps) K05.e_o1 K05.e_o2 K05.e_o3) K05.e_h1 K05.e_h2 K05.e_h3 ?h4 ?h5 K05.e_h6 K05.e_h7 ?hw K05.e_call
  case h4 => decide +kernel
  case h5 => decide +kernel
  case hw => w_witness2
