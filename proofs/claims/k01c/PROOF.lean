import PyProof.Rows.All
import Wide.All
import OpenK.AllK
import Wide.FinOn
import PyProof.EqAt
import PyProof.EqKinds
import PyProof.TupleCall
import HandS.ForMost
import HandS.ForExc
import HandS.ExcOwn
import HandS.IsInst
import HandS.Deep
import HandS.TupAny
import HandS.More
import HandS.Flow
import HandS.Zip
import KE.DataCmp
import KE.DataFind
import KE.DataMinMax
import KE.SortData
import HandS.TupMul
import HandS.Style
import KE.KStateDown
import HandS.Head2
import HandS.Dict
import PyProof.DictDisplay
import HandS.HeadHook3
import HandS.HeadWalk
import KE.GoesEnum
import PySem.Challenge.RW_queryheld_k01_whole_least_differences
set_option Elab.async false
set_option linter.all false
set_option maxRecDepth 100000
set_option maxHeartbeats 4000000
namespace DL
open PySem PySem.Spec PyProof.Rows L2
abbrev D := PyData
def SqLM (K : PySem.W.Frag) (M : Addr → Prop) (H : Hp) (a : Addr) (xs : List V) : Prop :=
  (Rd H a (.lst xs) ∧ ¬ M a) ∨
    ∃ (o : Obj) (its : Array Value) (n : Nat), K.lookup a = some o ∧ o.cls = .type "list" ∧ o.dict = none ∧ o.data = .seq its n ∧ its.size ≤ sizeLine ∧ Vals xs its.toList
theorem SqLM.sq {K : PySem.W.Frag} {M : Addr → Prop} {H : Hp} {a : Addr} {xs : List V} (h : SqLM K M H a xs) : SqL K H a xs := by
  rcases h with ⟨h, _⟩ | h
  · exact .inl h
  · exact .inr h
mutual
inductive Da (K : PySem.W.Frag) (M : Addr → Prop) (H : Hp) : V → D → Prop
  | non : Da K M H .non .none
  | bl (b : Bool) : Da K M H (.bl b) (.bool b)
  | int (i : Int) : Da K M H (.int i) (.int i)
  | str (x : Str) : Da K M H (.str x) (.str x)
  | lst {a : Addr} {xs : List V} {ds : List D} : H a = some (.lst xs) → ¬ M a → DaL K M H xs ds → Da K M H (.ref a) (.list ds)
  | tup {a : Addr} {xs : List V} {ds : List D} : SqT K H a xs → DaL K M H xs ds → Da K M H (.ref a) (.tuple ds)
inductive DaL (K : PySem.W.Frag) (M : Addr → Prop) (H : Hp) : List V → List D → Prop
  | nil : DaL K M H [] []
  | cons {v : V} {vs : List V} {d : D} {ds : List D} : Da K M H v d → DaL K M H vs ds → DaL K M H (v :: vs) (d :: ds)
end
/-- M holds lists alone -/
def Ml (M : Addr → Prop) (H : Hp) : Prop := ∀ b, M b → ∃ xs, H b = some (.lst xs)
/-- all that was tracked, but M, is as it was -/
def Kp (M : Addr → Prop) (H H' : Hp) : Prop := ∀ b o, ¬ M b → H b = some o → H' b = some o
theorem Kp.refl {M : Addr → Prop} (H : Hp) : Kp M H H := fun _ _ _ h => h
theorem Kp.trans {M : Addr → Prop} {H H1 H2 : Hp} (a : Kp M H H1) (b : Kp M H1 H2) : Kp M H H2 := fun c o n h => b c o n (a c o n h)
theorem Kp.of_same {M : Addr → Prop} {H H' : Hp} (a : Same H H') : Kp M H H' := fun c o _ h => a c o h
theorem Kp.mono {M M' : Addr → Prop} {H H' : Hp} (a : Kp M H H') (h : ∀ b, M b → M' b) : Kp M' H H' := fun c o n q => a c o (fun z => n (h c z)) q
section
variable {K : PySem.W.Frag} {M M' : Addr → Prop} {H H' : Hp}
theorem sqt_kp {a : Addr} {xs : List V} (h : SqT K H a xs) (ml : Ml M H) (k : Kp M H H') : SqT K H' a xs := by
  rcases h with (h | ⟨o, h⟩) | h
  · refine .inl (.inl (k _ _ (fun m => ?_) h))
    obtain ⟨ys, e⟩ := ml _ m
    rw [h] at e; cases e
  · refine .inl (.inr ⟨o, k _ _ (fun m => ?_) h⟩)
    obtain ⟨ys, e⟩ := ml _ m
    rw [h] at e; cases e
  · exact .inr h
theorem sqt_same {a : Addr} {xs : List V} (s : Same H H') (h : SqT K H a xs) : SqT K H' a xs := by
  rcases h with (h | ⟨o, h⟩) | h
  · exact .inl (.inl (s _ _ h))
  · exact .inl (.inr ⟨o, s _ _ h⟩)
  · exact .inr h
theorem sqlm_kp {a : Addr} {xs : List V} (h : SqLM K M H a xs) (k : Kp M H H') : SqLM K M H' a xs := by
  rcases h with ⟨h | ⟨o, h⟩, n⟩ | h
  · exact .inl ⟨.inl (k _ _ n h), n⟩
  · exact .inl ⟨.inr ⟨o, k _ _ n h⟩, n⟩
  · exact .inr h
theorem sqlm_sub {a : Addr} {xs : List V} (h : SqLM K M H a xs) (s : ∀ b, M' b → M b) : SqLM K M' H a xs := by
  rcases h with ⟨h, n⟩ | h
  · exact .inl ⟨h, fun z => n (s _ z)⟩
  · exact .inr h
mutual
theorem Da.kp (ml : Ml M H) (k : Kp M H H') : ∀ {v : V} {d : D}, Da K M H v d → Da K M H' v d
  | _, _, .non => .non
  | _, _, .bl b => .bl b
  | _, _, .int i => .int i
  | _, _, .str x => .str x
  | _, _, .lst h n t => .lst (k _ _ n h) n (DaL.kp ml k t)
  | _, _, .tup h t => .tup (sqt_kp h ml k) (DaL.kp ml k t)
theorem DaL.kp (ml : Ml M H) (k : Kp M H H') : ∀ {vs : List V} {ds : List D}, DaL K M H vs ds → DaL K M H' vs ds
  | _, _, .nil => .nil
  | _, _, .cons h t => .cons (Da.kp ml k h) (DaL.kp ml k t)
end
mutual
theorem Da.sub (s : ∀ b, M' b → M b) : ∀ {v : V} {d : D}, Da K M H v d → Da K M' H v d
  | _, _, .non => .non
  | _, _, .bl b => .bl b
  | _, _, .int i => .int i
  | _, _, .str x => .str x
  | _, _, .lst h n t => .lst h (fun z => n (s _ z)) (DaL.sub s t)
  | _, _, .tup h t => .tup h (DaL.sub s t)
theorem DaL.sub (s : ∀ b, M' b → M b) : ∀ {vs : List V} {ds : List D}, DaL K M H vs ds → DaL K M' H vs ds
  | _, _, .nil => .nil
  | _, _, .cons h t => .cons (Da.sub s h) (DaL.sub s t)
end
mutual
theorem Da.same (s : Same H H') : ∀ {v : V} {d : D}, Da K M H v d → Da K M H' v d
  | _, _, .non => .non
  | _, _, .bl b => .bl b
  | _, _, .int i => .int i
  | _, _, .str x => .str x
  | _, _, .lst h n t => .lst (s _ _ h) n (DaL.same s t)
  | _, _, .tup h t => .tup (sqt_same s h) (DaL.same s t)
theorem DaL.same (s : Same H H') : ∀ {vs : List V} {ds : List D}, DaL K M H vs ds → DaL K M H' vs ds
  | _, _, .nil => .nil
  | _, _, .cons h t => .cons (Da.same s h) (DaL.same s t)
end
/-- no list within -/
def noL : D → Bool
  | .none => true
  | .bool _ => true
  | .int _ => true
  | .str _ => true
  | .list _ => false
  | .tuple ds => noLs ds
  | .dict _ => false
where noLs : List D → Bool
  | [] => true
  | d :: ds => noL d && noLs ds
mutual
theorem Da.any : ∀ {v : V} {d : D}, noL d = true → Da K M H v d → Da K M' H v d
  | _, _, _, .non => .non
  | _, _, _, .bl b => .bl b
  | _, _, _, .int i => .int i
  | _, _, _, .str x => .str x
  | _, _, n, .lst h _ t => by simp [noL] at n
  | _, _, n, .tup h t => .tup h (DaL.any (by simpa [noL] using n) t)
theorem DaL.any : ∀ {vs : List V} {ds : List D}, noL.noLs ds = true → DaL K M H vs ds → DaL K M' H vs ds
  | _, _, _, .nil => .nil
  | _, _, n, .cons h t => by
    simp only [noL.noLs, Bool.and_eq_true] at n
    exact .cons (Da.any n.1 h) (DaL.any n.2 t)
end
mutual
theorem Da.dp : ∀ {v : V} {d : D}, Da K M H v d → Dp K H v d
  | _, _, .non => .non
  | _, _, .bl b => .bl b
  | _, _, .int i => .int i
  | _, _, .str x => .str x
  | _, _, .lst h _ t => .lst (.of h) (DaL.dp t)
  | _, _, .tup h t => .tup h (DaL.dp t)
theorem DaL.dp : ∀ {vs : List V} {ds : List D}, DaL K M H vs ds → DpAll K H vs ds
  | _, _, .nil => .nil
  | _, _, .cons h t => .cons (Da.dp h) (DaL.dp t)
end
theorem DaL.length : ∀ {vs : List V} {ds : List D}, DaL K M H vs ds → vs.length = ds.length
  | _, _, .nil => rfl
  | _, _, .cons _ t => congrArg (· + 1) (DaL.length t)
theorem DaL.get : ∀ {vs : List V} {ds : List D} {i : Nat} {d : D}, DaL K M H vs ds → ds[i]? = some d → ∃ v, vs[i]? = some v ∧ Da K M H v d
  | _, _, _, _, .nil, e => by simp at e
  | _, _, 0, _, .cons h _, e => by simp at e; subst e; exact ⟨_, rfl, h⟩
  | _, _, i + 1, d, .cons _ t, e => by
    obtain ⟨v, h1, h2⟩ := DaL.get (i := i) (d := d) t (by simpa using e)
    exact ⟨v, by simpa using h1, h2⟩
theorem DaL.append : ∀ {vs ws : List V} {ds es : List D}, DaL K M H vs ds → DaL K M H ws es → DaL K M H (vs ++ ws) (ds ++ es)
  | _, _, _, _, .nil, q => q
  | _, _, _, _, .cons h t, q => .cons h (DaL.append t q)
theorem DaL.dropLast : ∀ {vs : List V} {ds : List D}, DaL K M H vs ds → DaL K M H vs.dropLast ds.dropLast
  | _, _, .nil => .nil
  | _, _, .cons h .nil => .nil
  | _, _, .cons h (.cons h2 t) => .cons h (DaL.dropLast (.cons h2 t))
theorem DaL.take : ∀ {vs : List V} {ds : List D} (n : Nat), DaL K M H vs ds → DaL K M H (vs.take n) (ds.take n)
  | _, _, 0, _ => by simp; exact .nil
  | _, _, _ + 1, .nil => .nil
  | _, _, n + 1, .cons h t => .cons h (DaL.take n t)
theorem DaL.drop : ∀ {vs : List V} {ds : List D} (n : Nat), DaL K M H vs ds → DaL K M H (vs.drop n) (ds.drop n)
  | _, _, 0, t => t
  | _, _, _ + 1, .nil => .nil
  | _, _, n + 1, .cons h t => DaL.drop n t
/-- a new object leaves M and what is tracked -/
theorem Ml.upd {p : Addr} {o : HO} (ml : Ml M H) (hp : H p = none) : Ml M (upd H p o) := fun b m => by
  obtain ⟨xs, e⟩ := ml b m
  exact ⟨xs, by rw [upd_ne (ne_of_none e hp)]; exact e⟩
theorem same_upd {p : Addr} {o : HO} (hp : H p = none) : Same H (upd H p o) := fun b u q => by rw [upd_ne (ne_of_none q hp)]; exact q
theorem Ml.fresh {p : Addr} (ml : Ml M H) (hp : H p = none) : ¬ M p := fun m => by
  obtain ⟨xs, e⟩ := ml p m
  rw [hp] at e; cases e
/-- a fresh tuple, a fresh list -/
theorem Da.newT {p : Addr} {vs : List V} {ds : List D} (ml : Ml M H) (hp : H p = none) (h : DaL K M H vs ds) : Da K M (upd H p (.tup vs)) (.ref p) (.tuple ds) :=
  .tup (.inl (.inl upd_same)) (h.kp ml (.of_same (same_upd hp)))
theorem Da.newL {p : Addr} {vs : List V} {ds : List D} (ml : Ml M H) (hp : H p = none) (h : DaL K M H vs ds) : Da K M (upd H p (.lst vs)) (.ref p) (.list ds) :=
  .lst upd_same (ml.fresh hp) (h.kp ml (.of_same (same_upd hp)))
end
structure RS where
  ns : List Int
  a : Nat
  b : Int
  c : Int
inductive Out (α : Type) where
  | val (a : α)
  | exc (cls : Str) (idx : Option Int)
abbrev Mn (α : Type) := RS → Option (Out α × RS)
inductive Slot where
  | hid
  | dat (d : D)
  | row
  | own (ds : List D)
abbrev Ev := List Slot
/-- where the row stands, and its script -/
structure Rw where
  a : Addr
  sc : Addr
  ns : List Int
def RowAt (K : PySem.W.Frag) (M : Addr → Prop) (H : Hp) (r : Rw) (rs : RS) : Prop :=
  (H r.a = some (.lst [.ref r.sc, .int (rs.a : Int), .int rs.b, .int rs.c]) ∧ rs.ns = r.ns) ∧ SqLM K M H r.sc (r.ns.map V.int)
/-- all that was tracked but the row -/
def Stp (r : Rw) (H H' : Hp) : Prop := ∀ b o, b ≠ r.a → H b = some o → H' b = some o
theorem Stp.refl {r : Rw} (H : Hp) : Stp r H H := fun _ _ _ h => h
theorem Stp.trans {r : Rw} {H H1 H2 : Hp} (a : Stp r H H1) (b : Stp r H1 H2) : Stp r H H2 := fun c o n h => b c o n (a c o n h)
theorem Stp.of_same {r : Rw} {H H' : Hp} (a : Same H H') : Stp r H H' := fun c o _ h => a c o h
theorem Stp.kp {M : Addr → Prop} {r : Rw} {H H' : Hp} (mr : M r.a) (a : Stp r H H') : Kp M H H' := fun b o n h => a b o (fun z => n (z ▸ mr)) h
def SlotAt (K : PySem.W.Frag) (M : Addr → Prop) (r : Rw) (σ : L2.St) (H : Hp) (i : Nat) : Slot → Prop
  | .hid => True
  | .own _ => True
  | .dat d => ∃ v, σ[i]? = some (some v) ∧ Da K M H v d
  | .row => σ[i]? = some (some (.ref r.a))
structure RelE (K : PySem.W.Frag) (M : Addr → Prop) (r : Rw) (σ : L2.St) (H : Hp) (ev : Ev) (rs : RS) : Prop where
  mr : M r.a
  ml : Ml M H
  row : RowAt K M H r rs
  slots : ∀ i s, ev[i]? = some s → SlotAt K M r σ H i s
  len : ev.length ≤ σ.length
section
variable {K : PySem.W.Frag} {M : Addr → Prop} {r : Rw} {σ : L2.St} {H H' H1 : Hp} {ev : Ev} {rs rs' : RS}
theorem Ml.stp (mr : M r.a) (ml : Ml M H) (s : Stp r H H') (rw' : RowAt K M H' r rs') : Ml M H' := fun b m => by
  by_cases e : b = r.a
  · obtain ⟨⟨q, _⟩, _⟩ := rw'
    exact ⟨_, by rw [e]; exact q⟩
  · obtain ⟨xs, q⟩ := ml b m
    exact ⟨xs, s _ _ e q⟩
theorem SlotAt.kp {i : Nat} (ml : Ml M H) (k : Kp M H H') : ∀ {s : Slot}, SlotAt K M r σ H i s → SlotAt K M r σ H' i s
  | .hid, _ => trivial
  | .own _, _ => trivial
  | .dat d, ⟨v, e, h⟩ => ⟨v, e, h.kp ml k⟩
  | .row, h => h
theorem RelE.stp (R : RelE K M r σ H ev rs) (s : Stp r H H') (rw' : RowAt K M H' r rs') : RelE K M r σ H' ev rs' :=
  ⟨R.mr, R.ml.stp R.mr s rw', rw', fun i t e => (R.slots i t e).kp R.ml (s.kp R.mr), R.len⟩
theorem RowAt.new {p : Addr} {o : HO} (ml : Ml M H) (mr : M r.a) (h : RowAt K M H r rs) (hp : H p = none) : RowAt K M (upd H p o) r rs := by
  obtain ⟨⟨e, e'⟩, q⟩ := h
  exact ⟨⟨by rw [upd_ne (ne_of_none e hp)]; exact e, e'⟩, sqlm_kp q (.of_same (same_upd hp))⟩
theorem RelE.new {p : Addr} {o : HO} (R : RelE K M r σ H ev rs) (hp : H p = none) : RelE K M r σ (upd H p o) ev rs :=
  R.stp (.of_same (same_upd hp)) (R.row.new R.ml R.mr hp)
end
def ExA (mg : Str → Option Value) (x : Str) (i : Option Int) (cls : Value) (dd : Option Addr) (H : Hp) : Prop :=
  (∃ C, mg x = some (.ref C) ∧ cls = .ref C) ∧ (match i with
    | none => dd = none
    | some n => ∃ d, dd = some d ∧ H d = some (.xd [(("index" : Str), V.int n)]))
/-- what is wanted of an outcome -/
def Wan {α : Type} (K : PySem.W.Frag) (mg : Str → Option Value) (M : Addr → Prop) (r : Rw) (H : Hp) (rs' : RS) (E : XK) (V : α → Hp → Prop) : Out α → Prop
  | .val d => ∀ H', Stp r H H' → RowAt K M H' r rs' → V d H'
  | .exc x i => ∀ cls dd H', Stp r H H' → RowAt K M H' r rs' → ExA mg x i cls dd H' → E cls dd H'
def tE (K : PySem.W.Frag) (mg : Str → Option Value) (W : WX) (f : Ev → Mn D) : TE := fun σ H Q =>
  ∃ M r ev rs, RelE K M r σ H ev rs ∧ ∃ o rs', f ev rs = some (o, rs') ∧ Wan K mg M r H rs' (fun cls dd H' => W cls dd σ H') (fun d H' => ∀ v, Da K M H' v d → Q v H') o
def tT (K : PySem.W.Frag) (mg : Str → Option Value) (W : WX) (f : Ev → Mn Bool) : TT := fun σ H Q =>
  ∃ M r ev rs, RelE K M r σ H ev rs ∧ ∃ o rs', f ev rs = some (o, rs') ∧ Wan K mg M r H rs' (fun cls dd H' => W cls dd σ H') (fun b H' => Q b H') o
/-- arguments: data, or the row -/
inductive ArgL (K : PySem.W.Frag) (M : Addr → Prop) (r : Rw) (H : Hp) : List V → List Slot → Prop
  | nil : ArgL K M r H [] []
  | dat {v : V} {d : D} {vs : List V} {ss : List Slot} : Da K M H v d → ArgL K M r H vs ss → ArgL K M r H (v :: vs) (.dat d :: ss)
  | row {vs : List V} {ss : List Slot} : ArgL K M r H vs ss → ArgL K M r H (.ref r.a :: vs) (.row :: ss)
theorem ArgL.kp {K : PySem.W.Frag} {M : Addr → Prop} {r : Rw} {H H' : Hp} (ml : Ml M H) (k : Kp M H H') : ∀ {vs : List V} {ss : List Slot}, ArgL K M r H vs ss → ArgL K M r H' vs ss
  | _, _, .nil => .nil
  | _, _, .dat h t => .dat (h.kp ml k) (ArgL.kp ml k t)
  | _, _, .row t => .row (ArgL.kp ml k t)
theorem ArgL.length {K : PySem.W.Frag} {M : Addr → Prop} {r : Rw} {H : Hp} : ∀ {vs : List V} {ss : List Slot}, ArgL K M r H vs ss → vs.length = ss.length
  | _, _, .nil => rfl
  | _, _, .dat _ t => congrArg (· + 1) (ArgL.length t)
  | _, _, .row t => congrArg (· + 1) (ArgL.length t)
def tAr (K : PySem.W.Frag) (mg : Str → Option Value) (W : WX) (f : Ev → Mn (List Slot)) : TA := fun σ H Q =>
  ∃ M r ev rs, RelE K M r σ H ev rs ∧ ∃ o rs', f ev rs = some (o, rs') ∧ Wan K mg M r H rs' (fun cls dd H' => W cls dd σ H') (fun ss H' => ∀ vs, ArgL K M r H' vs ss → Q vs H') o
structure Gm where
  P : Program
  w : World
  K : PySem.W.Frag
  mg : Str → Option Value
  base : Heap
/-- a scope; which of its cells are stored here -/
structure Sx where
  sc : Scope
  fc : Str → Bool
structure Gd (G : Gm) (k : Nat) (sc : Sx) (N : List Str) (X : Cx) : Prop where
  hN : X.N = N
  nd : N.Nodup
  hsc : X.env.scope = sc.sc
  hfc : ∀ x, sc.fc x = true → X.fn x = true
  calm : X.calm = true
  room : Room k X.A
  hP : X.prog = G.P
  hw : X.w = G.w
  hK : X.K = G.K
  hmg : X.mg = G.mg
  hb : X.base = G.base
def SE (G : Gm) (k : Nat) (sc : Sx) (N : List Str) (e : Expr) (f : Ev → Mn D) : Prop := ∀ (X : Cx) (W : WX), Gd G k sc N X → Takes X W → PE X e (tE G.K G.mg W f)
def ST (G : Gm) (k : Nat) (sc : Sx) (N : List Str) (e : Expr) (f : Ev → Mn Bool) : Prop := ∀ (X : Cx) (W : WX), Gd G k sc N X → Takes X W → PT X e (tT G.K G.mg W f)
def SA (G : Gm) (k : Nat) (sc : Sx) (N : List Str) (es : List Expr) (f : Ev → Mn (List Slot)) : Prop := ∀ (X : Cx) (W : WX), Gd G k sc N X → Takes X W → PA X es (tAr G.K G.mg W f)
theorem pe_imp {X : Cx} {e : Expr} {t t' : TE} (h : PE X e t) (i : ∀ σ H Q, t' σ H Q → t σ H Q) : PE X e t' := ⟨fun pins s σ H Q I q => h.run pins s σ H Q I (i σ H Q q)⟩
theorem pt_imp {X : Cx} {e : Expr} {t t' : TT} (h : PT X e t) (i : ∀ σ H Q, t' σ H Q → t σ H Q) : PT X e t' := ⟨fun pins s σ H Q I q => h.run pins s σ H Q I (i σ H Q q)⟩
theorem pa_imp {X : Cx} {e : List Expr} {t t' : TA} (h : PA X e t) (i : ∀ σ H Q, t' σ H Q → t σ H Q) : PA X e t' := ⟨fun pos pins s σ H Q I q => h.run pos pins s σ H Q I (i σ H Q q)⟩
theorem pss_imp {X : Cx} {e : List Stmt} {t t' : TS} (h : PSs X e t) (i : ∀ D σ H, t' D σ H → t D σ H) : PSs X e t' := ⟨fun pins s σ H D I q => h.run pins s σ H D I (i D σ H q)⟩
theorem ps_imp {X : Cx} {e : Stmt} {t t' : TS} (h : PS X e t) (i : ∀ D σ H, t' D σ H → t D σ H) : PS X e t' := ⟨fun pins s σ H D I q => h.run pins s σ H D I (i D σ H q)⟩
def pur {α : Type} (a : α) : Mn α := fun rs => some (.val a, rs)
def bnd {α β : Type} (m : Mn α) (f : α → Mn β) : Mn β := fun rs => match m rs with
  | none => none
  | some (.val a, rs') => f a rs'
  | some (.exc x i, rs') => some (.exc x i, rs')
def lft {α : Type} (o : Option α) : Mn α := fun rs => match o with
  | none => none
  | some a => some (.val a, rs)
theorem bnd_some {α β : Type} {m : Mn α} {f : α → Mn β} {rs : RS} {o : Out β} {rs' : RS} (h : bnd m f rs = some (o, rs')) :
    (∃ a rs1, m rs = some (.val a, rs1) ∧ f a rs1 = some (o, rs')) ∨ ∃ x i, m rs = some (.exc x i, rs') ∧ o = .exc x i := by
  unfold bnd at h
  split at h
  · cases h
  · rename_i a rs1 e; exact .inl ⟨a, rs1, e, h⟩
  · rename_i x i rs1 e; cases h; exact .inr ⟨x, i, e, rfl⟩
theorem lft_some {α : Type} {v : Option α} {rs rs' : RS} {o : Out α} (h : lft v rs = some (o, rs')) : ∃ a, v = some a ∧ o = .val a ∧ rs' = rs := by
  unfold lft at h
  split at h
  · cases h
  · rename_i a; cases h; exact ⟨a, rfl, rfl, rfl⟩
end DL
namespace DL
open PySem PySem.Spec PyProof.Rows L2
section
variable {K : PySem.W.Frag} {mg : Str → Option Value} {M : Addr → Prop} {r : Rw} {σ : L2.St} {H H' H1 : Hp} {ev : Ev} {rs rs' : RS} {W : WX}
theorem Wan.stp {α : Type} {E : XK} {V : α → Hp → Prop} {o : Out α} (w : Wan K mg M r H rs' E V o) (s : Stp r H H1) : Wan K mg M r H1 rs' E V o := by
  cases o with
  | val a => exact fun H' s' rw' => w H' (s.trans s') rw'
  | exc x i => exact fun cls dd H' s' rw' e => w cls dd H' (s.trans s') rw' e
theorem Wan.exc {α β : Type} {E : XK} {V : α → Hp → Prop} {V' : β → Hp → Prop} {x : Str} {i : Option Int} (w : Wan K mg M r H rs' E V (.exc x i)) : Wan K mg M r H rs' E V' (.exc x i) := w
theorem tE_bnd {β : Type} {fa : Ev → Mn D} {kk : D → Mn β} {o : Out β} {Vb : β → Hp → Prop} {Q1 : VK} (R : RelE K M r σ H ev rs) (h : bnd (fa ev) kk rs = some (o, rs')) (w : Wan K mg M r H rs' (fun cls dd H' => W cls dd σ H') Vb o)
    (c : ∀ x rs1 H1 v, RelE K M r σ H1 ev rs1 → Stp r H H1 → Da K M H1 v x → kk x rs1 = some (o, rs') → Wan K mg M r H1 rs' (fun cls dd H' => W cls dd σ H') Vb o → Q1 v H1) : tE K mg W fa σ H Q1 := by
  rcases bnd_some h with ⟨x, rs1, e1, e2⟩ | ⟨x, i, e1, rfl⟩
  · refine ⟨M, r, ev, rs, R, .val x, rs1, e1, fun H1 s1 w1 v d1 => ?_⟩
    exact c x rs1 H1 v (R.stp s1 w1) s1 d1 e2 (w.stp s1)
  · exact ⟨M, r, ev, rs, R, .exc x i, rs', e1, w.exc⟩
theorem tT_bnd {β : Type} {fa : Ev → Mn Bool} {kk : Bool → Mn β} {o : Out β} {Vb : β → Hp → Prop} {Q1 : Bool → Hp → Prop} (R : RelE K M r σ H ev rs) (h : bnd (fa ev) kk rs = some (o, rs')) (w : Wan K mg M r H rs' (fun cls dd H' => W cls dd σ H') Vb o)
    (c : ∀ x rs1 H1, RelE K M r σ H1 ev rs1 → Stp r H H1 → kk x rs1 = some (o, rs') → Wan K mg M r H1 rs' (fun cls dd H' => W cls dd σ H') Vb o → Q1 x H1) : tT K mg W fa σ H Q1 := by
  rcases bnd_some h with ⟨x, rs1, e1, e2⟩ | ⟨x, i, e1, rfl⟩
  · refine ⟨M, r, ev, rs, R, .val x, rs1, e1, fun H1 s1 w1 => ?_⟩
    exact c x rs1 H1 (R.stp s1 w1) s1 e2 (w.stp s1)
  · exact ⟨M, r, ev, rs, R, .exc x i, rs', e1, w.exc⟩
theorem tAr_bnd {β : Type} {fa : Ev → Mn (List Slot)} {kk : List Slot → Mn β} {o : Out β} {Vb : β → Hp → Prop} {Q1 : List V → Hp → Prop} (R : RelE K M r σ H ev rs) (h : bnd (fa ev) kk rs = some (o, rs')) (w : Wan K mg M r H rs' (fun cls dd H' => W cls dd σ H') Vb o)
    (c : ∀ x rs1 H1 vs, RelE K M r σ H1 ev rs1 → Stp r H H1 → ArgL K M r H1 vs x → kk x rs1 = some (o, rs') → Wan K mg M r H1 rs' (fun cls dd H' => W cls dd σ H') Vb o → Q1 vs H1) : tAr K mg W fa σ H Q1 := by
  rcases bnd_some h with ⟨x, rs1, e1, e2⟩ | ⟨x, i, e1, rfl⟩
  · refine ⟨M, r, ev, rs, R, .val x, rs1, e1, fun H1 s1 w1 v d1 => ?_⟩
    exact c x rs1 H1 v (R.stp s1 w1) s1 d1 e2 (w.stp s1)
  · exact ⟨M, r, ev, rs, R, .exc x i, rs', e1, w.exc⟩
end
section
variable {G : Gm} {k : Nat} {sc : Sx} {N : List Str}
def visB (sc : Sx) (x : Str) : Bool := match sc.sc.names.lookup x with
  | some .local => true
  | some .cell => true
  | some .free => true
  | _ => false
theorem vis_of {sc : Sx} {x : Str} (h : visB sc x = true) : Vis sc.sc x := by
  unfold visB at h
  split at h <;> first | exact .inl (by assumption) | exact .inr (.inl (by assumption)) | exact .inr (.inr (by assumption)) | cases h
def glB (sc : Sx) (x : Str) : Bool := match sc.sc.names.lookup x with
  | some .globalImplicit => true
  | _ => false
theorem gl_of {X : Cx} {x : Str} (g : Gd G k sc N X) (h : glB sc x = true) : Gl X x := by
  unfold glB at h
  split at h
  · rename_i e
    show X.env.scope.names.lookup x = _
    rw [g.hsc]; exact e
  · cases h
def getE (ev : Ev) (i : Nat) : Option D := match ev[i]? with
  | some (.dat d) => some d
  | _ => none
theorem getE_some {ev : Ev} {i : Nat} {d : D} (h : getE ev i = some d) : ev[i]? = some (.dat d) := by
  unfold getE at h
  split at h
  · rename_i e; cases h; exact e
  · cases h
def dVar (i : Nat) (ev : Ev) : Mn D := lft (getE ev i)
theorem e_var (i : Nat) {x : Str} {p : Pos} (hi : N[i]? = some x := by rfl) (hv : visB sc x = true := by rfl) (hd : (x == ("__debug__" : Str)) = false := by decide) (hcd : (x == ("__classdict__" : Str)) = false := by decide) : SE G k sc N (.Name x p) (dVar i) := by
  intro X W g tk
  refine pe_imp (pe_var (i := i) (by rw [g.hN]; exact hi) (by rw [g.hsc]; exact vis_of hv) hd hcd) fun σ H Q h => ?_
  obtain ⟨M, r, ev, rs, R, o, rs', e, w⟩ := h
  obtain ⟨d, e1, rfl, rfl⟩ := lft_some e
  obtain ⟨v, e2, hd⟩ := R.slots i _ (getE_some e1)
  exact ⟨v, e2, w H (.refl H) R.row v hd⟩
def dLit (d : D) (_ : Ev) : Mn D := pur d
theorem e_int {i : Int} {j : Nat} {p : Pos} : SE G k sc N (.Constant (.int i) j p) (dLit (.int i)) := fun X W g tk => pe_imp pe_int fun σ H Q h => by
  obtain ⟨M, r, ev, rs, R, o, rs', e, w⟩ := h
  cases e
  exact w H (.refl H) R.row _ (.int i)
theorem e_bl {b : Bool} {j : Nat} {p : Pos} : SE G k sc N (.Constant (.bool b) j p) (dLit (.bool b)) := fun X W g tk => pe_imp pe_bl fun σ H Q h => by
  obtain ⟨M, r, ev, rs, R, o, rs', e, w⟩ := h
  cases e
  exact w H (.refl H) R.row _ (.bl b)
theorem e_non {j : Nat} {p : Pos} : SE G k sc N (.Constant .none j p) (dLit .none) := fun X W g tk => pe_imp pe_non fun σ H Q h => by
  obtain ⟨M, r, ev, rs, R, o, rs', e, w⟩ := h
  cases e
  exact w H (.refl H) R.row _ .non
theorem e_str {x : Str} {j : Nat} {p : Pos} : SE G k sc N (.Constant (.str x) j p) (dLit (.str x)) := fun X W g tk => pe_imp pe_str fun σ H Q h => by
  obtain ⟨M, r, ev, rs, R, o, rs', e, w⟩ := h
  cases e
  exact w H (.refl H) R.row _ (.str x)
/-- a module's constant that is data -/
def GlD (G : Gm) (x : Str) (d : D) : Prop := ∃ u v, G.mg x = some u ∧ RelV v u ∧ ∀ M H, Da G.K M H v d
theorem e_glob {x : Str} {d : D} {p : Pos} (h : GlD G x d) (hg : glB sc x = true := by rfl) (hdb : (x == ("__debug__" : Str)) = false := by decide) : SE G k sc N (.Name x p) (dLit d) := fun X W g tk => by
  obtain ⟨u, v, h1, h2, h3⟩ := h
  refine pe_imp (pe_glob (gl_of g hg) (by rw [g.hmg]; exact h1) h2 hdb) fun σ H Q h => ?_
  obtain ⟨M, r, ev, rs, R, o, rs', e, w⟩ := h
  cases e
  exact w H (.refl H) R.row _ (h3 M H)
theorem e_bin {e a b : Expr} {fa fb : Ev → Mn D} {op : D → D → Option D} {rl : Cx → R2} (ha : SE G k sc N a fa) (hb : SE G k sc N b fb) (mk : ∀ X ta tb, Gd G k sc N X → PE X a ta → PE X b tb → PE X e (tOp (rl X) ta tb))
    (hr : ∀ X M H x y dx dy d Q, Gd G k sc N X → Ml M H → Da G.K M H x dx → Da G.K M H y dy → op dx dy = some d → (∀ v H', Same H H' → Da G.K M H' v d → Q v H') → rl X x y H Q) :
    SE G k sc N e (fun ev => bnd (fa ev) fun x => bnd (fb ev) fun y => lft (op x y)) := fun X W g tk => by
  refine pe_imp (mk X _ _ g (ha X W g tk) (hb X W g tk)) fun σ H Q h => ?_
  obtain ⟨M, r, ev, rs, R, o, rs', e, w⟩ := h
  refine tE_bnd R e w fun x rs1 H1 v R1 s1 d1 e1 w1 => tE_bnd R1 e1 w1 fun y rs2 H2 u R2 s2 d2 e2 w2 => ?_
  obtain ⟨d, e3, rfl, rfl⟩ := lft_some e2
  refine hr X M H2 v u x y d Q g R2.ml (d1.kp R1.ml (s2.kp R.mr)) d2 e3 fun z H3 s3 d3 => ?_
  exact w2 H3 (.of_same s3) (by
    obtain ⟨⟨q1, q1'⟩, q2⟩ := R2.row
    exact ⟨⟨s3 _ _ q1, q1'⟩, sqlm_kp q2 (.of_same s3)⟩) z d3
theorem row_same {K : PySem.W.Frag} {M : Addr → Prop} {r : Rw} {rs : RS} {H H' : Hp} (h : RowAt K M H r rs) (s : Same H H') : RowAt K M H' r rs := by
  obtain ⟨⟨q1, q1'⟩, q2⟩ := h
  exact ⟨⟨s _ _ q1, q1'⟩, sqlm_kp q2 (.of_same s)⟩
theorem e_one {e a : Expr} {fa : Ev → Mn D} {op : D → Option D} {rl : Cx → V → Hp → VK → Prop} (ha : SE G k sc N a fa) (mk : ∀ X ta, Gd G k sc N X → PE X a ta → PE X e (fun σ H Q => ta σ H fun x H1 => rl X x H1 Q))
    (hr : ∀ X M H x dx d Q, Gd G k sc N X → Ml M H → Da G.K M H x dx → op dx = some d → (∀ v H', Same H H' → Da G.K M H' v d → Q v H') → rl X x H Q) :
    SE G k sc N e (fun ev => bnd (fa ev) fun x => lft (op x)) := fun X W g tk => by
  refine pe_imp (mk X _ g (ha X W g tk)) fun σ H Q h => ?_
  obtain ⟨M, r, ev, rs, R, o, rs', e, w⟩ := h
  refine tE_bnd R e w fun x rs1 H1 v R1 s1 d1 e1 w1 => ?_
  obtain ⟨d, e3, rfl, rfl⟩ := lft_some e1
  exact hr X M H1 v x d Q g R1.ml d1 e3 fun z H3 s3 d3 => w1 H3 (.of_same s3) (row_same R1.row s3) z d3
def dNil (_ : Ev) : Mn (List Slot) := pur []
def dCons (f : Ev → Mn D) (g : Ev → Mn (List Slot)) (ev : Ev) : Mn (List Slot) := bnd (f ev) fun d => bnd (g ev) fun ss => pur (.dat d :: ss)
def isRow : Option Slot → Bool
  | some .row => true
  | _ => false
theorem isRow_some {o : Option Slot} (h : isRow o = true) : o = some .row := by
  unfold isRow at h
  split at h
  · rfl
  · cases h
def dRow (i : Nat) (g : Ev → Mn (List Slot)) (ev : Ev) : Mn (List Slot) := if isRow ev[i]? = true then bnd (g ev) fun ss => pur (.row :: ss) else fun _ => none
theorem a_nil : SA G k sc N [] dNil := fun X W g tk => pa_imp pa_nil fun σ H Q h => by
  obtain ⟨M, r, ev, rs, R, o, rs', e, w⟩ := h
  cases e
  exact w H (.refl H) R.row [] .nil
theorem a_cons {e : Expr} {es : List Expr} {f : Ev → Mn D} {ff : Ev → Mn (List Slot)} (h1 : SE G k sc N e f) (h2 : SA G k sc N es ff) (hs : ∀ env, starEach (e :: es) env = (false, eval e env) :: starEach es env := by intro _; rfl) : SA G k sc N (e :: es) (dCons f ff) := fun X W g tk => by
  refine pa_imp (pa_cons (h1 X W g tk) (h2 X W g tk) (hs _)) fun σ H Q h => ?_
  obtain ⟨M, r, ev, rs, R, o, rs', e, w⟩ := h
  refine tE_bnd R e w fun x rs1 H1 v R1 s1 d1 e1 w1 => tAr_bnd R1 e1 w1 fun ss rs2 H2 vs R2 s2 d2 e2 w2 => ?_
  cases e2
  exact w2 H2 (.refl _) R2.row _ (.dat (d1.kp R1.ml (s2.kp R.mr)) d2)
theorem a_row (i : Nat) {x : Str} {p : Pos} {es : List Expr} {ff : Ev → Mn (List Slot)} (h2 : SA G k sc N es ff) (hi : N[i]? = some x := by rfl) (hv : visB sc x = true := by rfl) (hd : (x == ("__debug__" : Str)) = false := by decide) (hcd : (x == ("__classdict__" : Str)) = false := by decide) :
    SA G k sc N (.Name x p :: es) (dRow i ff) := fun X W g tk => by
  refine pa_imp (pa_cons (pe_var (i := i) (by rw [g.hN]; exact hi) (by rw [g.hsc]; exact vis_of hv) hd hcd) (h2 X W g tk) rfl) fun σ H Q h => ?_
  obtain ⟨M, r, ev, rs, R, o, rs', e, w⟩ := h
  unfold dRow at e
  split at e
  · rename_i er
    refine ⟨.ref r.a, R.slots i _ (isRow_some er), ?_⟩
    refine tAr_bnd R e w fun ss rs2 H2 vs R2 s2 d2 e2 w2 => ?_
    cases e2
    exact w2 H2 (.refl _) R2.row _ (.row d2)
  · cases e
/-- all data -/
def dats : List Slot → Option (List D)
  | [] => some []
  | .dat d :: ss => (dats ss).map (d :: ·)
  | _ :: _ => none
theorem ArgL.dats {K : PySem.W.Frag} {M : Addr → Prop} {r : Rw} {H : Hp} : ∀ {vs : List V} {ss : List Slot} {ds : List D}, ArgL K M r H vs ss → DL.dats ss = some ds → DaL K M H vs ds
  | _, _, _, .nil, e => by cases e; exact .nil
  | _, _, _, .dat h t, e => by
    unfold DL.dats at e
    cases q : DL.dats _ with
    | none => rw [q] at e; cases e
    | some es => rw [q] at e; cases e; exact .cons h (ArgL.dats t q)
  | _, _, _, .row t, e => by simp [DL.dats] at e
def dTup (f : Ev → Mn (List Slot)) (ev : Ev) : Mn D := bnd (f ev) fun ss => lft (if ss.length ≤ sizeLine then (dats ss).map .tuple else none)
def dLst (f : Ev → Mn (List Slot)) (ev : Ev) : Mn D := bnd (f ev) fun ss => lft (if ss.length ≤ sizeLine then (dats ss).map .list else none)
theorem e_tup {es : List Expr} {x1 : Nat} {p : Pos} {f : Ev → Mn (List Slot)} (h : SA G k sc N es f) : SE G k sc N (.Tuple es x1 p) (dTup f) := fun X W g tk => by
  refine pe_imp (pe_tup (h X W g tk)) fun σ H Q h => ?_
  obtain ⟨M, r, ev, rs, R, o, rs', e, w⟩ := h
  refine tAr_bnd R e w fun ss rs2 H2 vs R2 s2 d2 e2 w2 => ?_
  obtain ⟨d, e3, rfl, rfl⟩ := lft_some e2
  split at e3
  · rename_i hl
    cases q : dats ss with
    | none => rw [q] at e3; cases e3
    | some ds =>
      rw [q] at e3; cases e3
      refine ⟨by rw [d2.length]; exact hl, fun p hp => ?_⟩
      exact w2 _ (.of_same (same_upd hp)) (row_same R2.row (same_upd hp)) _ (Da.newT R2.ml hp (d2.dats q))
  · cases e3
theorem e_lst {es : List Expr} {p : Pos} {f : Ev → Mn (List Slot)} (h : SA G k sc N es f) : SE G k sc N (.List es p) (dLst f) := fun X W g tk => by
  refine pe_imp (pe_lst (h X W g tk)) fun σ H Q h => ?_
  obtain ⟨M, r, ev, rs, R, o, rs', e, w⟩ := h
  refine tAr_bnd R e w fun ss rs2 H2 vs R2 s2 d2 e2 w2 => ?_
  obtain ⟨d, e3, rfl, rfl⟩ := lft_some e2
  split at e3
  · rename_i hl
    cases q : dats ss with
    | none => rw [q] at e3; cases e3
    | some ds =>
      rw [q] at e3; cases e3
      refine ⟨by rw [d2.length]; exact hl, fun p hp => ?_⟩
      exact w2 _ (.of_same (same_upd hp)) (row_same R2.row (same_upd hp)) _ (Da.newL R2.ml hp (d2.dats q))
  · cases e3
def spF (G : Gm) (n : Nat) (φ : List Slot → Mn D) : Sp := fun vs H Q E => vs.length = n ∧
  ∃ M r ss rs, M (Rw.a r) ∧ Ml M H ∧ RowAt G.K M H r rs ∧ ArgL G.K M r H vs ss ∧ ∃ o rs', φ ss rs = some (o, rs') ∧ Wan G.K G.mg M r H rs' E (fun d H' => ∀ v, Da G.K M H' v d → Q v H') o
def FO (G : Gm) (k : Nat) (x : Str) (n : Nat) (φ : List Slot → Mn D) : Prop :=
  ∃ (f : Addr) (fd : FuncData) (ps : List Str), G.mg x = some (.ref f) ∧ PySem.W.keepIn G.K (.ref f) = true ∧ Binds G.K fd ps [] ∧ ps.length = n ∧ FnOk G.P G.w G.K G.mg G.base (L2.CX G.P G.w) k f fd ps (spF G n φ)
/-- less is said -/
theorem FO.less {j : Nat} {x : Str} {n : Nat} {φ φ' : List Slot → Mn D} (h : FO G j x n φ) (l : ∀ ss rs o, φ' ss rs = some o → ss.length = n → φ ss rs = some o) : FO G j x n φ' := by
  obtain ⟨f, fd, ps, h1, h2, h3, h4, h5⟩ := h
  refine ⟨f, fd, ps, h1, h2, h3, h4, h5.imp fun vs H Q E q => ?_⟩
  obtain ⟨hn, M, r, ss, rs, m, ml, ro, ar, o, rs', e, w⟩ := q
  exact ⟨hn, M, r, ss, rs, m, ml, ro, ar, o, rs', l _ _ _ e (by rw [← ar.length]; exact hn), w⟩
def dCl (n : Nat) (φ : List Slot → Mn D) (f : Ev → Mn (List Slot)) (ev : Ev) : Mn D := bnd (f ev) fun ss => if ss.length = n then φ ss else fun _ => none
theorem e_call {x : Str} {n j : Nat} {φ : List Slot → Mn D} {p pos : Pos} {e : Expr} {es : List Expr} {f : Ev → Mn (List Slot)} (F : FO G j x n φ) (ha : SA G k sc N (e :: es) f) (hj : j ≤ k := by decide) (hg : glB sc x = true := by rfl) (hdb : (x == ("__debug__" : Str)) = false := by decide)
    (he : ∀ env, starEach (e :: es) env = (false, eval e env) :: starEach es env := by intro _; rfl) (hpl : ∀ env, (backTo pos (starEach es env)).any (·.1) = false := by intro _; rfl) : SE G k sc N (.Call (.Name x p) (e :: es) [] pos) (dCl n φ f) := fun X W g tk => by
  obtain ⟨fa, fd, ps, h1, h2, h3, h4, h5⟩ := F
  have F' : FnOk X.prog X.w X.K X.mg X.base (L2.CX X.prog X.w) j fa fd ps (spF G n φ) := by rw [g.hP, g.hw, g.hK, g.hmg, g.hb]; exact h5
  refine pe_imp (pe_callS F' (g.room.mono hj) (gl_of g hg) (by rw [g.hmg]; exact h1) (by rw [g.hK]; exact h2) (by rw [g.hK]; exact h3) (fun σ => passAt tk σ) (ha X W g tk) hdb (he _) (hpl _)) fun σ H Q h => ?_
  obtain ⟨M, r, ev, rs, R, o, rs', e, w⟩ := h
  refine tAr_bnd R e w fun ss rs2 H2 vs R2 s2 d2 e2 w2 => ?_
  split at e2
  · rename_i hl
    exact ⟨by rw [d2.length]; exact hl, M, r, ss, rs2, R2.mr, R2.ml, R2.row, d2, o, rs', e2, w2⟩
  · cases e2
end
end DL
namespace DL
open PySem PySem.Spec PyProof.Rows L2
section
variable {G : Gm} {k : Nat} {sc : Sx} {N : List Str}
theorem atI_da {K : PySem.W.Frag} {M : Addr → Prop} {H : Hp} {vs : List V} {ds : List D} {i : Int} {d : D} (h : DaL K M H vs ds) (e : atI ds i = some d) : ∃ v, atI vs i = some v ∧ Da K M H v d := by
  unfold atI at e ⊢
  rw [h.length]
  cases q : ixN ds.length i with
  | none => rw [q] at e; cases e
  | some j =>
    rw [q] at e
    obtain ⟨v, h1, h2⟩ := h.get (i := j) e
    exact ⟨v, h1, h2⟩
def ixD : D → D → Option D
  | .tuple ds, .int i => atI ds i
  | .list ds, .int i => atI ds i
  | .str z, .int i => if z.length ≤ sizeLine then (atI z.cps.toList i).map fun c => .str ⟨#[c]⟩ else none
  | _, _ => none
theorem e_ix {a b : Expr} {fa fb : Ev → Mn D} {p : Pos} (ha : SE G k sc N a fa) (hb : SE G k sc N b fb) (hs : ∀ o i, subscripted b false o i = operate [o, i] (getItem o i) := by intro _ _; rfl) :
    SE G k sc N (.Subscript a b p) (fun ev => bnd (fa ev) fun x => bnd (fb ev) fun y => lft (ixD x y)) := by
  refine e_bin (rl := fun X => rIx X.K) ha hb (fun X ta tb g h1 h2 => pe_ix ix_seq h1 h2 hs) fun X M H x y dx dy d Q g ml hx hy e hq => ?_
  rw [g.hK]
  cases hx with
  | tup h t =>
    cases hy with
    | int i =>
      obtain ⟨v, h1, h2⟩ := atI_da t e
      exact .inr (.inl ⟨_, _, i, v, rfl, rfl, h, h1, hq v H (.refl H) h2⟩)
    | _ => cases e
  | lst h n t =>
    cases hy with
    | int i =>
      obtain ⟨v, h1, h2⟩ := atI_da t e
      exact .inl ⟨_, _, i, v, rfl, rfl, .of h, h1, hq v H (.refl H) h2⟩
    | _ => cases e
  | str z =>
    cases hy with
    | int i =>
      have e : (if z.length ≤ sizeLine then (atI z.cps.toList i).map (fun c => PyData.str ⟨#[c]⟩) else none) = some d := e
      split at e
      · rename_i hl
        cases q : atI z.cps.toList i with
        | none => rw [q] at e; cases e
        | some c => rw [q] at e; cases e; exact .inr (.inr ⟨z, i, c, rfl, rfl, hl, q, hq _ H (.refl H) (.str _)⟩)
      · cases e
    | _ => cases e
  | _ => cases hy <;> cases e
def cutL (xs : List D) (lo hi : Option Int) : List D := (xs.drop (HT.sIx xs.length 0 lo)).take (HT.sIx xs.length xs.length hi - HT.sIx xs.length 0 lo)
theorem cut_da {K : PySem.W.Frag} {M : Addr → Prop} {H : Hp} {vs : List V} {ds : List D} (h : DaL K M H vs ds) (lo hi : Option Int) : DaL K M H (cutV vs lo hi) (cutL ds lo hi) := by
  unfold cutV cutL
  rw [h.length]
  exact (h.drop _).take _
/-- x[lo:] -/
def slLo : D → D → Option D
  | .tuple ds, .int i => some (.tuple (cutL ds (some i) none))
  | .list ds, .int i => some (.list (cutL ds (some i) none))
  | _, _ => none
def slHi : D → D → Option D
  | .tuple ds, .int i => some (.tuple (cutL ds none (some i)))
  | .list ds, .int i => some (.list (cutL ds none (some i)))
  | _, _ => none
theorem sl_any {X : Cx} : SlR X (fun x lo hi H Q => rSlA X.K x lo hi H Q ∨ rSlL X.K x lo hi H Q) := sl_tupA.or sl_list
theorem cutV_whole {xs : List V} {lo hi : Option Int} (hw : HT.sIx xs.length 0 lo = 0 ∧ HT.sIx xs.length xs.length hi = xs.length) : cutV xs lo hi = xs := by
  unfold cutV
  rw [hw.1, hw.2, List.drop_zero, Nat.sub_zero, List.take_length]
theorem sl_go {K : PySem.W.Frag} {M : Addr → Prop} {H : Hp} {Q : VK} {x : V} {dx : D} {lo hi : Option Int} {d : D} (ml : Ml M H) (hx : Da K M H x dx) (e : (match dx with
    | .tuple ds => some (PyData.tuple (cutL ds lo hi))
    | .list ds => some (PyData.list (cutL ds lo hi))
    | _ => none) = some d) (hq : ∀ v H', Same H H' → Da K M H' v d → Q v H') : rSlA K x lo hi H Q ∨ rSlL K x lo hi H Q := by
  cases hx with
  | tup h t =>
    cases e
    refine .inl ⟨_, _, rfl, h, fun hw => ?_, fun hw p hp => ?_⟩
    · refine hq _ _ (.refl _) (.tup h ?_)
      have q := cut_da t lo hi
      rw [cutV_whole hw] at q
      exact q
    · exact hq _ _ (same_upd hp) (Da.newT ml hp (cut_da t lo hi))
  | lst h n t =>
    cases e
    exact .inr ⟨_, _, rfl, .of h, fun p hp => hq _ _ (same_upd hp) (Da.newL ml hp (cut_da t lo hi))⟩
  | _ => cases e
theorem pe_sl {X : Cx} {a : Expr} {ta : TE} {lo hi : Option Expr} {tl th : TO} {p1 p2 : Pos} (h1 : PE X a ta) (hl : PO X lo tl) (hu : PO X hi th) : PE X (.Subscript a (.Slice lo hi none p1) p2) (tSl (fun x l u H Q => rSlA X.K x l u H Q ∨ rSlL X.K x l u H Q) ta tl th) := pe_slice sl_any h1 hl hu
theorem e_slLo {a b : Expr} {fa fb : Ev → Mn D} {p1 p2 : Pos} (ha : SE G k sc N a fa) (hb : SE G k sc N b fb) : SE G k sc N (.Subscript a (.Slice (some b) none none p1) p2) (fun ev => bnd (fa ev) fun x => bnd (fb ev) fun y => lft (slLo x y)) := by
  refine e_bin (rl := fun X x y H Q => ∃ i, y = .int i ∧ (rSlA X.K x (some i) none H Q ∨ rSlL X.K x (some i) none H Q)) ha hb (fun X ta tb g h1 h2 => pe_imp (pe_sl h1 (po_some h2) po_none) fun σ H Q h => h) fun X M H x y dx dy d Q g ml hx hy e hq => ?_
  rw [g.hK]
  cases hy with
  | int i =>
    refine ⟨i, rfl, sl_go (d := d) ml hx ?_ hq⟩
    cases dx <;> first | exact e | cases e
  | _ => cases dx <;> cases e
theorem e_slHi {a b : Expr} {fa fb : Ev → Mn D} {p1 p2 : Pos} (ha : SE G k sc N a fa) (hb : SE G k sc N b fb) : SE G k sc N (.Subscript a (.Slice none (some b) none p1) p2) (fun ev => bnd (fa ev) fun x => bnd (fb ev) fun y => lft (slHi x y)) := by
  refine e_bin (rl := fun X x y H Q => ∃ i, y = .int i ∧ (rSlA X.K x none (some i) H Q ∨ rSlL X.K x none (some i) H Q)) ha hb (fun X ta tb g h1 h2 => pe_imp (pe_sl h1 po_none (po_some h2)) fun σ H Q h => h) fun X M H x y dx dy d Q g ml hx hy e hq => ?_
  rw [g.hK]
  cases hy with
  | int i =>
    refine ⟨i, rfl, sl_go (d := d) ml hx ?_ hq⟩
    cases dx <;> first | exact e | cases e
  | _ => cases dx <;> cases e
def CmpR (G : Gm) (k : Nat) (sc : Sx) (N : List Str) (op : CmpOp) (f : D → D → Option Bool) : Prop :=
  ∀ X, Gd G k sc N X → ∃ rl : R2, OpR X (compareOp op) rl ∧ ∀ M H x y dx dy b Q, Ml M H → Da G.K M H x dx → Da G.K M H y dy → f dx dy = some b → Q (.bl b) H → rl x y H Q
theorem e_cmp {a b : Expr} {fa fb : Ev → Mn D} {op : CmpOp} {f : D → D → Option Bool} {p : Pos} (c : CmpR G k sc N op f) (ha : SE G k sc N a fa) (hb : SE G k sc N b fb) (hm : behindInMarks op b = false := by first | exact nomark _ (by decide) (by decide) | rfl) :
    SE G k sc N (.Compare a [op] [b] p) (fun ev => bnd (fa ev) fun x => bnd (fb ev) fun y => lft ((f x y).map .bool)) := fun X W g tk => by
  obtain ⟨rl, ho, hr⟩ := c X g
  refine pe_imp (pe_cmpR ho (ha X W g tk) (hb X W g tk) hm) fun σ H Q h => ?_
  obtain ⟨M, r, ev, rs, R, o, rs', e, w⟩ := h
  refine tE_bnd R e w fun x rs1 H1 v R1 s1 d1 e1 w1 => tE_bnd R1 e1 w1 fun y rs2 H2 u R2 s2 d2 e2 w2 => ?_
  obtain ⟨d, e3, rfl, rfl⟩ := lft_some e2
  cases q : f x y with
  | none => rw [q] at e3; cases e3
  | some c => rw [q] at e3; cases e3; exact hr M H2 v u x y c Q R2.ml (d1.kp R1.ml (s2.kp R.mr)) d2 q (w2 H2 (.refl _) R2.row _ (.bl c))
theorem t_cmp {a b : Expr} {fa fb : Ev → Mn D} {op : CmpOp} {f : D → D → Option Bool} {p : Pos} (c : CmpR G k sc N op f) (ha : SE G k sc N a fa) (hb : SE G k sc N b fb) (hm : behindInMarks op b = false := by first | exact nomark _ (by decide) (by decide) | rfl) :
    ST G k sc N (.Compare a [op] [b] p) (fun ev => bnd (fa ev) fun x => bnd (fb ev) fun y => lft (f x y)) := fun X W g tk => by
  obtain ⟨rl, ho, hr⟩ := c X g
  refine pt_imp (pt_cmpR ho (ha X W g tk) (hb X W g tk) hm) fun σ H Q h => ?_
  obtain ⟨M, r, ev, rs, R, o, rs', e, w⟩ := h
  refine tE_bnd R e w fun x rs1 H1 v R1 s1 d1 e1 w1 => tE_bnd R1 e1 w1 fun y rs2 H2 u R2 s2 d2 e2 w2 => ?_
  obtain ⟨c, e3, rfl, rfl⟩ := lft_some e2
  exact hr M H2 v u x y c _ R2.ml (d1.kp R1.ml (s2.kp R.mr)) d2 e3 ⟨c, rfl, w2 H2 (.refl _) R2.row⟩
def eqD (x y : D) : Option Bool := if SeqAt.shaped x = true ∧ SeqAt.shaped y = true then some (PyData.eqv x y) else none
def neD (x y : D) : Option Bool := if SeqAt.shaped x = true ∧ SeqAt.shaped y = true then some (!PyData.eqv x y) else none
theorem c_eq : CmpR G k sc N .Eq eqD := fun X g => ⟨_, op_eqD g.room.units, fun M H x y dx dy b Q ml hx hy e q => by
  unfold eqD at e
  split at e
  · rename_i hs; cases e; rw [g.hK]; exact ⟨dx, dy, hx.dp, hy.dp, hs.1, hs.2, q⟩
  · cases e⟩
theorem c_ne : CmpR G k sc N .NotEq neD := fun X g => ⟨_, op_neD g.room.units, fun M H x y dx dy b Q ml hx hy e q => by
  unfold neD at e
  split at e
  · rename_i hs; cases e; rw [g.hK]; exact ⟨dx, dy, hx.dp, hy.dp, hs.1, hs.2, q⟩
  · cases e⟩
def ltD : D → D → Option Bool
  | .int i, .int j => some (decide (i < j))
  | .str x, .str y => some (decide (x.cps.toList < y.cps.toList))
  | _, _ => none
def leD : D → D → Option Bool
  | .int i, .int j => some (decide (i ≤ j))
  | _, _ => none
def gtD : D → D → Option Bool
  | .int i, .int j => some (decide (j < i))
  | _, _ => none
theorem c_lt : CmpR G k sc N .Lt ltD := fun X g => ⟨_, op_lt.or op_lt_str, fun M H x y dx dy b Q ml hx hy e q => by
  cases hx <;> cases hy <;> first
    | cases e; done
    | (cases e; exact .inl ⟨_, _, rfl, rfl, q⟩)
    | (cases e; exact .inr ⟨_, _, rfl, rfl, q⟩)⟩
theorem c_le : CmpR G k sc N .LtE leD := fun X g => ⟨_, op_le, fun M H x y dx dy b Q ml hx hy e q => by
  cases hx <;> cases hy <;> first
    | cases e; done
    | (cases e; exact ⟨_, _, rfl, rfl, q⟩)⟩
theorem c_gt : CmpR G k sc N .Gt gtD := fun X g => ⟨_, op_gt, fun M H x y dx dy b Q ml hx hy e q => by
  cases hx <;> cases hy <;> first
    | cases e; done
    | (cases e; exact ⟨_, _, rfl, rfl, q⟩)⟩
/-- x is y, y None or a bool -/
def isD : D → D → Option Bool
  | .none, .none => some true
  | _, .none => some false
  | .bool a, .bool b => some (decide (a = b))
  | _, .bool _ => some false
  | _, _ => none
def isnD (x y : D) : Option Bool := (isD x y).map (!·)
def rIsD (K : PySem.W.Frag) : R2 := fun x y H Q => ∃ M dx dy b, Da K M H x dx ∧ Da K M H y dy ∧ isD dx dy = some b ∧ Q (.bl b) H
def rIsnD (K : PySem.W.Frag) : R2 := fun x y H Q => ∃ M dx dy b, Da K M H x dx ∧ Da K M H y dy ∧ isD dx dy = some b ∧ Q (.bl (!b)) H
theorem is_fact {X : Cx} {K : PySem.W.Frag} {M : Addr → Prop} {H : Hp} {x y : V} {dx dy : D} {b : Bool} {v u : Value} (hx : Da K M H x dx) (hy : Da K M H y dy) (e : isD dx dy = some b) (rx : RelV x v) (ry : RelV y u) : plainIs v u = true ∧ (v == u) = b := by
  cases hy with
  | non =>
    cases ry
    cases hx with
    | non => cases rx; cases e; exact ⟨rfl, rfl⟩
    | bl c => cases rx; cases e; exact ⟨rfl, rfl⟩
    | int i => obtain ⟨t, rfl⟩ := rx; cases e; exact ⟨rfl, rfl⟩
    | str z => obtain ⟨t, rfl⟩ := rx; cases e; exact ⟨rfl, rfl⟩
    | lst h n t => cases rx; cases e; exact ⟨rfl, rfl⟩
    | tup h t => cases rx; cases e; exact ⟨rfl, rfl⟩
  | bl c =>
    cases ry
    cases hx with
    | non => cases rx; cases e; exact ⟨rfl, rfl⟩
    | bl c' =>
      cases rx
      have e : some (decide (c' = c)) = some b := e
      cases e
      refine ⟨rfl, ?_⟩
      cases c <;> cases c' <;> rfl
    | int i => obtain ⟨t, rfl⟩ := rx; cases e; exact ⟨rfl, rfl⟩
    | str z => obtain ⟨t, rfl⟩ := rx; cases e; exact ⟨rfl, rfl⟩
    | lst h n t => cases rx; cases e; exact ⟨rfl, rfl⟩
    | tup h t => cases rx; cases e; exact ⟨rfl, rfl⟩
  | _ => cases hx <;> cases e
theorem op_isD {X : Cx} : OpR X (compareOp .Is) (rIsD X.K) := by
  intro pins s σ H x y v u Q I rx ry h
  obtain ⟨M, dx, dy, b, hx, hy, e, q⟩ := h
  obtain ⟨p, e2⟩ := is_fact (X := X) hx hy e rx ry
  exact wpAny_is_plain p ⟨.bl b, H, I, by rw [e2]; rfl, q⟩
theorem op_isnD {X : Cx} : OpR X (compareOp .IsNot) (rIsnD X.K) := by
  intro pins s σ H x y v u Q I rx ry h
  obtain ⟨M, dx, dy, b, hx, hy, e, q⟩ := h
  obtain ⟨p, e2⟩ := is_fact (X := X) hx hy e rx ry
  exact wpAny_isNot_plain p ⟨.bl (!b), H, I, by rw [e2]; rfl, q⟩
theorem c_is : CmpR G k sc N .Is isD := fun X g => ⟨_, op_isD, fun M H x y dx dy b Q ml hx hy e q => by rw [g.hK]; exact ⟨M, dx, dy, b, hx, hy, e, q⟩⟩
theorem c_isn : CmpR G k sc N .IsNot isnD := fun X g => ⟨_, op_isnD, fun M H x y dx dy b Q ml hx hy e q => by
  unfold isnD at e
  cases h : isD dx dy with
  | none => rw [h] at e; cases e
  | some c => rw [h] at e; cases e; rw [g.hK]; exact ⟨M, dx, dy, c, hx, hy, h, q⟩⟩
/-- x in y, y a list or a tuple, of flat things or of data -/
def inD (x y : D) : Option Bool := match y with
  | .list ds => if SeqAt.shaped x = true ∧ SeqAt.shaped (.list ds) = true then some (ds.any fun z => PyData.eqv z x) else none
  | .tuple ds => if flatD x = true ∧ ds.all flatD = true then some (ds.any fun z => PyData.eqv z x) else none
  | _ => none
where flatD : D → Bool
  | .none => true
  | .bool _ => true
  | .int _ => true
  | .str _ => true
  | _ => false
theorem flat_v {K : PySem.W.Frag} {M : Addr → Prop} {H : Hp} {x : V} {d : D} (h : Da K M H x d) (f : inD.flatD d = true) : flatV x = true := by
  cases h <;> first | rfl | cases f
theorem flat_vs {K : PySem.W.Frag} {M : Addr → Prop} {H : Hp} : ∀ {xs : List V} {ds : List D}, DaL K M H xs ds → ds.all inD.flatD = true → xs.all flatV = true
  | _, _, .nil, _ => rfl
  | _, _, .cons h t, f => by
    simp only [List.all_cons, Bool.and_eq_true] at f ⊢
    exact ⟨flat_v h f.1, flat_vs t f.2⟩
theorem eqV_d {K : PySem.W.Frag} {M : Addr → Prop} {H : Hp} {x y : V} {dx dy : D} (hx : Da K M H x dx) (hy : Da K M H y dy) (fx : inD.flatD dx = true) (fy : inD.flatD dy = true) : eqV x y = PyData.eqv dx dy := by
  cases hx <;> cases hy <;> first | (simp only [PyData.eqv, eqV]; done) | rfl | cases fx | cases fy
theorem any_d {K : PySem.W.Frag} {M : Addr → Prop} {H : Hp} {x : V} {dx : D} (hx : Da K M H x dx) (fx : inD.flatD dx = true) : ∀ {ys : List V} {ds : List D}, DaL K M H ys ds → ds.all inD.flatD = true → inV x ys = ds.any fun z => PyData.eqv z dx
  | _, _, .nil, _ => rfl
  | _, _, .cons h t, f => by
    simp only [List.all_cons, Bool.and_eq_true] at f
    have ih := any_d hx fx t f.2
    unfold inV at ih ⊢
    rw [List.any_cons, List.any_cons, ih, eqV_d h hx f.1 fx]
theorem in_go {X : Cx} {M : Addr → Prop} {H : Hp} {x y : V} {dx dy : D} {b : Bool} (hx : Da X.K M H x dx) (hy : Da X.K M H y dy) (e : inD dx dy = some b) :
    (∃ ds, dy = .list ds ∧ SeqAt.shaped dx = true ∧ SeqAt.shaped (.list ds) = true ∧ b = ds.any fun z => PyData.eqv z dx) ∨ (∃ p xs, y = .ref p ∧ (SqL X.K H p xs ∨ SqT X.K H p xs) ∧ flatV x = true ∧ xs.all flatV = true ∧ inV x xs = b) := by
  unfold inD at e
  split at e
  · rename_i ds
    split at e
    · rename_i hs; cases e; exact .inl ⟨ds, rfl, hs.1, hs.2, rfl⟩
    · cases e
  · rename_i ds
    split at e
    · rename_i hs
      cases e
      cases hy with
      | tup h t => exact .inr ⟨_, _, rfl, .inr h, flat_v hx hs.1, flat_vs t hs.2, any_d hx hs.1 t hs.2⟩
    · cases e
  · cases e
theorem units65 {X : Cx} (g : Gd G k sc N X) (hk : 1 ≤ k) : X.A.units + 65 < cLine := by
  have := (g.room.mono hk).un
  omega
theorem c_in (hk : 1 ≤ k := by decide) : CmpR G k sc N .In inD := fun X g => ⟨_, (op_inD (units65 g hk)).or op_in_seq, fun M H x y dx dy b Q ml hx hy e q => by
  rw [← g.hK] at hx hy
  rcases in_go hx hy e with ⟨ds, rfl, h1, h2, rfl⟩ | ⟨p, xs, rfl, h1, h2, h3, rfl⟩
  · exact .inl ⟨dx, ds, hx.dp, hy.dp, h1, h2, q⟩
  · exact .inr ⟨p, xs, rfl, h1, h2, h3, q⟩⟩
def ninD (x y : D) : Option Bool := (inD x y).map (!·)
end
end DL
namespace DL
open PySem PySem.Spec PyProof.Rows L2
section
variable {G : Gm} {k : Nat} {sc : Sx} {N : List Str}
def truD : D → Option Bool
  | .none => some false
  | .bool b => some b
  | .int i => some (i != 0)
  | .str y => if y.length ≤ sizeLine then some ((y.length : Int) != 0) else none
  | .list ds => some (!ds.isEmpty)
  | .tuple ds => some (!ds.isEmpty)
  | .dict _ => none
theorem isEmpty_da {K : PySem.W.Frag} {M : Addr → Prop} {H : Hp} {vs : List V} {ds : List D} (h : DaL K M H vs ds) : (!vs.isEmpty) = !ds.isEmpty := by cases h <;> rfl
theorem tru_da {K : PySem.W.Frag} {M : Addr → Prop} {H : Hp} {x : V} {d : D} {b : Bool} (h : Da K M H x d) (e : truD d = some b) : TruV K x H b := by
  cases h with
  | non => cases e; rfl
  | bl c => cases e; rfl
  | int i => cases e; rfl
  | str y =>
    have e : (if y.length ≤ sizeLine then some ((y.length : Int) != 0) else none) = some b := e
    split at e
    · rename_i hl; cases e; exact ⟨hl, rfl⟩
    · cases e
  | lst h n t => cases e; exact .inl ⟨_, .of h, (isEmpty_da t).symm⟩
  | tup h t => cases e; exact .inr (.inl ⟨_, h, (isEmpty_da t).symm⟩)
def dTru (f : Ev → Mn D) (ev : Ev) : Mn Bool := bnd (f ev) fun x => lft (truD x)
theorem t_val {e : Expr} {f : Ev → Mn D} (h : SE G k sc N e f) (he : ∀ env whole, isTrue e env whole = (do let v ← whole; standAt e.pos; holding [v] (truthy v)) := by intro _ _; rfl) : ST G k sc N e (dTru f) := fun X W g tk => by
  refine pt_imp (pt_truth (h X W g tk) (he _)) fun σ H Q h => ?_
  obtain ⟨M, r, ev, rs, R, o, rs', e, w⟩ := h
  refine tE_bnd R e w fun x rs1 H1 v R1 s1 d1 e1 w1 => ?_
  obtain ⟨c, e3, rfl, rfl⟩ := lft_some e1
  rw [g.hK]
  exact ⟨c, tru_da d1 e3, w1 H1 (.refl _) R1.row⟩
def SW (G : Gm) (k : Nat) (sc : Sx) (N : List Str) (e : Expr) (f : Ev → Mn Bool) : Prop := ∀ (X : Cx) (W : WX), Gd G k sc N X → Takes X W → PW X e (tT G.K G.mg W f)
theorem pw_imp {X : Cx} {e : Expr} {t t' : TT} (h : PW X e t) (i : ∀ σ H Q, t' σ H Q → t σ H Q) : PW X e t' := ⟨fun wh pins s σ H Q I q => h.run wh pins s σ H Q I (i σ H Q q)⟩
theorem w_and1 {a : Expr} {fa : Ev → Mn Bool} {p : Pos} (h : ST G k sc N a fa) : SW G k sc N (.BoolOp .And [a] p) fa := fun X W g tk => pw_and1 (h X W g tk)
theorem w_or1 {a : Expr} {fa : Ev → Mn Bool} {p : Pos} (h : ST G k sc N a fa) : SW G k sc N (.BoolOp .Or [a] p) fa := fun X W g tk => pw_or1 (h X W g tk)
def dAnd (fa fb : Ev → Mn Bool) (ev : Ev) : Mn Bool := bnd (fa ev) fun c => if c = true then fb ev else pur false
def dOr (fa fb : Ev → Mn Bool) (ev : Ev) : Mn Bool := bnd (fa ev) fun c => if c = true then pur true else fb ev
theorem w_and {a b : Expr} {rest : List Expr} {fa fb : Ev → Mn Bool} {p : Pos} (ha : ST G k sc N a fa) (hb : SW G k sc N (.BoolOp .And (b :: rest) p) fb) : SW G k sc N (.BoolOp .And (a :: b :: rest) p) (dAnd fa fb) := fun X W g tk => by
  refine pw_imp (pw_and (ha X W g tk) (hb X W g tk)) fun σ H Q h => ?_
  obtain ⟨M, r, ev, rs, R, o, rs', e, w⟩ := h
  refine tT_bnd R e w fun x rs1 H1 R1 s1 e1 w1 => ?_
  cases x with
  | true => rw [if_pos rfl] at e1; rw [if_pos rfl]; exact ⟨M, r, ev, rs1, R1, o, rs', e1, w1⟩
  | false => rw [if_neg (by decide)] at e1; rw [if_neg (by decide)]; cases e1; exact w1 H1 (.refl _) R1.row
theorem w_or {a b : Expr} {rest : List Expr} {fa fb : Ev → Mn Bool} {p : Pos} (ha : ST G k sc N a fa) (hb : SW G k sc N (.BoolOp .Or (b :: rest) p) fb) : SW G k sc N (.BoolOp .Or (a :: b :: rest) p) (dOr fa fb) := fun X W g tk => by
  refine pw_imp (pw_or (ha X W g tk) (hb X W g tk)) fun σ H Q h => ?_
  obtain ⟨M, r, ev, rs, R, o, rs', e, w⟩ := h
  refine tT_bnd R e w fun x rs1 H1 R1 s1 e1 w1 => ?_
  cases x with
  | true => rw [if_pos rfl] at e1; rw [if_pos rfl]; cases e1; exact w1 H1 (.refl _) R1.row
  | false => rw [if_neg (by decide)] at e1; rw [if_neg (by decide)]; exact ⟨M, r, ev, rs1, R1, o, rs', e1, w1⟩
theorem t_w {e : Expr} {f : Ev → Mn Bool} (h : SW G k sc N e f) : ST G k sc N e f := fun X W g tk => (h X W g tk).pt
def dNot (f : Ev → Mn Bool) (ev : Ev) : Mn Bool := bnd (f ev) fun c => pur (!c)
theorem t_not {a : Expr} {f : Ev → Mn Bool} {p : Pos} (h : ST G k sc N a f) : ST G k sc N (.UnaryOp .Not a p) (dNot f) := fun X W g tk => by
  refine pt_imp (pt_not (h X W g tk)) fun σ H Q h => ?_
  obtain ⟨M, r, ev, rs, R, o, rs', e, w⟩ := h
  refine tT_bnd R e w fun x rs1 H1 R1 s1 e1 w1 => ?_
  cases e1
  exact w1 H1 (.refl _) R1.row
/-- as values -/
def dOrV (fa fb : Ev → Mn D) (ev : Ev) : Mn D := bnd (fa ev) fun x => bnd (lft (truD x)) fun c => if c = true then pur x else fb ev
def dAndV (fa fb : Ev → Mn D) (ev : Ev) : Mn D := bnd (fa ev) fun x => bnd (lft (truD x)) fun c => if c = true then fb ev else pur x
theorem bnd_lft {α β : Type} {v : Option α} {f : α → Mn β} {rs rs' : RS} {o : Out β} (h : bnd (lft v) f rs = some (o, rs')) : ∃ a, v = some a ∧ f a rs = some (o, rs') := by
  cases v with
  | none => simp [bnd, lft] at h
  | some a => exact ⟨a, rfl, h⟩
theorem e_or1 {a : Expr} {op : BoolOp} {fa : Ev → Mn D} {p : Pos} (h : SE G k sc N a fa) : SE G k sc N (.BoolOp op [a] p) fa := fun X W g tk => pe_one (h X W g tk)
theorem e_and {a b : Expr} {rest : List Expr} {fa fb : Ev → Mn D} {p : Pos} (ha : SE G k sc N a fa) (hb : SE G k sc N (.BoolOp .And (b :: rest) p) fb) : SE G k sc N (.BoolOp .And (a :: b :: rest) p) (dAndV fa fb) := fun X W g tk => by
  refine pe_imp (pe_andT (ha X W g tk) (hb X W g tk)) fun σ H Q h => ?_
  obtain ⟨M, r, ev, rs, R, o, rs', e, w⟩ := h
  refine tE_bnd R e w fun x rs1 H1 v R1 s1 d1 e1 w1 => ?_
  obtain ⟨c, e2, e3⟩ := bnd_lft e1
  rw [g.hK]
  refine ⟨c, tru_da d1 e2, ?_⟩
  cases c with
  | true => rw [if_pos rfl] at e3; rw [if_pos rfl]; exact ⟨M, r, ev, rs1, R1, o, rs', e3, w1⟩
  | false => rw [if_neg (by decide)] at e3; rw [if_neg (by decide)]; cases e3; exact w1 H1 (.refl _) R1.row v d1
def dNotV (f : Ev → Mn D) (ev : Ev) : Mn D := bnd (f ev) fun x => lft ((truD x).map fun c => .bool (!c))
theorem e_not {a : Expr} {fa : Ev → Mn D} {p : Pos} (ha : SE G k sc N a fa) : SE G k sc N (.UnaryOp .Not a p) (dNotV fa) :=
  e_one (rl := fun X x H Q => ∃ c, TruV X.K x H c ∧ Q (.bl (!c)) H) ha (fun X ta g h => pe_notT h) fun X M H x dx d Q g ml hx e hq => by
    rw [g.hK]
    cases q : truD dx with
    | none => rw [q] at e; cases e
    | some c => rw [q] at e; cases e; exact ⟨c, tru_da hx q, hq _ H (.refl _) (.bl _)⟩
def dIf (t : Ev → Mn Bool) (fa fb : Ev → Mn D) (ev : Ev) : Mn D := bnd (t ev) fun c => if c = true then fa ev else fb ev
theorem e_if {c a b : Expr} {t : Ev → Mn Bool} {fa fb : Ev → Mn D} {p : Pos} (hc : ST G k sc N c t) (ha : SE G k sc N a fa) (hb : SE G k sc N b fb) : SE G k sc N (.IfExp c a b p) (dIf t fa fb) := fun X W g tk => by
  refine pe_imp (pe_ifExp (hc X W g tk) (ha X W g tk) (hb X W g tk)) fun σ H Q h => ?_
  obtain ⟨M, r, ev, rs, R, o, rs', e, w⟩ := h
  refine tT_bnd R e w fun x rs1 H1 R1 s1 e1 w1 => ?_
  cases x with
  | true => rw [if_pos rfl] at e1; rw [if_pos rfl]; exact ⟨M, r, ev, rs1, R1, o, rs', e1, w1⟩
  | false => rw [if_neg (by decide)] at e1; rw [if_neg (by decide)]; exact ⟨M, r, ev, rs1, R1, o, rs', e1, w1⟩
/-- a < b < c -/
def dChain (f f' : D → D → Option Bool) (fa fb fc : Ev → Mn D) (ev : Ev) : Mn D := bnd (fa ev) fun x => bnd (fb ev) fun y => bnd (lft (f x y)) fun c => if c = true then bnd (fc ev) fun z => lft ((f' y z).map .bool) else pur (.bool false)
def dChainT (f f' : D → D → Option Bool) (fa fb fc : Ev → Mn D) (ev : Ev) : Mn Bool := bnd (fa ev) fun x => bnd (fb ev) fun y => bnd (lft (f x y)) fun c => if c = true then bnd (fc ev) fun z => lft (f' y z) else pur false
theorem e_chain {a b c : Expr} {fa fb fc : Ev → Mn D} {op op' : CmpOp} {f f' : D → D → Option Bool} {p : Pos} (h1 : CmpR G k sc N op f) (h2 : CmpR G k sc N op' f') (ha : SE G k sc N a fa) (hb : SE G k sc N b fb) (hc : SE G k sc N c fc)
    (hm : lastMarks [op, op'] [b, c] = false := by with_unfolding_all rfl) : SE G k sc N (.Compare a [op, op'] [b, c] p) (dChain f f' fa fb fc) := fun X W g tk => by
  obtain ⟨rl, ho, hr⟩ := h1 X g
  obtain ⟨rl', ho', hr'⟩ := h2 X g
  refine pe_imp (pe_chain ho ho' (ha X W g tk) (hb X W g tk) (hc X W g tk) hm) fun σ H Q h => ?_
  obtain ⟨M, r, ev, rs, R, o, rs', e, w⟩ := h
  refine tE_bnd R e w fun x rs1 H1 v R1 s1 d1 e1 w1 => tE_bnd R1 e1 w1 fun y rs2 H2 u R2 s2 d2 e2 w2 => ?_
  obtain ⟨c, e3, e4⟩ := bnd_lft e2
  refine hr M H2 v u x y c _ R2.ml (d1.kp R1.ml (s2.kp R.mr)) d2 e3 ⟨c, rfl, ?_⟩
  cases c with
  | false => rw [if_neg (by decide)] at e4; rw [if_neg (by decide)]; cases e4; exact w2 H2 (.refl _) R2.row _ (.bl false)
  | true =>
    rw [if_pos rfl] at e4; rw [if_pos rfl]
    refine tE_bnd R2 e4 w2 fun z rs3 H3 u3 R3 s3 d3 e5 w3 => ?_
    obtain ⟨d, e6, rfl, rfl⟩ := lft_some e5
    cases q : f' y z with
    | none => rw [q] at e6; cases e6
    | some c => rw [q] at e6; cases e6; exact hr' M H3 u u3 y z c _ R3.ml (d2.kp R2.ml (s3.kp R.mr)) d3 q (w3 H3 (.refl _) R3.row _ (.bl c))
def addD : D → D → Option D
  | .int i, .int j => some (.int (i + j))
  | .str x, .str y => if x.length + y.length ≤ sizeLine then some (.str (x ++ y)) else none
  | .tuple xs, .tuple ys => if xs.length + ys.length ≤ sizeLine then some (.tuple (xs ++ ys)) else none
  | .list xs, .list ys => if xs.length + ys.length ≤ sizeLine then some (.list (xs ++ ys)) else none
  | _, _ => none
def subD : D → D → Option D
  | .int i, .int j => some (.int (i - j))
  | _, _ => none
theorem op_addA {X : Cx} : OpR X (binaryOp .Add) (fun x y H Q => rI0 (fun i j => .int (i + j)) x y H Q ∨ (∃ i j, x = .str i ∧ y = .str j ∧ i.length + j.length ≤ sizeLine ∧ Q (.str (i ++ j)) H) ∨ rCatA X.K x y H Q ∨ rCat x y H Q) :=
  op_add.or (op_add_str.or (op_catA.or op_cat))
theorem e_add {a b : Expr} {fa fb : Ev → Mn D} {p : Pos} (ha : SE G k sc N a fa) (hb : SE G k sc N b fb) : SE G k sc N (.BinOp a .Add b p) (fun ev => bnd (fa ev) fun x => bnd (fb ev) fun y => lft (addD x y)) := by
  refine e_bin ha hb (fun X ta tb g h1 h2 => pe_op op_addA h1 h2) fun X M H x y dx dy d Q g ml hx hy e hq => ?_
  cases hx with
  | int i =>
    cases hy with
    | int j => cases e; exact .inl ⟨i, j, rfl, rfl, hq _ H (.refl _) (.int _)⟩
    | _ => cases e
  | str z =>
    cases hy with
    | str z' =>
      have e : (if z.length + z'.length ≤ sizeLine then some (PyData.str (z ++ z')) else none) = some d := e
      split at e
      · rename_i hl; cases e; exact .inr (.inl ⟨z, z', rfl, rfl, hl, hq _ H (.refl _) (.str _)⟩)
      · cases e
    | _ => cases e
  | tup h t =>
    cases hy with
    | tup h' t' =>
      rename_i a xs ds a' xs' ds'
      have e : (if ds.length + ds'.length ≤ sizeLine then some (PyData.tuple (ds ++ ds')) else none) = some d := e
      split at e
      · rename_i hl
        cases e
        refine .inr (.inr (.inl ⟨_, _, _, _, rfl, rfl, by rw [g.hK]; exact h, by rw [g.hK]; exact h', by rw [t.length, t'.length]; exact hl, ?_, ?_, ?_⟩))
        · intro hx
          subst hx
          cases t
          exact hq _ H (.refl _) (.tup h' t')
        · intro hx hy
          subst hy
          cases t'
          exact hq _ H (.refl _) (.tup h (by rw [List.append_nil]; exact t))
        · intro _ _ p hp
          exact hq _ _ (same_upd hp) (Da.newT ml hp (t.append t'))
      · cases e
    | _ => cases e
  | lst h n t =>
    cases hy with
    | lst h' n' t' =>
      rename_i a xs ds a' xs' ds'
      have e : (if ds.length + ds'.length ≤ sizeLine then some (PyData.list (ds ++ ds')) else none) = some d := e
      split at e
      · rename_i hl
        cases e
        exact .inr (.inr (.inr ⟨_, _, _, _, rfl, rfl, h, h', by rw [t.length, t'.length]; exact hl, fun p hp => hq _ _ (same_upd hp) (Da.newL ml hp (t.append t'))⟩))
      · cases e
    | _ => cases e
  | _ => cases hy <;> cases e
theorem e_sub {a b : Expr} {fa fb : Ev → Mn D} {p : Pos} (ha : SE G k sc N a fa) (hb : SE G k sc N b fb) : SE G k sc N (.BinOp a .Sub b p) (fun ev => bnd (fa ev) fun x => bnd (fb ev) fun y => lft (subD x y)) := by
  refine e_bin ha hb (fun X ta tb g h1 h2 => pe_op op_sub h1 h2) fun X M H x y dx dy d Q g ml hx hy e hq => ?_
  cases hx <;> cases hy <;> first
    | cases e; done
    | (cases e; exact ⟨_, _, rfl, rfl, hq _ H (.refl _) (.int _)⟩)
end
end DL
namespace DL
open PySem PySem.Spec PyProof.Rows L2
section
variable {G : Gm} {k : Nat} {sc : Sx} {N : List Str}
abbrev Mg0 (G : Gm) (x : Str) : Prop := G.mg x = none
theorem e_arg {e : Expr} {es : List Expr} {f : Ev → Mn (List Slot)} {op : List D → Option D} {rl : Cx → List V → Hp → VK → Prop} (ha : SA G k sc N es f) (mk : ∀ X t, Gd G k sc N X → PA X es t → PE X e (tCB (rl X) t))
    (hr : ∀ X M H vs ds d Q, Gd G k sc N X → Ml M H → DaL G.K M H vs ds → op ds = some d → (∀ v H', Same H H' → Da G.K M H' v d → Q v H') → rl X vs H Q) :
    SE G k sc N e (fun ev => bnd (f ev) fun ss => lft ((dats ss).bind op)) := fun X W g tk => by
  refine pe_imp (mk X _ g (ha X W g tk)) fun σ H Q h => ?_
  obtain ⟨M, r, ev, rs, R, o, rs', e, w⟩ := h
  refine tAr_bnd R e w fun ss rs2 H2 vs R2 s2 d2 e2 w2 => ?_
  obtain ⟨d, e3, rfl, rfl⟩ := lft_some e2
  cases q : dats ss with
  | none => rw [q] at e3; cases e3
  | some ds => rw [q] at e3; exact hr X M H2 vs ds d Q g R2.ml (d2.dats q) e3 fun z H3 s3 d3 => w2 H3 (.of_same s3) (row_same R2.row s3) z d3
def dFn (op : List D → Option D) (f : Ev → Mn (List Slot)) (ev : Ev) : Mn D := bnd (f ev) fun ss => lft ((dats ss).bind op)
theorem e_blt {id : String} {x : Str} {e : Expr} {es : List Expr} {f : Ev → Mn (List Slot)} {op : List D → Option D} {rl : Cx → List V → Hp → VK → Prop} {p pos : Pos} (ha : SA G k sc N (e :: es) f) (cr : ∀ X, Gd G k sc N X → CallR X (.builtin id) (rl X))
    (hr : ∀ X M H vs ds d Q, Gd G k sc N X → Ml M H → DaL G.K M H vs ds → op ds = some d → (∀ v H', Same H H' → Da G.K M H' v d → Q v H') → rl X vs H Q)
    (hv : bootBuiltins x = some (.builtin id)) (hm : Mg0 G x) (hg : glB sc x = true) (hn : x ≠ "__name__") (hdb : (x == ("__debug__" : Str)) = false)
    (he : ∀ env, starEach (e :: es) env = (false, eval e env) :: starEach es env) (hpl : ∀ env, (backTo pos (starEach es env)).any (·.1) = false) : SE G k sc N (.Call (.Name x p) (e :: es) [] pos) (dFn op f) :=
  e_arg ha (fun X t g h => pe_callB (cr X g) (gl_of g hg) (by rw [g.hmg]; exact hm) hv h hn hdb (he _) (hpl _)) hr
theorem e_bty {T : String} {x : Str} {e : Expr} {es : List Expr} {f : Ev → Mn (List Slot)} {op : List D → Option D} {rl : Cx → List V → Hp → VK → Prop} {p pos : Pos} (ha : SA G k sc N (e :: es) f) (cr : ∀ X, Gd G k sc N X → CallR X (.type T) (rl X))
    (hr : ∀ X M H vs ds d Q, Gd G k sc N X → Ml M H → DaL G.K M H vs ds → op ds = some d → (∀ v H', Same H H' → Da G.K M H' v d → Q v H') → rl X vs H Q)
    (hv : bootBuiltins x = some (.type T)) (hm : Mg0 G x) (hg : glB sc x = true) (hn : x ≠ "__name__") (hdb : (x == ("__debug__" : Str)) = false)
    (he : ∀ env, starEach (e :: es) env = (false, eval e env) :: starEach es env) (hpl : ∀ env, (backTo pos (starEach es env)).any (·.1) = false) : SE G k sc N (.Call (.Name x p) (e :: es) [] pos) (dFn op f) :=
  e_arg ha (fun X t g h => pe_callTy (cr X g) (gl_of g hg) (by rw [g.hmg]; exact hm) hv h hn hdb (he _) (hpl _)) hr
def lenD : List D → Option D
  | [.tuple ds] => some (.int ds.length)
  | [.list ds] => some (.int ds.length)
  | [.str z] => if z.length ≤ sizeLine then some (.int z.length) else none
  | _ => none
theorem one_da {K : PySem.W.Frag} {M : Addr → Prop} {H : Hp} {vs : List V} {d : D} (h : DaL K M H vs [d]) : ∃ v, vs = [v] ∧ Da K M H v d := by
  cases h with
  | cons a t => cases t; exact ⟨_, rfl, a⟩
theorem two_da {K : PySem.W.Frag} {M : Addr → Prop} {H : Hp} {vs : List V} {d d' : D} (h : DaL K M H vs [d, d']) : ∃ v v', vs = [v, v'] ∧ Da K M H v d ∧ Da K M H v' d' := by
  cases h with
  | cons a t =>
    obtain ⟨v, e, q⟩ := one_da t
    subst e
    exact ⟨_, _, rfl, a, q⟩
theorem e_len {e : Expr} {f : Ev → Mn (List Slot)} {p pos : Pos} (ha : SA G k sc N [e] f) (hm : Mg0 G "len") (hg : glB sc "len" = true := by rfl) (he : ∀ env, starEach [e] env = (false, eval e env) :: starEach [] env := by intro _; rfl) :
    SE G k sc N (.Call (.Name "len" p) [e] [] pos) (dFn lenD f) :=
  e_blt ha (fun X g => call_len_seq.or call_len_str) (fun X M H vs ds d Q g ml h e hq => by
    unfold lenD at e
    split at e
    · obtain ⟨v, rfl, h1⟩ := one_da h
      cases e
      cases h1 with
      | tup h2 t => exact .inl ⟨_, _, rfl, .inr (by rw [g.hK]; exact h2), by rw [t.length]; exact hq _ H (.refl _) (.int _)⟩
    · obtain ⟨v, rfl, h1⟩ := one_da h
      cases e
      cases h1 with
      | lst h2 n t => exact .inl ⟨_, _, rfl, .inl (.of h2), by rw [t.length]; exact hq _ H (.refl _) (.int _)⟩
    · obtain ⟨v, rfl, h1⟩ := one_da h
      split at e
      · rename_i hl
        cases e
        cases h1 with
        | str z => exact .inr ⟨_, rfl, hl, hq _ H (.refl _) (.int _)⟩
      · cases e
    · cases e) PySem.boot_len hm hg (by decide) (by decide) he (fun _ => rfl)
def intD : List D → Option D
  | [.int i] => some (.int i)
  | [.bool b] => some (.int (if b then 1 else 0))
  | _ => none
theorem e_intc {e : Expr} {f : Ev → Mn (List Slot)} {p pos : Pos} (ha : SA G k sc N [e] f) (hm : Mg0 G "int") (hg : glB sc "int" = true := by rfl) (he : ∀ env, starEach [e] env = (false, eval e env) :: starEach [] env := by intro _; rfl) :
    SE G k sc N (.Call (.Name "int" p) [e] [] pos) (dFn intD f) :=
  e_bty ha (fun X g => call_int1) (fun X M H vs ds d Q g ml h e hq => by
    unfold intD at e
    split at e
    · obtain ⟨v, rfl, h1⟩ := one_da h
      cases e
      cases h1 with
      | int i => exact .inl ⟨_, rfl, hq _ H (.refl _) (.int _)⟩
    · obtain ⟨v, rfl, h1⟩ := one_da h
      cases e
      cases h1 with
      | bl b => exact .inr ⟨_, rfl, hq _ H (.refl _) (.int _)⟩
    · cases e) PyProof.Rows.boot_int hm hg (by decide) (by decide) he (fun _ => rfl)
def tupleD : List D → Option D
  | [.tuple ds] => some (.tuple ds)
  | [.list ds] => some (.tuple ds)
  | _ => none
/-- truth values alone -/
def bools : List D → Option (List Bool)
  | [] => some []
  | .bool b :: ds => (bools ds).map (b :: ·)
  | _ :: _ => none
theorem bools_da {K : PySem.W.Frag} {M : Addr → Prop} {H : Hp} : ∀ {vs : List V} {ds : List D} {bs : List Bool}, DaL K M H vs ds → bools ds = some bs → vs = bs.map V.bl
  | _, _, _, .nil, e => by cases e; rfl
  | _, _, _, .cons h t, e => by
    cases h with
    | bl b =>
      unfold bools at e
      cases q : bools _ with
      | none => rw [q] at e; cases e
      | some bs => rw [q] at e; cases e; rw [bools_da t q]; rfl
    | _ => cases e
def allD : List D → Option D
  | [.list ds] => (bools ds).map fun bs => .bool (bs.all id)
  | _ => none
theorem e_all {e : Expr} {f : Ev → Mn (List Slot)} {p pos : Pos} (ha : SA G k sc N [e] f) (hm : Mg0 G "all") (hg : glB sc "all" = true := by rfl) (he : ∀ env, starEach [e] env = (false, eval e env) :: starEach [] env := by intro _; rfl) :
    SE G k sc N (.Call (.Name "all" p) [e] [] pos) (dFn allD f) :=
  e_blt ha (fun X g => cr_all g.calm) (fun X M H vs ds d Q g ml h e hq => by
    unfold allD at e
    split at e
    · rename_i ds'
      obtain ⟨v, rfl, h1⟩ := one_da h
      cases h1 with
      | lst h2 n t =>
        cases q : bools ds' with
        | none => rw [q] at e; cases e
        | some bs =>
          rw [q] at e; cases e
          have e2 := bools_da t q
          subst e2
          exact ⟨_, bs, rfl, .of h2, hq _ H (.refl _) (.bl _)⟩
    · cases e) PyProof.Rows.boot_all hm hg (by decide) (by decide) he (fun _ => rfl)
inductive Ty where
  | int | bool | str | tuple | list
def Ty.nm : Ty → String
  | .int => "int"
  | .bool => "bool"
  | .str => "str"
  | .tuple => "tuple"
  | .list => "list"
def tyS : D → String
  | .none => "NoneType"
  | .bool _ => "bool"
  | .int _ => "int"
  | .str _ => "str"
  | .list _ => "list"
  | .tuple _ => "tuple"
  | .dict _ => "dict"
def isA : D → Ty → Bool
  | .bool _, .bool => true
  | .bool _, .int => true
  | .int _, .int => true
  | .str _, .str => true
  | .list _, .list => true
  | .tuple _, .tuple => true
  | _, _ => false
theorem tyx_da {K : PySem.W.Frag} {M : Addr → Prop} {H : Hp} {x : V} {d : D} (h : Da K M H x d) : TyX K H x (.type (tyS d)) := by
  cases h with
  | non => exact .base .non
  | bl b => exact .base (.bl b)
  | int i => exact .base (.int i)
  | str z => exact .base (.str z)
  | lst h n t => exact .base (.lst h)
  | tup h t =>
    rcases h with (h | ⟨o, h⟩) | ⟨o, its, n, h, c, _⟩
    · exact .base (.tup h)
    · exact .fTuple h
    · exact .kTuple h c
theorem kit_isA (d : D) (t : Ty) (h : ∀ kvs, d ≠ .dict kvs) : kitB (tyS d) t.nm = some (isA d t) := by
  cases d with
  | dict kvs => exact absurd rfl (h kvs)
  | none => cases t <;> decide +kernel
  | bool b =>
    have e : isA (.bool b) t = isA (.bool true) t := by cases t <;> rfl
    rw [e]; show kitB "bool" _ = _
    cases t <;> decide +kernel
  | int i =>
    have e : isA (.int i) t = isA (.int 0) t := by cases t <;> rfl
    rw [e]; show kitB "int" _ = _
    cases t <;> decide +kernel
  | str z =>
    have e : isA (.str z) t = isA (.str "") t := by cases t <;> rfl
    rw [e]; show kitB "str" _ = _
    cases t <;> decide +kernel
  | list ds =>
    have e : isA (.list ds) t = isA (.list []) t := by cases t <;> rfl
    rw [e]; show kitB "list" _ = _
    cases t <;> decide +kernel
  | tuple ds =>
    have e : isA (.tuple ds) t = isA (.tuple []) t := by cases t <;> rfl
    rw [e]; show kitB "tuple" _ = _
    cases t <;> decide +kernel
theorem Da.nodict {K : PySem.W.Frag} {M : Addr → Prop} {H : Hp} {x : V} {d : D} (h : Da K M H x d) : ∀ kvs, d ≠ .dict kvs := by
  intro kvs e
  subst e
  cases h
/-- a built-in class's name -/
theorem pe_tyn {X : Cx} {x : Str} {T : String} {p : Pos} (g : Gd G k sc N X) (hg : glB sc x = true) (hm : Mg0 G x) (hv : bootBuiltins x = some (.type T)) (hn : x ≠ "__name__") (hd : (x == ("__debug__" : Str)) = false) : PE X (.Name x p) (tC (.ty T)) :=
  pe_bltn (v := .ty T) (gl_of g hg) (by rw [g.hmg]; exact hm) hv rfl hn hd
def dIsi (ts : List Ty) (f : Ev → Mn D) (ev : Ev) : Mn D := bnd (f ev) fun d => pur (.bool (ts.any (isA d)))
theorem e_isi1 {e : Expr} {f : Ev → Mn D} {x : Str} {p1 p pos : Pos} (t : Ty) (ha : SE G k sc N e f) (hv : bootBuiltins x = some (.type t.nm)) (hm : Mg0 G "isinstance") (hmx : Mg0 G x) (hg : glB sc "isinstance" = true := by rfl) (hgx : glB sc x = true := by rfl) (hn : x ≠ "__name__" := by decide) (hd : (x == ("__debug__" : Str)) = false := by decide)
    (he : ∀ env, starEach [e, .Name x p1] env = (false, eval e env) :: starEach [.Name x p1] env := by intro _; rfl) :
    SE G k sc N (.Call (.Name "isinstance" p) [e, .Name x p1] [] pos) (dIsi [t] f) := fun X W g tk => by
  refine pe_imp (pe_callB call_isi (gl_of g hg) (by rw [g.hmg]; exact hm) PyProof.Rows.boot_isinstance (pa_cons (ha X W g tk) (pa_cons (pe_tyn g hgx hmx hv hn hd) pa_nil) (he _)) (by decide) (by decide) (he _) rfl) fun σ H Q h => ?_
  obtain ⟨M, r, ev, rs, R, o, rs', e, w⟩ := h
  refine tE_bnd R e w fun d rs1 H1 v R1 s1 d1 e1 w1 => ?_
  cases e1
  rw [g.hK]
  refine ⟨v, .ty t.nm, .type (tyS d), .type t.nm, isA d t, rfl, .ty _, tyx_da d1, kit_ty (kit_isA d t d1.nodict), ?_⟩
  have q := w1 H1 (.refl _) R1.row _ (.bl ([t].any (isA d)))
  simpa using q
theorem e_isi2 {e : Expr} {f : Ev → Mn D} {x y : Str} {i : Nat} {p1 p2 p3 p pos : Pos} (t u : Ty) (ha : SE G k sc N e f) (hv : bootBuiltins x = some (.type t.nm)) (hu : bootBuiltins y = some (.type u.nm)) (hm : Mg0 G "isinstance") (hmx : Mg0 G x) (hmy : Mg0 G y) (hg : glB sc "isinstance" = true := by rfl) (hgx : glB sc x = true := by rfl) (hgy : glB sc y = true := by rfl)
    (hn : x ≠ "__name__" := by decide) (hd : (x == ("__debug__" : Str)) = false := by decide) (hn2 : y ≠ "__name__" := by decide) (hd2 : (y == ("__debug__" : Str)) = false := by decide)
    (he : ∀ env, starEach [e, .Tuple [.Name x p1, .Name y p2] i p3] env = (false, eval e env) :: starEach [.Tuple [.Name x p1, .Name y p2] i p3] env := by intro _; rfl) :
    SE G k sc N (.Call (.Name "isinstance" p) [e, .Tuple [.Name x p1, .Name y p2] i p3] [] pos) (dIsi [t, u] f) := fun X W g tk => by
  refine pe_imp (pe_callB call_isiT (gl_of g hg) (by rw [g.hmg]; exact hm) PyProof.Rows.boot_isinstance (pa_cons (ha X W g tk) (pa_cons (pe_tup (pa_cons (pe_tyn g hgx hmx hv hn hd) (pa_cons (pe_tyn g hgy hmy hu hn2 hd2) pa_nil))) pa_nil) (he _)) (by decide) (by decide) (he _) rfl) fun σ H Q h => ?_
  obtain ⟨M, r, ev, rs, R, o, rs', e, w⟩ := h
  refine tE_bnd R e w fun d rs1 H1 v R1 s1 d1 e1 w1 => ?_
  cases e1
  refine ⟨by show 2 ≤ sizeLine; decide, fun tp hp => ?_⟩
  rw [g.hK]
  refine ⟨v, tp, [.ty t.nm, .ty u.nm], .type (tyS d), [.type t.nm, .type u.nm], [t, u].any (isA d), rfl, upd_same, .cons (.ty _) (.cons (.ty _) .nil), tyx_da (d1.kp R1.ml (.of_same (same_upd hp))), ?_, ?_⟩
  · refine kitAny_cons (kit_ty (kit_isA d t d1.nodict)) (fun h1 => kitAny_cons (kit_ty (kit_isA d u d1.nodict)) (fun h2 => ?_) fun h2 => by simp [h2]) fun h1 => by simp [h1]
    rw [kitAny_nil]
    simp [h1, h2]
  · exact w1 _ (.of_same (same_upd hp)) (row_same R1.row (same_upd hp)) _ (.bl _)
end
end DL
namespace DL
open PySem PySem.Spec PyProof.Rows L2
section
variable {G : Gm} {k : Nat} {sc : Sx} {N : List Str}
variable {K : PySem.W.Frag} {M M' : Addr → Prop} {H H' H1 : Hp} {r : Rw}
mutual
theorem Da.ext (m : ∀ b, M' b → M b ∨ H b = none) : ∀ {v : V} {d : D}, Da K M H v d → Da K M' H v d
  | _, _, .non => .non
  | _, _, .bl b => .bl b
  | _, _, .int i => .int i
  | _, _, .str x => .str x
  | _, _, .lst h n t => .lst h (fun z => (m _ z).elim n fun q => by rw [h] at q; cases q) (DaL.ext m t)
  | _, _, .tup h t => .tup h (DaL.ext m t)
theorem DaL.ext (m : ∀ b, M' b → M b ∨ H b = none) : ∀ {vs : List V} {ds : List D}, DaL K M H vs ds → DaL K M' H vs ds
  | _, _, .nil => .nil
  | _, _, .cons h t => .cons (Da.ext m h) (DaL.ext m t)
end
mutual
/-- from M at H1 to M' behind it -/
theorem Da.on (ml : Ml M H1) (m : ∀ b, M' b → M b ∨ H1 b = none) (k : Kp M H1 H') : ∀ {v : V} {d : D}, Da K M H1 v d → Da K M' H' v d
  | _, _, .non => .non
  | _, _, .bl b => .bl b
  | _, _, .int i => .int i
  | _, _, .str x => .str x
  | _, _, .lst h n t => .lst (k _ _ n h) (fun z => (m _ z).elim n fun q => by rw [h] at q; cases q) (DaL.on ml m k t)
  | _, _, .tup h t => .tup (sqt_kp h ml k) (DaL.on ml m k t)
theorem DaL.on (ml : Ml M H1) (m : ∀ b, M' b → M b ∨ H1 b = none) (k : Kp M H1 H') : ∀ {vs : List V} {ds : List D}, DaL K M H1 vs ds → DaL K M' H' vs ds
  | _, _, .nil => .nil
  | _, _, .cons h t => .cons (Da.on ml m k h) (DaL.on ml m k t)
end
structure JOk (K : PySem.W.Frag) (M : Addr → Prop) (J : It) (H1 : Hp) (ds : List D) : Prop where
  go : ∀ H', Kp M H1 H' → ∀ (i : Nat) d, ds[i]? = some d → J.go i H'
  yld : ∀ M' H', Kp M H1 H' → (∀ b, M' b → M b ∨ H1 b = none) → ∀ (i : Nat) d x H'', ds[i]? = some d → J.yld i H' x H'' → Same H' H'' ∧ Da K M' H'' x d
  stop : ∀ H', Kp M H1 H' → J.stop ds.length H'
def tI (K : PySem.W.Frag) (mg : Str → Option Value) (W : WX) (f : Ev → Mn (List D)) : TI := fun σ H R =>
  ∃ M r ev rs, RelE K M r σ H ev rs ∧ ∃ o rs', f ev rs = some (o, rs') ∧ Wan K mg M r H rs' (fun cls dd H' => W cls dd σ H') (fun ds H' => Ml M H' → ∀ J, JOk K M J H' ds → R J H') o
def SI (G : Gm) (k : Nat) (sc : Sx) (N : List Str) (tg e : Expr) (f : Ev → Mn (List D)) : Prop := ∀ (X : Cx) (W : WX), Gd G k sc N X → Takes X W → PI X tg e (tI G.K G.mg W f)
theorem pi_imp {X : Cx} {tg e : Expr} {t t' : TI} (h : PI X tg e t) (i : ∀ σ H Q, t' σ H Q → t σ H Q) : PI X tg e t' := ⟨fun pins s σ H Q I q => h.run pins s σ H Q I (i σ H Q q)⟩
theorem jok_list {a : Addr} {xs : List V} {ds : List D} (ml : Ml M H1) (h : H1 a = some (.lst xs)) (n : ¬ M a) (t : DaL K M H1 xs ds) : JOk K M (Itl K a) H1 ds where
  go := fun H' kp i d e => by
    obtain ⟨v, h1, h2⟩ := t.get e
    exact ⟨xs, v, .of (kp _ _ n h), h1⟩
  yld := fun M' H' kp m i d x H'' e y => by
    obtain ⟨rfl, y⟩ := y
    obtain ⟨v, h1, h2⟩ := t.get e
    have q := y xs (.of (kp _ _ n h))
    rw [h1] at q
    cases q
    exact ⟨.refl _, h2.on ml m kp⟩
  stop := fun H' kp => ⟨xs, .of (kp _ _ n h), by rw [t.length]; exact Nat.le_refl _⟩
theorem jok_tup {a : Addr} {xs : List V} {ds : List D} (ml : Ml M H1) (h : SqT K H1 a xs) (t : DaL K M H1 xs ds) : JOk K M (Itt K a) H1 ds where
  go := fun H' kp i d e => by
    obtain ⟨v, h1, h2⟩ := t.get e
    exact ⟨xs, v, sqt_kp h ml kp, h1⟩
  yld := fun M' H' kp m i d x H'' e y => by
    obtain ⟨rfl, y⟩ := y
    obtain ⟨v, h1, h2⟩ := t.get e
    have q := y xs (sqt_kp h ml kp)
    rw [h1] at q
    cases q
    exact ⟨.refl _, h2.on ml m kp⟩
  stop := fun H' kp => ⟨xs, sqt_kp h ml kp, by rw [t.length]; exact Nat.le_refl _⟩
/-- a list or a tuple, as it comes -/
def iSeq (K : PySem.W.Frag) (te : TE) : TI := fun σ H R => te σ H fun x H1 => ∃ a, x = .ref a ∧ ((∃ xs, SqL K H1 a xs) ∧ R (Itl K a) H1 ∨ (∃ xs, SqT K H1 a xs) ∧ R (Itt K a) H1)
theorem pi_seq {X : Cx} {tg l : Expr} {te : TE} (hl : PE X l te) : PI X tg l (iSeq X.K te) := by
  refine ⟨fun pins s σ H R I h => thn (hl.run pins s σ H _ I h) fun v s1 hh => ?_⟩
  obtain ⟨x, H1, I1, r1, a, e, q⟩ := hh
  subst e; cases r1
  have fin : ∀ (J : It) (tn : Nat → Heap → Prop) (o : Obj), (∀ it, Turn X.prog X.w X.K tg J [it] it tn) → R J H1 → tn 0 (s1.heap.push o) → PIE X pins σ tg R (.ref s1.heap.objs.size) { s1 with heap := s1.heap.push o } := fun J tn o T qR st => by
    refine ⟨s1.heap.objs.size, [s1.heap.objs.size], tn, J, H1, rfl, I1.kept (t' := s1.toks) (fun b u e => Heap.get?_push_of_some _ e), T _, st, fun b hb => ?_, qR⟩
    rw [List.mem_singleton.mp hb]
    exact I1.fpOk (Nat.le_refl _) (I1.hok.fresh (Nat.le_refl _))
  rcases q with ⟨⟨xs, hq⟩, q⟩ | ⟨⟨xs, hq⟩, q⟩
  · obtain ⟨its, rv, p, hz⟩ := I1.list hq
    refine wpAny_pyIter_list p.isList ?_
    obtain ⟨it, hit⟩ : ∃ it, it = s1.heap.objs.size := ⟨_, rfl⟩
    refine ⟨s1.heap.objs.size, [s1.heap.objs.size], _, _, H1, rfl, I1.kept (t' := s1.toks) (fun b u e => Heap.get?_push_of_some _ e), turn_list a _, ⟨_, Heap.get?_push_size _ rfl, rfl, rfl⟩, fun b hb => ?_, q⟩
    rw [List.mem_singleton.mp hb]
    exact I1.fpOk (Nat.le_refl _) (I1.hok.fresh (Nat.le_refl _))
  · obtain ⟨its, rv, p, hz⟩ := I1.tuple hq
    refine wpAny_pyIter_tuple (show s1.heap.IsTuple a its.toArray from p) ?_
    refine ⟨s1.heap.objs.size, [s1.heap.objs.size], _, _, H1, rfl, I1.kept (t' := s1.toks) (fun b u e => Heap.get?_push_of_some _ e), turn_tuple a _, ⟨_, Heap.get?_push_size _ rfl, rfl, rfl⟩, fun b hb => ?_, q⟩
    rw [List.mem_singleton.mp hb]
    exact I1.fpOk (Nat.le_refl _) (I1.hok.fresh (Nat.le_refl _))
def itmD : D → Option (List D)
  | .list ds => some ds
  | .tuple ds => some ds
  | _ => none
def dItm (f : Ev → Mn D) (ev : Ev) : Mn (List D) := bnd (f ev) fun x => lft (itmD x)
theorem i_seq {tg e : Expr} {f : Ev → Mn D} (h : SE G k sc N e f) : SI G k sc N tg e (dItm f) := fun X W g tk => by
  refine pi_imp (pi_seq (h X W g tk)) fun σ H Q h => ?_
  obtain ⟨M, r, ev, rs, R, o, rs', e, w⟩ := h
  refine tE_bnd R e w fun x rs1 H1 v R1 s1 d1 e1 w1 => ?_
  obtain ⟨ds, e3, rfl, rfl⟩ := lft_some e1
  rw [g.hK]
  cases d1 with
  | lst h n t => cases e3; exact ⟨_, rfl, .inl ⟨⟨_, .of h⟩, w1 H1 (.refl _) R1.row R1.ml _ (jok_list R1.ml h n t)⟩⟩
  | tup h t => cases e3; exact ⟨_, rfl, .inr ⟨⟨_, h⟩, w1 H1 (.refl _) R1.row R1.ml _ (jok_tup R1.ml h t)⟩⟩
  | _ => cases e3
/-- range(n), range(a, b) -/
def rngD (a b : Int) : List D := (List.range (b - a).toNat).map fun i => .int (a + (i : Nat))
theorem rng_get {a b : Int} {i : Nat} {d : D} (h : (rngD a b)[i]? = some d) : i < (b - a).toNat ∧ d = .int (a + (i : Nat)) := by
  unfold rngD at h
  rw [List.getElem?_map] at h
  cases q : (List.range (b - a).toNat)[i]? with
  | none => rw [q] at h; cases h
  | some j =>
    rw [q] at h; cases h
    obtain ⟨h1, h2⟩ := List.getElem?_eq_some_iff.mp q
    rw [List.getElem_range] at h2
    subst h2
    exact ⟨by simpa using h1, rfl⟩
theorem jok_rng {a b : Int} : JOk K M (Itr a (b - a).toNat) H1 (rngD a b) where
  go := fun H' kp i d e => (rng_get e).1
  yld := fun M' H' kp m i d x H'' e y => by
    obtain ⟨rfl, rfl⟩ := y
    rw [(rng_get e).2]
    exact ⟨.refl _, .int _⟩
  stop := fun H' kp => by
    show (b - a).toNat ≤ (rngD a b).length
    unfold rngD
    rw [List.length_map, List.length_range]
    exact Nat.le_refl _
def rng1 : List D → Option (List D)
  | [.int j] => if -(2 ^ 62) ≤ j ∧ j < 2 ^ 62 then some (rngD 0 j) else none
  | _ => none
def rng2 : List D → Option (List D)
  | [.int i, .int j] => if -(2 ^ 62) ≤ i ∧ i < 2 ^ 62 ∧ -(2 ^ 62) ≤ j ∧ j < 2 ^ 62 then some (rngD i j) else none
  | _ => none
def dRng (op : List D → Option (List D)) (f : Ev → Mn (List Slot)) (ev : Ev) : Mn (List D) := bnd (f ev) fun ss => lft ((dats ss).bind op)
theorem i_range1 {tg a : Expr} {f : Ev → Mn (List Slot)} {p pos : Pos} (h : SA G k sc N [a] f) (hm : Mg0 G "range") (hg : glB sc "range" = true := by rfl) (hs : ∀ env, starEach [a] env = [(false, eval a env)] := by intro _; rfl) :
    SI G k sc N tg (.Call (.Name "range" p) [a] [] pos) (dRng rng1 f) := fun X W g tk => by
  refine pi_imp (pi_range1 (gl_of g hg) (by rw [g.hmg]; exact hm) (h X W g tk) (hs _)) fun σ H Q h => ?_
  obtain ⟨M, r, ev, rs, R, o, rs', e, w⟩ := h
  refine tAr_bnd R e w fun ss rs1 H1 vs R1 s1 d1 e1 w1 => ?_
  obtain ⟨ds, e3, rfl, rfl⟩ := lft_some e1
  cases q : dats ss with
  | none => rw [q] at e3; cases e3
  | some as =>
    rw [q] at e3
    replace e3 : rng1 as = some ds := e3
    unfold rng1 at e3
    split at e3
    · rename_i j
      split at e3
      · rename_i hj
        cases e3
        obtain ⟨v, rfl, h1⟩ := one_da (d1.dats q)
        cases h1
        have z := w1 H1 (.refl _) R1.row R1.ml (Itr 0 (j - 0).toNat) jok_rng
        rw [Int.sub_zero] at z
        exact ⟨j, rfl, hj.1, hj.2, z⟩
      · cases e3
    · cases e3
theorem i_range2 {tg a b : Expr} {f : Ev → Mn (List Slot)} {p pos : Pos} (h : SA G k sc N [a, b] f) (hm : Mg0 G "range") (hg : glB sc "range" = true := by rfl) (hs : ∀ env, starEach [a, b] env = [(false, eval a env), (false, eval b env)] := by intro _; rfl) (hs2 : ∀ env, starEach [b] env = [(false, eval b env)] := by intro _; rfl) :
    SI G k sc N tg (.Call (.Name "range" p) [a, b] [] pos) (dRng rng2 f) := fun X W g tk => by
  refine pi_imp (pi_range2 (gl_of g hg) (by rw [g.hmg]; exact hm) (h X W g tk) (hs _) (hs2 _)) fun σ H Q h => ?_
  obtain ⟨M, r, ev, rs, R, o, rs', e, w⟩ := h
  refine tAr_bnd R e w fun ss rs1 H1 vs R1 s1 d1 e1 w1 => ?_
  obtain ⟨ds, e3, rfl, rfl⟩ := lft_some e1
  cases q : dats ss with
  | none => rw [q] at e3; cases e3
  | some as =>
    rw [q] at e3
    replace e3 : rng2 as = some ds := e3
    unfold rng2 at e3
    split at e3
    · rename_i i j
      split at e3
      · rename_i hj
        cases e3
        obtain ⟨v, v', rfl, h1, h2⟩ := two_da (d1.dats q)
        cases h1
        cases h2
        exact ⟨i, j, rfl, hj, w1 H1 (.refl _) R1.row R1.ml (Itr i (j - i).toNat) jok_rng⟩
      · cases e3
    · cases e3
/-- zip(a, b) of two tuples or two lists; the target is a written tuple -/
def zipD : List D → Option (List D)
  | [.tuple xs, .tuple ys] => some ((xs.zip ys).map fun p => .tuple [p.1, p.2])
  | [.list xs, .list ys] => some ((xs.zip ys).map fun p => .tuple [p.1, p.2])
  | _ => none
theorem zip_get {xs ys : List D} {i : Nat} {d : D} (h : ((xs.zip ys).map fun p => PyData.tuple [p.1, p.2])[i]? = some d) : ∃ x y, xs[i]? = some x ∧ ys[i]? = some y ∧ d = .tuple [x, y] := by
  rw [List.getElem?_map] at h
  cases q : (xs.zip ys)[i]? with
  | none => rw [q] at h; cases h
  | some p =>
    rw [q] at h; cases h
    obtain ⟨h1, h2⟩ := List.getElem?_zip_eq_some.mp q
    exact ⟨p.1, p.2, h1, h2, rfl⟩
theorem zip_len {xs ys : List D} {vs ws : List V} (h1 : vs.length = xs.length) (h2 : ws.length = ys.length) : vs.length ≤ ((xs.zip ys).map fun p => PyData.tuple [p.1, p.2]).length ∨ ws.length ≤ ((xs.zip ys).map fun p => PyData.tuple [p.1, p.2]).length := by
  rw [List.length_map, List.length_zip]
  omega
theorem new_pair {H' H'' : Hp} {T : Addr} {x y : V} {dx dy : D} (n : H' T = none) (e : H'' = upd H' T (.tup [x, y])) (hx : Da K M' H' x dx) (hy : Da K M' H' y dy) : Same H' H'' ∧ Da K M' H'' (.ref T) (.tuple [dx, dy]) := by
  subst e
  have s := same_upd (o := .tup [x, y]) n
  exact ⟨s, .tup (.inl (.inl upd_same)) (.cons (hx.same s) (.cons (hy.same s) .nil))⟩
theorem DaL.get' {vs : List V} {ds : List D} {i : Nat} {v : V} {d : D} (h : DaL K M H vs ds) (e1 : vs[i]? = some v) (e2 : ds[i]? = some d) : Da K M H v d := by
  obtain ⟨u, h1, h2⟩ := h.get e2
  rw [e1] at h1; cases h1
  exact h2
theorem jok_zipT {a b : Addr} {vs ws : List V} {xs ys : List D} (ml : Ml M H1) (h : SqT K H1 a vs) (h' : SqT K H1 b ws) (t : DaL K M H1 vs xs) (t' : DaL K M H1 ws ys) :
    JOk K M (RZ.ItzT K a b) H1 ((xs.zip ys).map fun p => .tuple [p.1, p.2]) where
  go := fun H' kp i d e => by
    obtain ⟨x, y, e1, e2, rfl⟩ := zip_get e
    obtain ⟨v, h1, _⟩ := t.get e1
    obtain ⟨u, h2, _⟩ := t'.get e2
    exact ⟨vs, ws, v, u, sqt_kp h ml kp, sqt_kp h' ml kp, h1, h2⟩
  yld := fun M' H' kp m i d x H'' e y => by
    obtain ⟨dx, dy, e1, e2, rfl⟩ := zip_get e
    obtain ⟨T, v, u, rfl, n, e3, q1, q2⟩ := y
    exact new_pair n e3 ((t.get' (q1 _ (sqt_kp h ml kp)) e1).on ml m kp) ((t'.get' (q2 _ (sqt_kp h' ml kp)) e2).on ml m kp)
  stop := fun H' kp => ⟨vs, ws, sqt_kp h ml kp, sqt_kp h' ml kp, zip_len t.length t'.length⟩
theorem jok_zipL {a b : Addr} {vs ws : List V} {xs ys : List D} (ml : Ml M H1) (h : H1 a = some (.lst vs)) (n : ¬ M a) (h' : H1 b = some (.lst ws)) (n' : ¬ M b) (t : DaL K M H1 vs xs) (t' : DaL K M H1 ws ys) :
    JOk K M (Itz K a b) H1 ((xs.zip ys).map fun p => .tuple [p.1, p.2]) where
  go := fun H' kp i d e => by
    obtain ⟨x, y, e1, e2, rfl⟩ := zip_get e
    obtain ⟨v, h1, _⟩ := t.get e1
    obtain ⟨u, h2, _⟩ := t'.get e2
    exact ⟨vs, ws, v, u, .of (kp _ _ n h), .of (kp _ _ n' h'), h1, h2⟩
  yld := fun M' H' kp m i d x H'' e y => by
    obtain ⟨dx, dy, e1, e2, rfl⟩ := zip_get e
    obtain ⟨T, v, u, rfl, nn, e3, q1, q2⟩ := y
    exact new_pair nn e3 ((t.get' (q1 _ (.of (kp _ _ n h))) e1).on ml m kp) ((t'.get' (q2 _ (.of (kp _ _ n' h'))) e2).on ml m kp)
  stop := fun H' kp => ⟨vs, ws, .of (kp _ _ n h), .of (kp _ _ n' h'), zip_len t.length t'.length⟩
theorem i_zip {a b : Expr} {f : Ev → Mn (List Slot)} {es : List Expr} {j : Nat} {tp p pos : Pos} (h : SA G k sc N [a, b] f) (hm : Mg0 G "zip") (hg : glB sc "zip" = true := by rfl) (hs : ∀ env, starEach [a, b] env = (false, eval a env) :: starEach [b] env := by intro _; rfl) (hs2 : ∀ env, (backTo pos (starEach [b] env)).any (·.1) = false := by intro _; rfl) :
    SI G k sc N (.Tuple es j tp) (.Call (.Name "zip" p) [a, b] [] pos) (dRng zipD f) := fun X W g tk => by
  refine pi_imp (RZ.pi_zipA (gl_of g hg) (by rw [g.hmg]; exact hm) (h X W g tk) (hs _) (hs2 _)) fun σ H Q h => ?_
  obtain ⟨M, r, ev, rs, R, o, rs', e, w⟩ := h
  refine tAr_bnd R e w fun ss rs1 H1 vs R1 s1 d1 e1 w1 => ?_
  obtain ⟨ds, e3, rfl, rfl⟩ := lft_some e1
  cases q : dats ss with
  | none => rw [q] at e3; cases e3
  | some as =>
    rw [q] at e3
    replace e3 : zipD as = some ds := e3
    unfold zipD at e3
    rw [g.hK]
    split at e3
    · cases e3
      obtain ⟨v, v', rfl, h1, h2⟩ := two_da (d1.dats q)
      cases h1 with
      | tup q1 t1 =>
        cases h2 with
        | tup q2 t2 => exact ⟨_, _, _, _, rfl, .inr ⟨q1, q2, w1 H1 (.refl _) R1.row R1.ml _ (jok_zipT R1.ml q1 q2 t1 t2)⟩⟩
    · cases e3
      obtain ⟨v, v', rfl, h1, h2⟩ := two_da (d1.dats q)
      cases h1 with
      | lst q1 n1 t1 =>
        cases h2 with
        | lst q2 n2 t2 => exact ⟨_, _, _, _, rfl, .inl ⟨.of q1, .of q2, w1 H1 (.refl _) R1.row R1.ml _ (jok_zipL R1.ml q1 n1 q2 n2 t1 t2)⟩⟩
    · cases e3
theorem enum_get {xs : List D} {i : Nat} {d : D} (h : (((List.range xs.length).zip xs).map fun p => PyData.tuple [.int (p.1 : Nat), p.2])[i]? = some d) : ∃ x, xs[i]? = some x ∧ d = .tuple [.int (i : Nat), x] := by
  rw [List.getElem?_map] at h
  cases q : ((List.range xs.length).zip xs)[i]? with
  | none => rw [q] at h; cases h
  | some p =>
    rw [q] at h; cases h
    obtain ⟨h1, h2⟩ := List.getElem?_zip_eq_some.mp q
    obtain ⟨h3, h4⟩ := List.getElem?_eq_some_iff.mp h1
    rw [List.getElem_range] at h4
    exact ⟨p.2, h2, by show PyData.tuple [.int (p.1 : Nat), p.2] = _; rw [← h4]⟩
inductive Tgt where
  | name (i : Nat)
  | tup (is : List Nat)
def Tgt.ix : Tgt → List Nat
  | .name i => [i]
  | .tup is => is
def Tgt.of : Tgt → D → Option (List D)
  | .name _, d => some [d]
  | .tup is, .tuple ds => if ds.length = is.length then some ds else none
  | .tup _, _ => none
def setV (σ : L2.St) : List Nat → List V → L2.St
  | i :: is, v :: vs => setV (σ.set i (some v)) is vs
  | _, _ => σ
def setE (ev : Ev) : List Nat → List D → Ev
  | i :: is, d :: ds => setE (ev.set i (.dat d)) is ds
  | _, _ => ev
def PGt (G : Gm) (k : Nat) (sc : Sx) (N : List Str) (tg : Expr) (t : Tgt) : Prop :=
  ∃ u : TG, (∀ (X : Cx), Gd G k sc N X → PG X tg u) ∧ ∀ M (σ : L2.St) H v d ds Q, Da G.K M H v d → t.of d = some ds → (∀ vs, DaL G.K M H vs ds → Q (setV σ t.ix vs) H) → u v σ H Q
def locB (sc : Sx) (x : Str) : Bool := match sc.sc.names.lookup x with
  | some .local => true
  | some .cell => sc.fc x
  | _ => false
theorem loc_of {X : Cx} {x : Str} (g : Gd G k sc N X) (h : locB sc x = true) : Loc X.env.scope x ∧ (X.fn x = true ∨ X.env.scope.names.lookup x = some .local) := by
  unfold locB at h
  rw [g.hsc]
  split at h
  · rename_i e; exact ⟨.inl e, .inr e⟩
  · rename_i e; exact ⟨.inr e, .inl (g.hfc x h)⟩
  · cases h
theorem pg_at {X : Cx} {i : Nat} {x : Str} {p : Pos} (g : Gd G k sc N X) (hi : N[i]? = some x) (hl : locB sc x = true) : PG X (.Name x p) (gName i) :=
  pg_name (by rw [g.hN]; exact g.nd) (by rw [g.hN]; exact hi) (loc_of g hl).1 (loc_of g hl).2
theorem g_name (i : Nat) {x : Str} {p : Pos} (hi : N[i]? = some x := by rfl) (hl : locB sc x = true := by rfl) : PGt G k sc N (.Name x p) (.name i) :=
  ⟨_, fun X g => pg_at g hi hl, fun M σ H v d ds Q hd e q => by cases e; exact q [v] (.cons hd .nil)⟩
/-- the names of a written tuple -/
inductive GNs (sc : Sx) (N : List Str) : List Expr → List Nat → Prop where
  | nil : GNs sc N [] []
  | cons {i : Nat} {x : Str} {p : Pos} {es : List Expr} {is : List Nat} (hi : N[i]? = some x) (hl : locB sc x = true) (t : GNs sc N es is) : GNs sc N (.Name x p :: es) (i :: is)
theorem gns_go : ∀ {es : List Expr} {is : List Nat}, GNs sc N es is → ∃ u : TGs, (∀ (X : Cx), Gd G k sc N X → PGs X es u ∧ (assignEach es X.env).length = is.length ∧ (assignEach es X.env).findIdx? (·.1) = none) ∧ ∀ (σ : L2.St) H vs Q, vs.length = is.length → Q (setV σ is vs) H → u vs σ H Q
  | _, _, .nil => ⟨_, fun X g => ⟨pgs_nil, rfl, rfl⟩, fun σ H vs Q e q => by
    cases vs with
    | nil => exact ⟨rfl, q⟩
    | cons v vs => cases e⟩
  | _, _, .cons (i := i) (x := x) (p := p) (es := es) (is := is) hi hl t => by
    obtain ⟨u, h1, h4⟩ := gns_go t
    refine ⟨gCons (gName i) u, fun X g => ?_, fun σ H vs Q e q => ?_⟩
    · obtain ⟨h1, h2, h3⟩ := h1 X g
      refine ⟨pgs_cons (pg_at g hi hl) h1 (by rfl), ?_, ?_⟩
      · show (assignEach es X.env).length + 1 = is.length + 1
        rw [h2]
      · show (List.findIdx? (·.1) ((false, assign (.Name x p) X.env) :: assignEach es X.env)) = none
        rw [List.findIdx?_cons]
        simp [h3]
    · cases vs with
      | nil => cases e
      | cons v vs => exact ⟨v, vs, rfl, h4 _ H vs Q (by simpa using e) q⟩
theorem g_tup (is : List Nat) {es : List Expr} {j : Nat} {p : Pos} (h : GNs sc N es is) : PGt G k sc N (.Tuple es j p) (.tup is) := by
  obtain ⟨u, h1, h4⟩ := gns_go (G := G) (k := k) h
  refine ⟨gTup G.K is.length u, fun X g => ?_, fun M σ H v d ds Q hd e q => ?_⟩
  · obtain ⟨h1, h2, h3⟩ := h1 X g
    rw [← g.hK]
    exact pg_tup g.calm h1 h2 h3
  · cases hd with
    | tup a t =>
      rename_i ad xs es'
      replace e : (if es'.length = is.length then some es' else none) = some ds := e
      split at e
      · rename_i hl
        cases e
        exact ⟨_, _, rfl, a, by rw [t.length]; exact hl, h4 σ H _ Q (by rw [t.length]; exact hl) (q _ t)⟩
      · cases e
    | _ => cases e
end
end DL
namespace DL
open PySem PySem.Spec PyProof.Rows L2
section
variable {G : Gm} {k : Nat} {sc : Sx} {N : List Str}
variable {K : PySem.W.Frag} {mg : Str → Option Value} {M M' : Addr → Prop} {H H' H1 : Hp} {r : Rw} {σ : L2.St} {ev : Ev} {rs rs' : RS} {W : WX}
theorem RelE.set1 {i : Nat} {v : V} {d : D} (R : RelE K M r σ H ev rs) (h : Da K M H v d) : RelE K M r (σ.set i (some v)) H (ev.set i (.dat d)) rs := by
  refine ⟨R.mr, R.ml, R.row, fun j s e => ?_, by rw [List.length_set, List.length_set]; exact R.len⟩
  by_cases hj : i = j
  · subst hj
    have hl : i < ev.length := by
      have := (List.getElem?_eq_some_iff.mp e).1
      rwa [List.length_set] at this
    rw [List.getElem?_set_self hl] at e
    cases e
    exact ⟨v, List.getElem?_set_self (Nat.lt_of_lt_of_le hl R.len), h⟩
  · rw [List.getElem?_set_ne hj] at e
    have q := R.slots j s e
    cases s with
    | hid => trivial
    | own _ => trivial
    | dat d' => obtain ⟨u, e1, e2⟩ := q; exact ⟨u, by rw [List.getElem?_set_ne hj]; exact e1, e2⟩
    | row => show (σ.set i (some v))[j]? = _; rw [List.getElem?_set_ne hj]; exact q
theorem RelE.setL : ∀ {is : List Nat} {vs : List V} {ds : List D} {σ : L2.St} {ev : Ev}, RelE K M r σ H ev rs → DaL K M H vs ds → RelE K M r (setV σ is vs) H (setE ev is ds) rs
  | [], _, _, _, _, R, _ => R
  | _ :: _, _, _, _, _, R, .nil => R
  | i :: is, _, _, _, _, R, .cons h t => RelE.setL (is := is) (R.set1 h) t
def wipeE (ev : Ev) : List Nat → Ev
  | [] => ev
  | v :: vs => (wipeE ev vs).set v .hid
theorem RelE.hid1 {i : Nat} {o : Option V} (R : RelE K M r σ H ev rs) : RelE K M r (σ.set i o) H (ev.set i .hid) rs := by
  refine ⟨R.mr, R.ml, R.row, fun j s e => ?_, by rw [List.length_set, List.length_set]; exact R.len⟩
  by_cases hj : i = j
  · subst hj
    have hl : i < ev.length := by
      have := (List.getElem?_eq_some_iff.mp e).1
      rwa [List.length_set] at this
    rw [List.getElem?_set_self hl] at e
    cases e
    trivial
  · rw [List.getElem?_set_ne hj] at e
    have q := R.slots j s e
    cases s with
    | hid => trivial
    | own _ => trivial
    | dat d' => obtain ⟨u, e1, e2⟩ := q; exact ⟨u, by rw [List.getElem?_set_ne hj]; exact e1, e2⟩
    | row => show (σ.set i o)[j]? = _; rw [List.getElem?_set_ne hj]; exact q
theorem RelE.wiped (R : RelE K M r σ H ev rs) : ∀ vs : List Nat, RelE K M r (wipe σ vs) H (wipeE ev vs) rs
  | [] => R
  | v :: vs => (RelE.wiped R vs).hid1
theorem wipe_get {σ : L2.St} {j : Nat} : ∀ {vs : List Nat}, j ∉ vs → (wipe σ vs)[j]? = σ[j]?
  | [], _ => rfl
  | v :: vs, h => by
    simp only [List.mem_cons, not_or] at h
    show ((wipe σ vs).set v none)[j]? = _
    rw [List.getElem?_set_ne (Ne.symm h.1), wipe_get h.2]
theorem wipe_in {σ : L2.St} {j : Nat} : ∀ {vs : List Nat}, j ∈ vs → j < σ.length → (wipe σ vs)[j]? = some none
  | v :: vs, h, hl => by
    show ((wipe σ vs).set v none)[j]? = _
    by_cases e : v = j
    · subst e
      exact List.getElem?_set_self (by rw [wipe_length]; exact hl)
    · rw [List.getElem?_set_ne e]
      refine wipe_in ?_ hl
      rcases List.mem_cons.mp h with q | q
      · exact absurd q.symm e
      · exact q
/-- stores within vs are wiped -/
theorem wipe_set {σ σ' : L2.St} {vs : List Nat} (hl : σ'.length = σ.length) (h : ∀ j, j ∉ vs → σ'[j]? = σ[j]?) : wipe σ' vs = wipe σ vs := by
  apply List.ext_getElem?
  intro j
  by_cases hj : j ∈ vs
  · by_cases hlt : j < σ.length
    · rw [wipe_in hj hlt, wipe_in hj (by rw [hl]; exact hlt)]
    · rw [List.getElem?_eq_none (by rw [wipe_length]; omega), List.getElem?_eq_none (by rw [wipe_length]; omega)]
  · rw [wipe_get hj, wipe_get hj, h j hj]
theorem setV_length : ∀ {is : List Nat} {vs : List V} {σ : L2.St}, (setV σ is vs).length = σ.length
  | [], _, _ => rfl
  | _ :: _, [], _ => rfl
  | i :: is, v :: vs, σ => by
    show (setV (σ.set i (some v)) is vs).length = _
    rw [setV_length, List.length_set]
theorem setV_out {j : Nat} : ∀ {is : List Nat} {vs : List V} {σ : L2.St}, j ∉ is → (setV σ is vs)[j]? = σ[j]?
  | [], _, _, _ => rfl
  | _ :: _, [], _, _ => rfl
  | i :: is, v :: vs, σ, h => by
    simp only [List.mem_cons, not_or] at h
    show (setV (σ.set i (some v)) is vs)[j]? = _
    rw [setV_out h.2, List.getElem?_set_ne (Ne.symm h.1)]
theorem wipe_turn {is own : List Nat} {vs : List V} (h : ∀ i ∈ is, i ∈ own) : wipe (setV (wipe σ own) is vs) own = wipe σ own := by
  refine wipe_set (by rw [setV_length, wipe_length]) fun j hj => ?_
  rw [setV_out fun z => hj (h j z), wipe_get hj]
def nox {α : Type} (m : Mn α) : Mn α := fun rs => match m rs with
  | some (.val a, rs') => some (.val a, rs')
  | _ => none
theorem nox_some {α : Type} {m : Mn α} {rs rs' : RS} {o : Out α} (h : nox m rs = some (o, rs')) : ∃ a, o = .val a ∧ m rs = some (.val a, rs') := by
  unfold nox at h
  split at h
  · rename_i e; cases h; exact ⟨_, rfl, e⟩
  · cases h
theorem bnd_nox {α β : Type} {m : Mn α} {f : α → Mn β} {rs rs' : RS} {o : Out β} (h : bnd (nox m) f rs = some (o, rs')) : ∃ a rs1, m rs = some (.val a, rs1) ∧ f a rs1 = some (o, rs') := by
  rcases bnd_some h with ⟨a, rs1, e1, e2⟩ | ⟨x, i, e1, _⟩
  · obtain ⟨b, eb, e3⟩ := nox_some e1
    cases eb
    exact ⟨a, rs1, e3, e2⟩
  · obtain ⟨b, eb, _⟩ := nox_some e1
    cases eb
def compGo (t : Tgt) (cond : Ev → Mn Bool) (elt : Ev → Mn D) (ev : Ev) : List D → Mn (List D)
  | [] => pur []
  | d :: ds => bnd (lft (t.of d)) fun es => bnd (nox (cond (setE ev t.ix es))) fun c =>
    if c = true then bnd (nox (elt (setE ev t.ix es))) fun x => bnd (compGo t cond elt ev ds) fun xs => pur (x :: xs) else compGo t cond elt ev ds
def dComp (own : List Nat) (src : Ev → Mn (List D)) (t : Tgt) (cond : Ev → Mn Bool) (elt : Ev → Mn D) (ev : Ev) : Mn D :=
  bnd (src ev) fun ds => bnd (compGo t cond elt (wipeE ev own) ds) fun out => lft (if out.length ≤ sizeLine then some (.list out) else none)
theorem compGo_val {t : Tgt} {cond : Ev → Mn Bool} {elt : Ev → Mn D} {ev : Ev} : ∀ {ds : List D} {rs rs' : RS} {o : Out (List D)}, compGo t cond elt ev ds rs = some (o, rs') → ∃ xs, o = .val xs
  | [], _, _, _, h => by cases h; exact ⟨_, rfl⟩
  | d :: ds, rs, rs', o, h => by
    obtain ⟨es, _, h⟩ := bnd_lft h
    obtain ⟨c, rs1, _, h⟩ := bnd_nox h
    split at h
    · obtain ⟨x, rs2, _, h⟩ := bnd_nox h
      rcases bnd_some h with ⟨a, rs3, e1, e2⟩ | ⟨x, i, e1, rfl⟩
      · cases e2; exact ⟨_, rfl⟩
      · obtain ⟨xs, e⟩ := compGo_val e1
        cases e
    · exact compGo_val h
theorem tI_bnd {β : Type} {fa : Ev → Mn (List D)} {kk : List D → Mn β} {o : Out β} {Vb : β → Hp → Prop} {Q1 : It → Hp → Prop} (R : RelE K M r σ H ev rs) (h : bnd (fa ev) kk rs = some (o, rs')) (w : Wan K mg M r H rs' (fun cls dd H' => W cls dd σ H') Vb o)
    (c : ∀ ds rs1 H1 J, RelE K M r σ H1 ev rs1 → Stp r H H1 → JOk K M J H1 ds → kk ds rs1 = some (o, rs') → Wan K mg M r H1 rs' (fun cls dd H' => W cls dd σ H') Vb o → Q1 J H1) : tI K mg W fa σ H Q1 := by
  rcases bnd_some h with ⟨x, rs1, e1, e2⟩ | ⟨x, i, e1, rfl⟩
  · refine ⟨M, r, ev, rs, R, .val x, rs1, e1, fun H1 s1 w1 m1 J j1 => ?_⟩
    exact c x rs1 H1 J (R.stp s1 w1) s1 j1 e2 (w.stp s1)
  · exact ⟨M, r, ev, rs, R, .exc x i, rs', e1, w.exc⟩
def Sx.blk (sc : Sx) (scope : Scope) : Sx := ⟨relS scope sc.sc, fun x => scope.names.lookup x == some .cell⟩
theorem Gd.blk {X : Cx} (g : Gd G k sc N X) (s : Shared) (H : Hp) (scope : Scope) (cl : List (Str × Addr)) (C : Addr) (fp : List Addr) : Gd G k (sc.blk scope) N (X.blk s H scope (compEnvC scope cl C X.env) fp) where
  hN := g.hN
  nd := g.nd
  hsc := by
    show relS scope X.env.scope = relS scope sc.sc
    rw [g.hsc]
  hfc := fun x h => h
  calm := g.calm
  room := g.room
  hP := g.hP
  hw := g.hw
  hK := g.hK
  hmg := g.hmg
  hb := g.hb
abbrev W0 : WX := fun _ _ _ _ => False
def SP1 (G : Gm) (k : Nat) (sc : Sx) (N : List Str) (ifs : List Expr) (f : Ev → Mn Bool) : Prop := ∀ (X : Cx) (W : WX), Gd G k sc N X → Takes X W → PTs X ifs (tT G.K G.mg W f)
def dYes (_ : Ev) : Mn Bool := pur true
theorem p_nil : SP1 G k sc N [] dYes := fun X W g tk => ⟨fun pins s σ H Q I h => by
  obtain ⟨M, r, ev, rs, R, o, rs', e, w⟩ := h
  cases e
  exact pts_nil.run pins s σ H Q I (w H (.refl H) R.row)⟩
theorem p_one {c : Expr} {f : Ev → Mn Bool} (h : ST G k sc N c f) : SP1 G k sc N [c] f := fun X W g tk => pts_one (h X W g tk)
/-- M and one new list -/
def And1 (M : Addr → Prop) (p : Addr) : Addr → Prop := fun b => M b ∨ b = p
theorem RelE.and1 {p : Addr} {xs : List V} (R : RelE K M r σ H ev rs) (hp : H p = none) : RelE K (And1 M p) r σ (upd H p (.lst xs)) ev rs := by
  have ne : ∀ b o, H b = some o → b ≠ p := fun b o e => ne_of_none e hp
  have R1 := R.new (o := .lst xs) hp
  have ext : ∀ {v : V} {d : D}, Da K M H v d → Da K (And1 M p) (upd H p (.lst xs)) v d := fun h => (h.ext fun b m => m.elim .inl fun e => .inr (by rw [e]; exact hp)).same (same_upd hp)
  refine ⟨.inl R.mr, fun b m => ?_, ?_, fun i s e => ?_, R.len⟩
  · rcases m with m | rfl
    · exact R.ml.upd hp b m
    · exact ⟨xs, upd_same⟩
  · obtain ⟨⟨e1, e1'⟩, e2⟩ := R.row
    refine ⟨⟨by rw [upd_ne (ne _ _ e1)]; exact e1, e1'⟩, ?_⟩
    rcases e2 with ⟨h | ⟨o, h⟩, n⟩ | h
    · exact .inl ⟨.inl (by rw [upd_ne (ne _ _ h)]; exact h), fun z => z.elim n fun e => ne _ _ h e⟩
    · exact .inl ⟨.inr ⟨o, by rw [upd_ne (ne _ _ h)]; exact h⟩, fun z => z.elim n fun e => ne _ _ h e⟩
    · exact .inr h
  · have q := R.slots i s e
    cases s with
    | hid => trivial
    | own _ => trivial
    | row => exact q
    | dat d => obtain ⟨v, e1, e2⟩ := q; exact ⟨v, e1, ext e2⟩
theorem row_sub {K : PySem.W.Frag} {M M' : Addr → Prop} {H : Hp} {r : Rw} {rs : RS} (h : RowAt K M H r rs) (s : ∀ b, M' b → M b) : RowAt K M' H r rs := by
  obtain ⟨e1, e2⟩ := h
  exact ⟨e1, sqlm_sub e2 s⟩
/-- all that was tracked but the row and one more -/
def Same' (r : Rw) (p : Addr) (H H' : Hp) : Prop := ∀ b o, b ≠ p → b ≠ r.a → H b = some o → H' b = some o
/-- a comprehension of one clause, as its rule wants it -/
theorem lc_imp {X : Cx} {W : WX} {fi : Ev → Mn (List D)} {t : Tgt} {fc : Ev → Mn Bool} {fe : Ev → Mn D} {own : List (Str × Nat)} {u : TG} (g : Gd G k sc N X) (hu2 : ∀ M (σ : L2.St) H v d ds Q, Da G.K M H v d → t.of d = some ds → (∀ vs, DaL G.K M H vs ds → Q (setV σ t.ix vs) H) → u v σ H Q) (hix : ∀ i ∈ t.ix, i ∈ own.map (·.2)) :
    ∀ σ H Q, tE G.K G.mg W (dComp (own.map (·.2)) fi t fc fe) σ H Q → tLc (tI G.K G.mg W fi) u (tT G.K G.mg W0 fc) (tE G.K G.mg W0 fe) (own.map (·.2)) σ H Q := fun σ H Q h => by
  obtain ⟨M, r, ev, rs, R, o, rs', e, w⟩ := h
  refine tI_bnd R e w fun ds rs1 H1 J R1 s1 jok e1 w1 => ?_
  intro P hP
  -- what the whole makes
  obtain ⟨out, eo⟩ : ∃ out, compGo t fc fe (wipeE ev (own.map (·.2))) ds rs1 = some (.val out, rs') ∧ o = .val (.list out) ∧ out.length ≤ sizeLine := by
    rcases bnd_some e1 with ⟨a, rs2, q1, q2⟩ | ⟨x, i, q1, _⟩
    · obtain ⟨d, q3, rfl, rfl⟩ := lft_some q2
      split at q3
      · rename_i hl; cases q3; exact ⟨a, q1, rfl, hl⟩
      · cases q3
    · obtain ⟨xs, q⟩ := compGo_val q1
      cases q
  obtain ⟨eg, rfl, hlen⟩ := eo
  have M1r : And1 M P r.a := .inl R.mr
  refine ⟨fun i m H' => m = ds.length - i ∧ i ≤ ds.length ∧ ∃ acc accD rest rsi, H' P = some (.lst acc) ∧ DaL G.K (And1 M P) H' acc accD ∧ Same' r P H1 H' ∧ RelE G.K (And1 M P) r (wipe σ (own.map (·.2))) H' (wipeE ev (own.map (·.2))) rsi ∧ compGo t fc fe (wipeE ev (own.map (·.2))) (ds.drop i) rsi = some (.val rest, rs') ∧ accD ++ rest = out, ⟨_, rfl, Nat.zero_le _, [], [], out, rs1, upd_same, .nil, fun b o hb hr e => by rw [upd_ne hb]; exact e, (R1.wiped _).and1 hP, by rw [List.drop_zero]; exact eg, rfl⟩, ?_⟩
  rintro i m H2 ⟨rfl, hil, acc, accD, rest, rsi, hD, hacc, hsm, R2, hgo, happ⟩
  have kp : Kp M H1 H2 := fun b o n e => hsm b o (ne_of_none e hP) (fun z => n (z ▸ R.mr)) e
  by_cases hlt : i < ds.length
  · have hd := List.getElem?_eq_getElem hlt
    refine .inr ⟨jok.go H2 kp i _ hd, fun H' => ds.length - (i + 1) = ds.length - (i + 1) ∧ i + 1 ≤ ds.length ∧ ∃ acc accD rest rsi, H' P = some (.lst acc) ∧ DaL G.K (And1 M P) H' acc accD ∧ Same' r P H1 H' ∧ RelE G.K (And1 M P) r (wipe σ (own.map (·.2))) H' (wipeE ev (own.map (·.2))) rsi ∧ compGo t fc fe (wipeE ev (own.map (·.2))) (ds.drop (i + 1)) rsi = some (.val rest, rs') ∧ accD ++ rest = out, fun H' q => ⟨_, by omega, q⟩, fun x H3 hy => ?_⟩
    obtain ⟨sm3, dx⟩ := jok.yld (And1 M P) H2 kp (fun b z => z.elim .inl fun e => .inr (by rw [e]; exact hP)) i _ x H3 hd hy
    rw [List.drop_eq_getElem_cons hlt] at hgo
    obtain ⟨es, ht1, hgo⟩ := bnd_lft hgo
    obtain ⟨c, rs2, hc1, hgo⟩ := bnd_nox hgo
    have R3 : RelE G.K (And1 M P) r (wipe σ (own.map (·.2))) H3 (wipeE ev (own.map (·.2))) rsi := R2.stp (.of_same sm3) (row_same R2.row sm3)
    refine hu2 _ _ _ _ _ _ _ dx ht1 fun vs hvs => ?_
    refine ⟨wipe_turn hix, ?_⟩
    have R4 := R3.setL (is := t.ix) hvs
    refine ⟨_, _, _, rsi, R4, .val c, rs2, hc1, fun H5 s5 w5 => ?_⟩
    have R5 := R4.stp s5 w5
    have back : ∀ {H' : Hp} {rsx : RS}, Stp r H3 H' → RowAt G.K (And1 M P) H' r rsx → RelE G.K (And1 M P) r (wipe σ (own.map (·.2))) H' (wipeE ev (own.map (·.2))) rsx := fun s w => R3.stp s w
    have same5 : Same' r P H1 H5 := fun b o hb hr e => s5 b o hr (sm3 b o (hsm b o hb hr e))
    cases c with
    | false =>
      rw [if_neg (by decide)] at hgo
      show if false = true then _ else _
      rw [if_neg (by decide)]
      have kp5 : Kp (And1 M P) H2 H5 := ((Kp.of_same sm3).trans (s5.kp M1r))
      have rP : P ≠ r.a := fun z => by
        obtain ⟨⟨e1, _⟩, _⟩ := R1.row
        rw [z, e1] at hP; cases hP
      exact ⟨rfl, hlt, acc, accD, rest, rs2, s5 _ _ rP (sm3 _ _ hD), hacc.kp R2.ml kp5, same5, back s5 w5, hgo, happ⟩
    | true =>
      rw [if_pos rfl] at hgo
      show if true = true then _ else _
      rw [if_pos rfl]
      obtain ⟨y, rs3, hy1, hgo⟩ := bnd_nox hgo
      rcases bnd_some hgo with ⟨rest', rs4, q1, q2⟩ | ⟨_, _, q1, q2⟩
      · cases q2
        refine ⟨_, _, _, rs2, R5, .val y, rs3, hy1, fun H6 s6 w6 v dv => ?_⟩
        have rP : P ≠ r.a := fun z => by
          obtain ⟨⟨e1, _⟩, _⟩ := R1.row
          rw [z, e1] at hP; cases hP
        have s36 : Stp r H3 H6 := s5.trans s6
        have hD6 : H6 P = some (.lst acc) := s36 _ _ rP (sm3 _ _ hD)
        have kp6 : Kp (And1 M P) H2 H6 := ((Kp.of_same sm3).trans (s36.kp M1r))
        have ml6 : Ml (And1 M P) H6 := R5.ml.stp M1r s6 w6
        have acc6 : DaL G.K (And1 M P) H6 acc accD := hacc.kp R2.ml kp6
        have lacc : acc.length < sizeLine := by
          rw [acc6.length]
          have : accD.length + (y :: rest').length = out.length := by rw [← happ, List.length_append]
          simp only [List.length_cons] at this
          omega
        have k7 : Kp (And1 M P) H6 (upd H6 P (.lst (acc ++ [v]))) := fun b o n e => by rw [upd_ne fun z => n (.inr z)]; exact e
        have s7 : ∀ b o, b ≠ P → H6 b = some o → (upd H6 P (.lst (acc ++ [v]))) b = some o := fun b o n e => by rw [upd_ne n]; exact e
        have row7 : RowAt G.K (And1 M P) (upd H6 P (.lst (acc ++ [v]))) r rs3 := by
          obtain ⟨⟨e1, e1'⟩, e2⟩ := w6
          exact ⟨⟨s7 _ _ rP.symm e1, e1'⟩, sqlm_kp e2 k7⟩
        have R7 : RelE G.K (And1 M P) r (wipe σ (own.map (·.2))) (upd H6 P (.lst (acc ++ [v]))) (wipeE ev (own.map (·.2))) rs3 := by
          have R6 := back s36 w6
          refine ⟨R6.mr, fun b m => ?_, row7, fun j s e => (R6.slots j s e).kp R6.ml k7, R6.len⟩
          by_cases hb : b = P
          · exact ⟨_, by rw [hb]; exact upd_same⟩
          · obtain ⟨xs, e⟩ := R6.ml b m
            exact ⟨xs, s7 _ _ hb e⟩
        refine ⟨acc, hD6, lacc, rfl, hlt, acc ++ [v], accD ++ [y], rest', rs3, upd_same, ?_, fun b o hb hr e => s7 _ _ hb (s36 b o hr (sm3 b o (hsm b o hb hr e))), R7, q1, by rw [List.append_assoc]; exact happ⟩
        exact DaL.kp ml6 k7 (acc6.append (.cons dv .nil))
      · cases q2
  · have ei : i = ds.length := by omega
    subst ei
    rw [List.drop_length] at hgo
    cases hgo
    rw [List.append_nil] at happ
    subst happ
    refine .inl ⟨jok.stop H2 kp, ?_⟩
    have s12 : Stp r H1 H2 := fun b o n e => hsm b o (ne_of_none e hP) n e
    exact w1 H2 s12 (row_sub R2.row fun b m => .inl m) _ (.lst hD (R1.ml.fresh hP) (hacc.sub fun b m => .inl m))
theorem e_lc {elt tg iter : Expr} {ifs : List Expr} {scope : Scope} {pos : Pos} {fi : Ev → Mn (List D)} {t : Tgt} {fc : Ev → Mn Bool} {fe : Ev → Mn D} (own : List (Str × Nat)) (hi : SI G k sc N tg iter fi) (ht : PGt G k (sc.blk scope) N tg t) (hc : SP1 G k (sc.blk scope) N ifs fc) (he : SE G k (sc.blk scope) N elt fe)
    (hb : blkC N sc.sc scope own = true := by decide +kernel) (hix : ∀ i ∈ t.ix, i ∈ own.map (·.2) := by decide) (hs : ∀ env x, foldedSetIterable iter env x = pure x := by intro _ _; rfl) :
    SE G k sc N (.ListComp elt [⟨tg, iter, ifs, 0⟩] scope pos) (dComp (own.map (·.2)) fi t fc fe) := fun X W g tk => by
  have ok : BlkOk X.N X.env.scope scope own := by
    rw [g.hN, g.hsc]
    exact blkOk_by hb
  have nd : X.N.Nodup := by rw [g.hN]; exact g.nd
  obtain ⟨u, hu1, hu2⟩ := ht
  refine pe_imp (pe_lc (own := own) g.calm nd (hi X W g tk) ok (fun s H C cl fp => hu1 _ (g.blk s H scope cl C fp)) (fun s H C cl fp => hc _ W0 (g.blk s H scope cl C fp) L2.takes0) (fun s H C cl fp => he _ W0 (g.blk s H scope cl C fp) L2.takes0) (hs _)) (lc_imp g hu2 hix)
end
end DL
namespace DL
open PySem PySem.Spec PyProof.Rows L2
inductive Res where
  | nx (ev : Ev)
  | ret (d : D)
  | bk (ev : Ev)
  | ct (ev : Ev)
  | exc (x : Str) (i : Option Int)
abbrev Ms := RS → Option (Res × RS)
def isOwn (ev : Ev) (i : Nat) : Prop := ∃ ds, ev[i]? = some (.own ds)
/-- the addresses of the frame's own lists beside M -/
def Av (M : Addr → Prop) (ev : Ev) (oa : Nat → Addr) : Addr → Prop := fun b => M b ∨ ∃ i, isOwn ev i ∧ b = oa i
structure RelS (K : PySem.W.Frag) (M : Addr → Prop) (r : Rw) (Pr : Addr → HO → Prop) (σ : L2.St) (H : Hp) (ev : Ev) (rs : RS) (oa : Nat → Addr) : Prop where
  e : RelE K (Av M ev oa) r σ H ev rs
  mr : M r.a
  prot : ∀ b o, Pr b o → H b = some o
  nr : ∀ o, ¬ Pr r.a o
  pm : ∀ b, M b → b ≠ r.a → ∃ xs, Pr b (.lst xs)
  own : ∀ i ds, ev[i]? = some (.own ds) → ∃ xs, σ[i]? = some (some (.ref (oa i))) ∧ H (oa i) = some (.lst xs) ∧ DaL K (Av M ev oa) H xs ds ∧ (∀ o, ¬ Pr (oa i) o) ∧ oa i ≠ r.a
  inj : ∀ i j, isOwn ev i → isOwn ev j → oa i = oa j → i = j
section
variable {K : PySem.W.Frag} {mg : Str → Option Value} {M : Addr → Prop} {H H' H1 : Hp} {r : Rw} {σ σ' : L2.St} {ev ev' : Ev} {rs rs' : RS} {W : WX} {Pr : Addr → HO → Prop} {oa : Nat → Addr}
/-- own lists, lent: they may be read as data, then nothing may be kept of them -/
def lendS : Slot → Slot
  | .own ds => .dat (.list ds)
  | s => s
def lend (ev : Ev) : Ev := ev.map lendS
theorem lend_get {i : Nat} {s : Slot} (h : (lend ev)[i]? = some s) : ∃ t, ev[i]? = some t ∧ s = lendS t := by
  unfold lend at h
  rw [List.getElem?_map] at h
  cases q : ev[i]? with
  | none => rw [q] at h; cases h
  | some t => rw [q] at h; cases h; exact ⟨t, rfl, rfl⟩
theorem RelS.ownM (R : RelS K M r Pr σ H ev rs oa) {i : Nat} (h : isOwn ev i) : ¬ M (oa i) := fun m => by
  obtain ⟨ds, e⟩ := h
  obtain ⟨xs, _, _, _, np, nr⟩ := R.own i ds e
  obtain ⟨ys, q⟩ := R.pm _ m nr
  exact np _ q
theorem RelS.lent (R : RelS K M r Pr σ H ev rs oa) : RelE K M r σ H (lend ev) rs := by
  refine ⟨R.mr, fun b m => R.e.ml b (.inl m), row_sub R.e.row fun b m => .inl m, fun i s e => ?_, by unfold lend; rw [List.length_map]; exact R.e.len⟩
  obtain ⟨t, e1, rfl⟩ := lend_get e
  have q := R.e.slots i t e1
  cases t with
  | hid => trivial
  | row => exact q
  | dat d => obtain ⟨v, h1, h2⟩ := q; exact ⟨v, h1, h2.sub fun b m => .inl m⟩
  | own ds =>
    obtain ⟨xs, h1, h2, h3, _, _⟩ := R.own i ds e1
    exact ⟨_, h1, .lst h2 (R.ownM ⟨ds, e1⟩) (h3.sub fun b m => .inl m)⟩
theorem lend_own (i : Nat) : ¬ isOwn (lend ev) i := fun ⟨ds, h⟩ => by
  obtain ⟨t, _, e⟩ := lend_get h
  cases t <;> cases e
theorem av_lend {b : Addr} (h : Av M (lend ev) oa b) : M b := h.elim id fun ⟨i, q, _⟩ => absurd q (lend_own i)
/-- own lists, given up: data from now on -/
theorem RelS.freeze (R : RelS K M r Pr σ H ev rs oa) : RelS K M r Pr σ H (lend ev) rs oa := by
  have L := R.lent
  refine ⟨⟨.inl R.mr, fun b m => L.ml b (av_lend m), ?_, fun i s e => ?_, L.len⟩, R.mr, R.prot, R.nr, R.pm, fun i ds e => absurd ⟨ds, e⟩ (lend_own i), fun i j h => absurd h (lend_own i)⟩
  · exact row_sub L.row fun b m => av_lend m
  · have q := L.slots i s e
    cases s with
    | hid => trivial
    | row => exact q
    | own _ => trivial
    | dat d => obtain ⟨v, h1, h2⟩ := q; exact ⟨v, h1, h2.sub fun b m => av_lend m⟩
theorem RelE.sub (R : RelE K M r σ H ev rs) {M' : Addr → Prop} (s : ∀ b, M' b → M b) (m : M' r.a) : RelE K M' r σ H ev rs := by
  refine ⟨m, fun b q => R.ml b (s b q), row_sub R.row s, fun i t e => ?_, R.len⟩
  have q := R.slots i t e
  cases t with
  | hid => trivial
  | own _ => trivial
  | row => exact q
  | dat d => obtain ⟨v, h1, h2⟩ := q; exact ⟨v, h1, h2.sub s⟩
/-- behind what keeps all but the row -/
theorem RelS.stp (R : RelS K M r Pr σ H ev rs oa) {M' : Addr → Prop} (s : Stp r H H') (w : RowAt K M' H' r rs') : RelS K M r Pr σ H' ev rs' oa := by
  have w2 : RowAt K (Av M ev oa) H' r rs' := ⟨w.1, sqlm_kp R.e.row.2 (s.kp R.e.mr)⟩
  refine ⟨R.e.stp s w2, R.mr, fun b o p => s b o (fun z => R.nr o (z ▸ p)) (R.prot b o p), R.nr, R.pm, fun i ds e => ?_, R.inj⟩
  obtain ⟨xs, h1, h2, h3, h4, h5⟩ := R.own i ds e
  exact ⟨xs, h1, s _ _ h5 h2, h3.kp R.e.ml (s.kp R.e.mr), h4, h5⟩
def PrK (Pr : Addr → HO → Prop) (H : Hp) : Prop := ∀ b o, Pr b o → H b = some o
def WanS (K : PySem.W.Frag) (mg : Str → Option Value) (M : Addr → Prop) (r : Rw) (Pr : Addr → HO → Prop) (rs' : RS) (W : WX) (D : Ends) : Res → Prop
  | .nx ev => ∀ σ H oa, RelS K M r Pr σ H ev rs' oa → D.nx σ H
  | .bk ev => ∀ σ H oa, RelS K M r Pr σ H ev rs' oa → D.bk σ H
  | .ct ev => ∀ σ H oa, RelS K M r Pr σ H ev rs' oa → D.ct σ H
  | .ret d => ∀ v H, PrK Pr H → RowAt K M H r rs' → Da K M H v d → D.rt v H
  | .exc x i => ∀ cls dd σ H, PrK Pr H → RowAt K M H r rs' → ExA mg x i cls dd H → W cls dd σ H
def tS (K : PySem.W.Frag) (mg : Str → Option Value) (W : WX) (f : Ev → Ms) : TS := fun D σ H =>
  ∃ M r Pr ev rs oa, RelS K M r Pr σ H ev rs oa ∧ ∃ o rs', f ev rs = some (o, rs') ∧ WanS K mg M r Pr rs' W D o
theorem RelS.evE (R : RelS K M r Pr σ H ev rs oa) {M' : Addr → Prop} {ev' : Ev} (R' : RelE K M' r σ H ev' rs) (hM : ∀ b, M b → M' b) {f : Ev → Mn D} {o : Out D} {Q : VK} (e : f ev' rs = some (o, rs'))
    (cv : ∀ d, o = .val d → ∀ v H', RelS K M r Pr σ H' ev rs' oa → Stp r H H' → Da K M' H' v d → Q v H') (cx : ∀ x i, o = .exc x i → ∀ cls dd σ H, PrK Pr H → RowAt K M H r rs' → ExA mg x i cls dd H → W cls dd σ H) : tE K mg W f σ H Q := by
  refine ⟨M', r, ev', rs, R', o, rs', e, ?_⟩
  cases o with
  | val d => exact fun H' s w v dv => cv d rfl v H' (R.stp s w) s dv
  | exc x i => exact fun cls dd H' s w a => cx x i rfl cls dd σ H' (R.stp s w).prot (row_sub w hM) a
theorem RelS.evT (R : RelS K M r Pr σ H ev rs oa) {f : Ev → Mn Bool} {o : Out Bool} {Q : Bool → Hp → Prop} (e : f (lend ev) rs = some (o, rs'))
    (cv : ∀ b, o = .val b → ∀ H', RelS K M r Pr σ H' ev rs' oa → Q b H') (cx : ∀ x i, o = .exc x i → ∀ cls dd σ H, PrK Pr H → RowAt K M H r rs' → ExA mg x i cls dd H → W cls dd σ H) : tT K mg W f σ H Q := by
  refine ⟨M, r, lend ev, rs, R.lent, o, rs', e, ?_⟩
  cases o with
  | val d => exact fun H' s w => cv d rfl H' (R.stp s w)
  | exc x i => exact fun cls dd H' s w a => cx x i rfl cls dd σ H' (R.stp s w).prot w a
theorem isOwn_set {i j : Nat} {s : Slot} (hs : ∀ ds, s ≠ .own ds) (h : isOwn (ev.set i s) j) : isOwn ev j ∧ i ≠ j := by
  obtain ⟨ds, e⟩ := h
  by_cases hj : i = j
  · subst hj
    have hl : i < ev.length := by
      have := (List.getElem?_eq_some_iff.mp e).1
      rwa [List.length_set] at this
    rw [List.getElem?_set_self hl] at e
    exact absurd (Option.some.inj e) (hs ds)
  · rw [List.getElem?_set_ne hj] at e
    exact ⟨⟨ds, e⟩, hj⟩
theorem RelS.set1 (R : RelS K M r Pr σ H ev rs oa) {i : Nat} {v : V} {d : D} (h : Da K (Av M ev oa) H v d) : RelS K M r Pr (σ.set i (some v)) H (ev.set i (.dat d)) rs oa := by
  have nd : ∀ ds, Slot.dat d ≠ .own ds := fun ds e => by cases e
  have sub : ∀ b, Av M (ev.set i (.dat d)) oa b → Av M ev oa b := fun b m => m.elim .inl fun ⟨j, o, e⟩ => .inr ⟨j, (isOwn_set nd o).1, e⟩
  refine ⟨(R.e.set1 h).sub sub (.inl R.mr), R.mr, R.prot, R.nr, R.pm, fun j ds e => ?_, fun j j' o o' => R.inj j j' (isOwn_set nd o).1 (isOwn_set nd o').1⟩
  obtain ⟨_, hj⟩ := isOwn_set nd ⟨ds, e⟩
  rw [List.getElem?_set_ne hj] at e
  obtain ⟨xs, h1, h2, h3, h4⟩ := R.own j ds e
  exact ⟨xs, by rw [List.getElem?_set_ne hj]; exact h1, h2, h3.sub sub, h4⟩
theorem RelS.setL : ∀ {is : List Nat} {vs : List V} {ds : List D} {σ : L2.St} {ev : Ev}, RelS K M r Pr σ H ev rs oa → DaL K (Av M ev oa) H vs ds → RelS K M r Pr (setV σ is vs) H (setE ev is ds) rs oa
  | [], _, _, _, _, R, _ => R
  | _ :: _, _, _, _, _, R, .nil => R
  | i :: is, _, _, σ, ev, R, .cons (d := d) h t => by
    refine RelS.setL (is := is) (R.set1 h) (t.sub fun b m => m.elim .inl fun ⟨j, o, e⟩ => .inr ⟨j, (isOwn_set (fun ds e => by cases e) o).1, e⟩)
theorem RelE.setAny {i : Nat} {o : Option V} {s : Slot} (hs : SlotAt K M r (σ.set i o) H i s) (R : RelE K M r σ H ev rs) : RelE K M r (σ.set i o) H (ev.set i s) rs := by
  refine ⟨R.mr, R.ml, R.row, fun j t e => ?_, by rw [List.length_set, List.length_set]; exact R.len⟩
  by_cases hj : i = j
  · subst hj
    have hl : i < ev.length := by
      have := (List.getElem?_eq_some_iff.mp e).1
      rwa [List.length_set] at this
    rw [List.getElem?_set_self hl] at e
    cases e
    exact hs
  · rw [List.getElem?_set_ne hj] at e
    have q := R.slots j t e
    cases t with
    | hid => trivial
    | own _ => trivial
    | dat d' => obtain ⟨u, e1, e2⟩ := q; exact ⟨u, by rw [List.getElem?_set_ne hj]; exact e1, e2⟩
    | row => show (σ.set i o)[j]? = _; rw [List.getElem?_set_ne hj]; exact q
/-- a new own list at slot i -/
theorem RelS.newOwn (R : RelS K M r Pr σ H ev rs oa) {i : Nat} {p : Addr} {xs : List V} {ds : List D} (hp : H p = none) (h : DaL K (Av M ev oa) H xs ds) :
    RelS K M r Pr (σ.set i (some (.ref p))) (upd H p (.lst xs)) (ev.set i (.own ds)) rs (fun j => if j = i then p else oa j) := by
  have ne : ∀ {b o}, H b = some o → b ≠ p := fun e => ne_of_none e hp
  have own_ne : ∀ {j}, i ≠ j → isOwn (ev.set i (.own ds)) j → isOwn ev j := fun {j} hj ⟨es, e⟩ => ⟨es, by rw [List.getElem?_set_ne hj] at e; exact e⟩
  have sub : ∀ b, Av M (ev.set i (.own ds)) (fun j => if j = i then p else oa j) b → And1 (Av M ev oa) p b := fun b m => by
    rcases m with m | ⟨j, o, e⟩
    · exact .inl (.inl m)
    · by_cases hj : i = j
      · subst hj
        exact .inr (by simpa using e)
      · replace e : b = if j = i then p else oa j := e
        rw [if_neg (Ne.symm hj)] at e
        exact .inl (.inr ⟨j, own_ne hj o, e⟩)
  have big : RelE K (And1 (Av M ev oa) p) r (σ.set i (some (.ref p))) (upd H p (.lst xs)) (ev.set i (.own ds)) rs := (R.e.and1 hp).setAny trivial
  have ext : ∀ {vs : List V} {es : List D}, DaL K (Av M ev oa) H vs es → DaL K (Av M (ev.set i (.own ds)) (fun j => if j = i then p else oa j)) (upd H p (.lst xs)) vs es := fun h => ((h.ext (M' := And1 (Av M ev oa) p) fun b m => m.elim .inl fun e => .inr (by rw [e]; exact hp)).same (same_upd hp)).sub sub
  have rp : p ≠ r.a := fun z => by
    have q := R.e.row.1.1
    rw [← z, hp] at q; cases q
  refine ⟨big.sub sub (.inl R.mr), R.mr, fun b o q => same_upd hp b o (R.prot b o q), R.nr, R.pm, fun j es e => ?_, fun j j' o o' e => ?_⟩
  · by_cases hj : i = j
    · subst hj
      have hl : i < ev.length := by
        have := (List.getElem?_eq_some_iff.mp e).1
        rwa [List.length_set] at this
      rw [List.getElem?_set_self hl] at e
      cases e
      rw [if_pos rfl]
      refine ⟨xs, List.getElem?_set_self (Nat.lt_of_lt_of_le hl R.e.len), upd_same, ext h, fun o q => ?_, rp⟩
      have z := R.prot _ _ q
      rw [hp] at z; cases z
    · rw [List.getElem?_set_ne hj] at e
      obtain ⟨ys, h1, h2, h3, h4⟩ := R.own j es e
      rw [if_neg (Ne.symm hj)]
      exact ⟨ys, by rw [List.getElem?_set_ne hj]; exact h1, same_upd hp _ _ h2, ext h3, h4⟩
  · by_cases hj : i = j
    · by_cases hj' : i = j'
      · rw [← hj, ← hj']
      · obtain ⟨es, q⟩ := own_ne hj' o'
        obtain ⟨ys, _, h2, _⟩ := R.own j' es q
        simp only [hj, if_pos, if_neg (Ne.symm hj')] at e
        subst hj
        rw [if_neg (Ne.symm hj')] at e
        exact absurd e.symm (ne h2)
    · by_cases hj' : i = j'
      · obtain ⟨es, q⟩ := own_ne hj o
        obtain ⟨ys, _, h2, _⟩ := R.own j es q
        subst hj'
        simp only [if_pos, if_neg (Ne.symm hj)] at e
        exact absurd e (ne h2)
      · simp only [if_neg (Ne.symm hj), if_neg (Ne.symm hj')] at e
        exact R.inj j j' (own_ne hj o) (own_ne hj' o') e
/-- an own list changes -/
theorem RelS.mut (R : RelS K M r Pr σ H ev rs oa) {i : Nat} {ds es : List D} {ys : List V} (hi : ev[i]? = some (.own ds)) (h : DaL K (Av M ev oa) H ys es) : RelS K M r Pr σ (upd H (oa i) (.lst ys)) (ev.set i (.own es)) rs oa := by
  obtain ⟨xs, g1, g2, g3, g4, g5⟩ := R.own i ds hi
  have hl : i < ev.length := (List.getElem?_eq_some_iff.mp hi).1
  have io : isOwn ev i := ⟨ds, hi⟩
  have kp : Kp (Av M ev oa) H (upd H (oa i) (.lst ys)) := fun b o n e => by rw [upd_ne fun z => n (.inr ⟨i, io, z⟩)]; exact e
  have own_iff : ∀ {j}, isOwn (ev.set i (.own es)) j → isOwn ev j := fun {j} ⟨fs, e⟩ => by
    by_cases hj : i = j
    · rw [← hj]; exact io
    · rw [List.getElem?_set_ne hj] at e; exact ⟨fs, e⟩
  have sub : ∀ b, Av M (ev.set i (.own es)) oa b → Av M ev oa b := fun b m => m.elim .inl fun ⟨j, o, e⟩ => .inr ⟨j, own_iff o, e⟩
  have ml : Ml (Av M ev oa) (upd H (oa i) (.lst ys)) := fun b m => by
    by_cases hb : b = oa i
    · exact ⟨ys, by rw [hb]; exact upd_same⟩
    · obtain ⟨zs, e⟩ := R.e.ml b m
      exact ⟨zs, by rw [upd_ne hb]; exact e⟩
  have big : RelE K (Av M ev oa) r σ (upd H (oa i) (.lst ys)) (ev.set i (.own es)) rs := by
    refine ⟨R.e.mr, ml, ⟨⟨by rw [upd_ne (Ne.symm g5)]; exact R.e.row.1.1, R.e.row.1.2⟩, sqlm_kp R.e.row.2 kp⟩, fun j t e => ?_, by rw [List.length_set]; exact R.e.len⟩
    by_cases hj : i = j
    · subst hj
      rw [List.getElem?_set_self hl] at e
      cases e
      trivial
    · rw [List.getElem?_set_ne hj] at e
      exact (R.e.slots j t e).kp R.e.ml kp
  refine ⟨big.sub sub (.inl R.mr), R.mr, fun b o q => ?_, R.nr, R.pm, fun j fs e => ?_, fun j j' o o' => R.inj j j' (own_iff o) (own_iff o')⟩
  · rw [upd_ne fun z => g4 o (by rw [← z]; exact q)]
    exact R.prot b o q
  · by_cases hj : i = j
    · subst hj
      rw [List.getElem?_set_self hl] at e
      cases e
      exact ⟨ys, g1, upd_same, (h.kp R.e.ml kp).sub sub, g4, g5⟩
    · rw [List.getElem?_set_ne hj] at e
      obtain ⟨zs, h1, h2, h3, h4⟩ := R.own j fs e
      have ne : oa j ≠ oa i := fun z => hj (R.inj i j io ⟨fs, e⟩ z.symm)
      exact ⟨zs, h1, by rw [upd_ne ne]; exact h2, (h3.kp R.e.ml kp).sub sub, h4⟩
end
end DL
namespace DL
open PySem PySem.Spec PyProof.Rows L2
section
variable {G : Gm} {k : Nat} {sc : Sx} {N : List Str}
variable {K : PySem.W.Frag} {mg : Str → Option Value} {M : Addr → Prop} {H H' H1 : Hp} {r : Rw} {σ σ' : L2.St} {ev ev' : Ev} {rs rs' : RS} {W : WX} {Pr : Addr → HO → Prop} {oa : Nat → Addr}
def SS (G : Gm) (k : Nat) (sc : Sx) (N : List Str) (st : Stmt) (f : Ev → Ms) : Prop := ∀ (X : Cx) (W : WX), Gd G k sc N X → Takes X W → PassesOwn (model X.prog X.w) X.A X.env X.xe → PS X st (tS G.K G.mg W f)
def SB (G : Gm) (k : Nat) (sc : Sx) (N : List Str) (st : List Stmt) (f : Ev → Ms) : Prop := ∀ (X : Cx) (W : WX), Gd G k sc N X → Takes X W → PassesOwn (model X.prog X.w) X.A X.env X.xe → PSs X st (tS G.K G.mg W f)
def sNil (ev : Ev) : Ms := fun rs => some (.nx ev, rs)
def seqM (f g : Ev → Ms) (ev : Ev) : Ms := fun rs => match f ev rs with
  | some (.nx ev', rs') => g ev' rs'
  | q => q
theorem s_nil : SB G k sc N [] sNil := fun X W g tk po => pss_imp pss_nil fun D σ H h => by
  obtain ⟨M, r, Pr, ev, rs, oa, R, o, rs', e, w⟩ := h
  cases e
  exact w σ H oa R
theorem seqM_some {f g : Ev → Ms} {o : Res} (h : seqM f g ev rs = some (o, rs')) : (∃ ev1 rs1, f ev rs = some (.nx ev1, rs1) ∧ g ev1 rs1 = some (o, rs')) ∨ (f ev rs = some (o, rs') ∧ ∀ e, o ≠ .nx e) := by
  unfold seqM at h
  split at h
  · rename_i ev1 rs1 e; exact .inl ⟨ev1, rs1, e, h⟩
  · rename_i q hq
    refine .inr ⟨h, fun e1 e2 => ?_⟩
    subst e2
    exact hq _ _ h
theorem s_cons {st : Stmt} {rest : List Stmt} {f g : Ev → Ms} (h1 : SS G k sc N st f) (h2 : SB G k sc N rest g) : SB G k sc N (st :: rest) (seqM f g) := fun X W gd tk po => by
  refine pss_imp (pss_cons (h1 X W gd tk po) (h2 X W gd tk po)) fun D σ H h => ?_
  obtain ⟨M, r, Pr, ev, rs, oa, R, o, rs', e, w⟩ := h
  rcases seqM_some e with ⟨ev1, rs1, e1, e2⟩ | ⟨e1, hn⟩
  · exact ⟨M, r, Pr, ev, rs, oa, R, .nx ev1, rs1, e1, fun σ1 H1 oa1 R1 => ⟨M, r, Pr, ev1, rs1, oa1, R1, o, rs', e2, w⟩⟩
  · refine ⟨M, r, Pr, ev, rs, oa, R, o, rs', e1, ?_⟩
    cases o with
    | nx e' => exact absurd rfl (hn e')
    | ret d => exact w
    | bk e => exact w
    | ct e => exact w
    | exc x i => exact w
theorem s_one {st : Stmt} {f : Ev → Ms} (h1 : SS G k sc N st f) : SB G k sc N [st] f := fun X W gd tk po => pss_one (h1 X W gd tk po)
def bnS {α : Type} (m : Mn α) (f : α → Ms) : Ms := fun rs => match m rs with
  | none => none
  | some (.val a, rs') => f a rs'
  | some (.exc x i, rs') => some (.exc x i, rs')
theorem bnS_some {α : Type} {m : Mn α} {f : α → Ms} {o : Res} (h : bnS m f rs = some (o, rs')) : (∃ a rs1, m rs = some (.val a, rs1) ∧ f a rs1 = some (o, rs')) ∨ ∃ x i, m rs = some (.exc x i, rs') ∧ o = .exc x i := by
  unfold bnS at h
  split at h
  · cases h
  · rename_i a rs1 e; exact .inl ⟨a, rs1, e, h⟩
  · rename_i x i rs1 e; cases h; exact .inr ⟨x, i, e, rfl⟩
/-- own lists in sight: what is kept must be free of lists -/
def dyn (f : Ev → Mn D) (ev : Ev) : Mn D := fun rs => match f ev rs with
  | some q => some q
  | none => match f (lend ev) rs with
    | some (.val d, rs') => if noL d = true then some (.val d, rs') else none
    | _ => none
theorem RelS.dynE (R : RelS K M r Pr σ H ev rs oa) {f : Ev → Mn D} {o : Out D} {Q : VK} (e : dyn f ev rs = some (o, rs'))
    (cv : ∀ d, o = .val d → ∀ v H', RelS K M r Pr σ H' ev rs' oa → Stp r H H' → Da K (Av M ev oa) H' v d → Q v H') (cx : ∀ x i, o = .exc x i → ∀ cls dd σ H, PrK Pr H → RowAt K M H r rs' → ExA mg x i cls dd H → W cls dd σ H) : tE K mg W f σ H Q := by
  unfold dyn at e
  split at e
  · rename_i q eq
    cases e
    exact R.evE R.e (fun b m => .inl m) eq cv cx
  · split at e
    · rename_i d rs1 eq
      split at e
      · rename_i hn
        cases e
        exact R.evE R.lent (fun b m => m) eq (fun d' ed v H' R' s dv => cv d' ed v H' R' s (by cases ed; exact dv.any hn)) cx
      · cases e
    · cases e
def sSet (i : Nat) (f : Ev → Mn D) (ev : Ev) : Ms := bnS (dyn f ev) fun d rs => some (.nx (ev.set i (.dat d)), rs)
/-- a, b = e (e a tuple as data) -/
def sTgt (t : Tgt) (f : Ev → Mn D) (ev : Ev) : Ms := bnS (bnd (dyn f ev) fun d => lft (t.of d)) fun ds rs => some (.nx (setE ev t.ix ds), rs)
/-- a new list of the frame's own: x = [..] -/
def sOwn (i : Nat) (f : Ev → Mn (List Slot)) (ev : Ev) : Ms := bnS (bnd (f ev) fun ss => lft (if ss.length ≤ sizeLine then dats ss else none)) fun ds rs => some (.nx (ev.set i (.own ds)), rs)
theorem s_own (i : Nat) {x : Str} {es : List Expr} {p p' p2 : Pos} {f : Ev → Mn (List Slot)} (h : SA G k sc N es f) (hi : N[i]? = some x := by rfl) (hl : locB sc x = true := by rfl)
    (hs : ∀ env, env.scope = sc.sc → swapsWith (.List es p2) (some (.Name x p')) p.line env = pure false := by intro env h; first | rfl | (cases env; cases h; rfl)) : SS G k sc N (.Assign [.Name x p'] (.List es p2) p) (sOwn i f) := fun X W g tk po => by
  refine ps_imp (ps_set (i := i) (by rw [g.hN]; exact g.nd) (by rw [g.hN]; exact hi) (loc_of g hl).1 (pe_lst (h X W g tk)) (hs _ g.hsc) (loc_of g hl).2) fun D σ H h => ?_
  obtain ⟨M, r, Pr, ev, rs, oa, R, o, rs', e, w⟩ := h
  show tAr G.K G.mg W f σ H _
  rcases bnS_some e with ⟨ds, rs1, e1, e2⟩ | ⟨x, j, e1, rfl⟩
  · cases e2
    rcases bnd_some e1 with ⟨ss, rs2, e3, e4⟩ | ⟨_, _, _, e4⟩
    · obtain ⟨ds', e5, e6, rfl⟩ := lft_some e4
      cases e6
      split at e5
      · rename_i hl
        refine ⟨_, r, ev, rs, R.e, .val ss, _, e3, fun H1 s1 w1 vs hvs => ⟨by rw [hvs.length]; exact hl, fun q hq => ?_⟩⟩
        have R1 := R.stp s1 w1
        exact w _ _ _ (R1.newOwn hq (hvs.dats e5))
      · cases e5
    · cases e4
  · rcases bnd_some e1 with ⟨d, rs2, e3, e4⟩ | ⟨y, j', e3, e4⟩
    · obtain ⟨ds', e5, e6, rfl⟩ := lft_some e4
      cases e6
    · cases e4
      refine ⟨_, r, ev, rs, R.e, .exc x j, rs', e3, fun cls dd H' s w1 a => w cls dd σ H' (R.stp s w1).prot (row_sub w1 fun b m => .inl m) a⟩
/-- x += e, ints -/
def sAug (i : Nat) (f : Ev → Mn D) (op : Int → Int → Int) (ev : Ev) : Ms := bnS (bnd (lft (getE ev i)) fun a => bnd (f (lend ev)) fun b => lft (match a, b with
  | .int x, .int y => some (PyData.int (op x y))
  | _, _ => none)) fun d rs => some (.nx (ev.set i (.dat d)), rs)
def sRet (f : Ev → Mn D) (ev : Ev) : Ms := bnS (f (lend ev)) fun d rs => some (.ret d, rs)
theorem s_ret {e : Expr} {p : Pos} {f : Ev → Mn D} (h : SE G k sc N e f) : SS G k sc N (.Return (some e) p) (sRet f) := fun X W g tk po => by
  refine ps_imp (ps_ret (h X W g tk)) fun D σ H h => ?_
  obtain ⟨M, r, Pr, ev, rs, oa, R, o, rs', e, w⟩ := h
  rcases bnS_some e with ⟨d, rs1, e1, e2⟩ | ⟨x, j, e1, rfl⟩
  · cases e2
    refine ⟨M, r, lend ev, rs, R.lent, .val d, rs', e1, fun H' s w1 v dv => w v H' (R.stp s w1).prot w1 dv⟩
  · exact R.evE R.lent (fun b m => m) e1 (fun _ ed => by cases ed) fun y j ed => by cases ed; exact w
def sRetN (_ : Ev) : Ms := fun rs => some (.ret .none, rs)
def sBk (ev : Ev) : Ms := fun rs => some (.bk ev, rs)
def sCt (ev : Ev) : Ms := fun rs => some (.ct ev, rs)
def sDrop (f : Ev → Mn D) (ev : Ev) : Ms := bnS (f (lend ev)) fun _ rs => some (.nx ev, rs)
def sIf (t : Ev → Mn Bool) (f g : Ev → Ms) (ev : Ev) : Ms := bnS (t (lend ev)) fun c => if c = true then f ev else g ev
theorem s_if {c : Expr} {a b : List Stmt} {p : Pos} {t : Ev → Mn Bool} {f g : Ev → Ms} (hc : ST G k sc N c t) (ha : SB G k sc N a f) (hb : SB G k sc N b g) : SS G k sc N (.If c a b p) (sIf t f g) := fun X W gd tk po => by
  refine ps_imp (ps_if (hc X W gd tk) (ha X W gd tk po) (hb X W gd tk po)) fun D σ H h => ?_
  obtain ⟨M, r, Pr, ev, rs, oa, R, o, rs', e, w⟩ := h
  rcases bnS_some e with ⟨c, rs1, e1, e2⟩ | ⟨x, j, e1, rfl⟩
  · refine R.evT e1 (fun c' ec H' R' => ?_) fun _ _ ed => by cases ed
    cases ec
    cases c with
    | true => rw [if_pos rfl] at e2; rw [if_pos rfl]; exact ⟨M, r, Pr, ev, rs1, oa, R', o, rs', e2, w⟩
    | false => rw [if_neg (by decide)] at e2; rw [if_neg (by decide)]; exact ⟨M, r, Pr, ev, rs1, oa, R', o, rs', e2, w⟩
  · exact R.evT e1 (fun _ ed => by cases ed) fun y j ed => by cases ed; exact w
end
end DL
namespace DL
open PySem PySem.Spec PyProof.Rows L2
section
variable {G : Gm} {k : Nat} {sc : Sx} {N : List Str}
variable {K : PySem.W.Frag} {mg : Str → Option Value} {M : Addr → Prop} {H H' H1 : Hp} {r : Rw} {σ σ' : L2.St} {ev ev' : Ev} {rs rs' : RS} {W : WX} {Pr Pr' : Addr → HO → Prop} {oa : Nat → Addr}
theorem RelS.weak (R : RelS K M r Pr' σ H ev rs oa) (h : ∀ b o, Pr b o → Pr' b o) (pm : ∀ b, M b → b ≠ r.a → ∃ xs, Pr b (.lst xs)) : RelS K M r Pr σ H ev rs oa :=
  ⟨R.e, R.mr, fun b o p => R.prot b o (h b o p), fun o p => R.nr o (h _ o p), pm, fun i ds e => by
    obtain ⟨xs, h1, h2, h3, h4, h5⟩ := R.own i ds e
    exact ⟨xs, h1, h2, h3, fun o p => h4 o (h _ o p), h5⟩, R.inj⟩
/-- what stands at the loop's start is kept through it -/
def PrL (M : Addr → Prop) (r : Rw) (Pr : Addr → HO → Prop) (H : Hp) (ev : Ev) (oa : Nat → Addr) : Addr → HO → Prop := fun b o => Pr b o ∨ (H b = some o ∧ ¬ Av M ev oa b)
theorem RelS.loop (R : RelS K M r Pr σ H ev rs oa) : RelS K M r (PrL M r Pr H ev oa) σ H ev rs oa :=
  ⟨R.e, R.mr, fun b o p => p.elim (R.prot b o) fun q => q.1, fun o p => p.elim (R.nr o) fun q => q.2 (.inl R.mr), fun b m n => by
    obtain ⟨xs, p⟩ := R.pm b m n
    exact ⟨xs, .inl p⟩, fun i ds e => by
    obtain ⟨xs, h1, h2, h3, h4, h5⟩ := R.own i ds e
    exact ⟨xs, h1, h2, h3, fun o p => p.elim (h4 o) fun q => q.2 (.inr ⟨i, ⟨ds, e⟩, rfl⟩), h5⟩, R.inj⟩
def forGo (t : Tgt) (body : Ev → Ms) : List D → Ev → Ms
  | [], ev => fun rs => some (.nx ev, rs)
  | d :: ds, ev => fun rs => match t.of d with
    | none => none
    | some es => match body (setE ev t.ix es) rs with
      | some (.nx ev', rs') => forGo t body ds ev' rs'
      | some (.ct ev', rs') => forGo t body ds ev' rs'
      | some (.bk ev', rs') => some (.nx ev', rs')
      | some (.ret d, rs') => some (.ret d, rs')
      | some (.exc x i, rs') => some (.exc x i, rs')
      | none => none
def sFor (fz : Bool) (src : Ev → Mn (List D)) (t : Tgt) (body : Ev → Ms) (ev : Ev) : Ms := bnS (src (if fz = true then lend ev else ev)) fun ds => forGo t body ds (if fz = true then lend ev else ev)
theorem s_for (fz : Bool) {tg iter : Expr} {body : List Stmt} {p : Pos} {src : Ev → Mn (List D)} {t : Tgt} {f : Ev → Ms} (hi : SI G k sc N tg iter src) (ht : PGt G k sc N tg t) (hb : SB G k sc N body f) (hs : ∀ env x, foldedSetIterable iter env x = pure x := by intro _ _; rfl) :
    SS G k sc N (.For tg iter body [] p) (sFor fz src t f) := fun X W g tk po => by
  obtain ⟨u, hu1, hu2⟩ := ht
  refine ps_imp (ps_for po g.calm (hi X W g tk) (hu1 X g) (hb X W g tk po) (hs _)) fun D σ H h => ?_
  obtain ⟨M, r, Pr, ev0, rs, oa, R0, o, rs', e, w⟩ := h
  obtain ⟨ev, eev⟩ : ∃ ev, ev = if fz = true then lend ev0 else ev0 := ⟨_, rfl⟩
  have R : RelS G.K M r Pr σ H ev rs oa := by
    rw [eev]
    split
    · exact R0.freeze
    · exact R0
  unfold sFor at e
  rw [← eev] at e
  rcases bnS_some e with ⟨ds, rs1, e1, e2⟩ | ⟨x, j, e1, rfl⟩
  · refine ⟨_, r, ev, rs, R.e, .val ds, rs1, e1, fun H1 s1 w1 ml1 J jok => ?_⟩
    have R1 : RelS G.K M r Pr σ H1 ev rs1 oa := R.stp s1 w1
    refine ⟨fun i m σ H => m = ds.length - i ∧ i ≤ ds.length ∧ ∃ ev' rs2 oa', RelS G.K M r (PrL M r Pr H1 ev oa) σ H ev' rs2 oa' ∧ forGo t f (ds.drop i) ev' rs2 = some (o, rs'), ⟨_, rfl, Nat.zero_le _, ev, rs1, oa, R1.loop, e2⟩, ?_⟩
    rintro i m σ2 H2 ⟨rfl, hil, ev2, rs2, oa2, R2, hgo⟩
    have kp : Kp (Av M ev oa) H1 H2 := fun b o n q => R2.prot b o (.inr ⟨q, n⟩)
    by_cases hlt : i < ds.length
    · have hd := List.getElem?_eq_getElem hlt
      refine .inr ⟨jok.go H2 kp i _ hd, fun σ' H' => ds.length - (i + 1) = ds.length - (i + 1) ∧ i + 1 ≤ ds.length ∧ ∃ ev' rs2 oa', RelS G.K M r (PrL M r Pr H1 ev oa) σ' H' ev' rs2 oa' ∧ forGo t f (ds.drop (i + 1)) ev' rs2 = some (o, rs'), fun σ' H' q => ⟨_, by omega, q⟩, fun x H3 hy => ?_⟩
      obtain ⟨sm3, dx⟩ := jok.yld (Av M ev2 oa2) H2 kp (fun b z => by
        rcases z with z | ⟨j, ⟨es, ej⟩, eb⟩
        · exact .inl (.inl z)
        · obtain ⟨xs, _, _, _, np, _⟩ := R2.own j es ej
          by_cases ha : Av M ev oa b
          · exact .inl ha
          · cases q : H1 b with
            | none => exact .inr rfl
            | some o => exact absurd (.inr ⟨by rw [← eb]; exact q, by rw [← eb]; exact ha⟩) (np o)) i _ x H3 hd hy
      rw [List.drop_eq_getElem_cons hlt] at hgo
      have R3 : RelS G.K M r (PrL M r Pr H1 ev oa) σ2 H3 ev2 rs2 oa2 := R2.stp (M' := Av M ev2 oa2) (.of_same sm3) (row_same R2.e.row sm3)
      unfold forGo at hgo
      split at hgo
      · cases hgo
      · rename_i es ht1
        refine hu2 _ _ _ _ _ _ _ dx ht1 fun vs hvs => ?_
        have R4 := R3.setL (is := t.ix) hvs
        have prk : ∀ {H'}, PrK (PrL M r Pr H1 ev oa) H' → PrK Pr H' := fun q b o p => q b o (.inl p)
        cases hbd : f (setE ev2 t.ix es) rs2 with
        | none => rw [hbd] at hgo; cases hgo
        | some q =>
          obtain ⟨ro, rs3⟩ := q
          rw [hbd] at hgo
          refine ⟨M, r, _, _, rs2, oa2, R4, ro, rs3, hbd, ?_⟩
          cases ro with
          | nx ev' => exact fun σ' H' oa' R' => ⟨rfl, hlt, ev', rs3, oa', R', hgo⟩
          | ct ev' => exact fun σ' H' oa' R' => ⟨rfl, hlt, ev', rs3, oa', R', hgo⟩
          | bk ev' => cases hgo; exact fun σ' H' oa' R' => w σ' H' oa' (R'.weak (fun b o p => .inl p) R.pm)
          | ret d => cases hgo; exact fun v H' pk row da => w v H' (prk pk) row da
          | exc x i => cases hgo; exact fun cls dd σ' H' pk row a => w cls dd σ' H' (prk pk) row a
    · have ei : i = ds.length := by omega
      subst ei
      rw [List.drop_length] at hgo
      cases hgo
      exact .inl ⟨jok.stop H2 kp, w σ2 H2 oa2 (R2.weak (fun b o p => .inl p) R.pm)⟩
  · exact ⟨_, r, ev, rs, R.e, .exc x j, rs', e1, fun cls dd H' s w1 a => w cls dd σ H' (R.stp s w1).prot (row_sub w1 fun b m => .inl m) a⟩
def whileN (t : Ev → Mn Bool) (body : Ev → Ms) : Nat → Ev → Ms
  | 0, _ => fun _ => none
  | n + 1, ev => bnS (t (lend ev)) fun c => if c = true then (fun rs => match body ev rs with
      | some (.nx ev', rs') => whileN t body n ev' rs'
      | some (.ct ev', rs') => whileN t body n ev' rs'
      | some (.bk ev', rs') => some (.nx ev', rs')
      | some (.ret d, rs') => some (.ret d, rs')
      | some (.exc x i, rs') => some (.exc x i, rs')
      | none => none) else fun rs => some (.nx ev, rs)
theorem s_while (n : Nat) {c : Expr} {body : List Stmt} {p : Pos} {t : Ev → Mn Bool} {f : Ev → Ms} (hc : ST G k sc N c t) (hb : SB G k sc N body f) : SS G k sc N (.While c body [] p) (whileN t f n) := fun X W g tk po => by
  refine ps_imp (ps_while po (hc X W g tk) (hb X W g tk po)) fun D σ H h => ?_
  obtain ⟨M, r, Pr, ev, rs, oa, R, o, rs', e, w⟩ := h
  refine ⟨fun m σ H => ∃ ev rs oa, RelS G.K M r Pr σ H ev rs oa ∧ whileN t f m ev rs = some (o, rs'), ⟨n, ev, rs, oa, R, e⟩, ?_⟩
  rintro m σ2 H2 ⟨ev2, rs2, oa2, R2, e2⟩
  cases m with
  | zero => cases e2
  | succ m =>
    rcases bnS_some e2 with ⟨c, rs3, e3, e4⟩ | ⟨x, j, e3, rfl⟩
    · refine R2.evT e3 (fun c' ec H' R' => ?_) fun _ _ ed => by cases ed
      cases ec
      cases c with
      | false => rw [if_neg (by decide)] at e4; rw [if_neg (by decide)]; cases e4; exact w _ _ _ R'
      | true =>
        rw [if_pos rfl] at e4; rw [if_pos rfl]
        refine ⟨fun σ H => ∃ ev rs oa, RelS G.K M r Pr σ H ev rs oa ∧ whileN t f m ev rs = some (o, rs'), fun σ' H' q => ⟨m, Nat.lt_succ_self m, q⟩, ?_⟩
        cases hbd : f ev2 rs3 with
        | none => rw [hbd] at e4; cases e4
        | some q =>
          obtain ⟨ro, rs4⟩ := q
          rw [hbd] at e4
          refine ⟨M, r, Pr, ev2, rs3, oa2, R', ro, rs4, hbd, ?_⟩
          cases ro with
          | nx ev' => exact fun σ' H' oa' R' => ⟨ev', rs4, oa', R', e4⟩
          | ct ev' => exact fun σ' H' oa' R' => ⟨ev', rs4, oa', R', e4⟩
          | bk ev' => cases e4; exact w
          | ret d => cases e4; exact w
          | exc x i => cases e4; exact w
    · exact R2.evT e3 (fun _ ed => by cases ed) fun y j ed => by cases ed; exact w
def getO (ev : Ev) (i : Nat) : Option (List D) := match ev[i]? with
  | some (.own ds) => some ds
  | _ => none
theorem getO_some {i : Nat} {ds : List D} (h : getO ev i = some ds) : ev[i]? = some (.own ds) := by
  unfold getO at h
  split at h
  · rename_i e; cases h; exact e
  · cases h
def sApp (i : Nat) (f : Ev → Mn D) (ev : Ev) : Ms := bnS (bnd (lft (getO ev i)) fun ds => bnd (dyn f ev) fun d => lft (if ds.length < sizeLine then some (ds ++ [d]) else none)) fun es rs => some (.nx (ev.set i (.own es)), rs)
theorem pe_at {X : Cx} {i : Nat} {x : Str} {p : Pos} (g : Gd G k sc N X) (hi : N[i]? = some x) (hv : visB sc x = true) (hd : (x == ("__debug__" : Str)) = false) (hcd : (x == ("__classdict__" : Str)) = false) : PE X (.Name x p) (tVar i) :=
  pe_var (i := i) (by rw [g.hN]; exact hi) (by rw [g.hsc]; exact vis_of hv) hd hcd
theorem RelS.at1 (R : RelS K M r Pr σ H ev rs oa) {i : Nat} {ds : List D} (h : getO ev i = some ds) : ∃ xs, σ[i]? = some (some (.ref (oa i))) ∧ H (oa i) = some (.lst xs) ∧ DaL K (Av M ev oa) H xs ds ∧ oa i ≠ r.a := by
  obtain ⟨xs, h1, h2, h3, _, h5⟩ := R.own i ds (getO_some h)
  exact ⟨xs, h1, h2, h3, h5⟩
theorem s_app (i : Nat) {x : Str} {e : Expr} {p1 p2 p3 p4 : Pos} {f : Ev → Mn D} (h : SE G k sc N e f) (hi : N[i]? = some x := by rfl) (hv : visB sc x = true := by rfl) (hd : (x == ("__debug__" : Str)) = false := by decide) (hcd : (x == ("__classdict__" : Str)) = false := by decide)
    (hs : ∀ env, swapsWith (.Call (.Attribute (.Name x p1) "append" p2) [e] [] p3) none p4.line env = pure false := by intro _; rfl) (h1 : ∀ env, starEach [e] env = (false, eval e env) :: starEach [] env := by intro _; rfl)
    (hf : ∀ env, ((backTo p3 (starEach [e] env)).all (fun x => !x.1) && (backToKw p3 (keywordEach [] env)).all (fun x => x.1.isSome) && decide (([e] : List Expr).length + ([] : List Keyword).length + (if ([] : List Keyword).isEmpty then 0 else 1) < 30)) = true := by intro _; rfl)
    (hl : (p2.endLine == p3.line) = true := by rfl) : SS G k sc N (.Expr (.Call (.Attribute (.Name x p1) "append" p2) [e] [] p3) p4) (sApp i f) := fun X W g tk po => by
  refine ps_imp (ps_expr (pe_bm PySem.F.plainAttrs_list PySem.F.slot_list_append PySem.F.type_list_append mt_append (pe_at g hi hv hd hcd) (pa_cons (h X W g tk) pa_nil (h1 _)) (by rfl) (hf _) hl (h1 _) (by rfl)) (hs _)) fun D σ H h => ?_
  obtain ⟨M, r, Pr, ev, rs, oa, R, o, rs', e, w⟩ := h
  have key : ∀ {ds : List DL.D} {o1 : Out (List DL.D)} {rs1 : RS}, getO ev i = some ds → (bnd (dyn f ev) fun d => lft (if ds.length < sizeLine then some (ds ++ [d]) else none)) rs = some (o1, rs1) →
      (∀ es, o1 = .val es → WanS G.K G.mg M r Pr rs1 W D (.nx (ev.set i (.own es)))) → (∀ x j, o1 = .exc x j → WanS G.K G.mg M r Pr rs1 W D (.exc x j)) →
      tDrop (tBM X.K "list" rAppend (tVar i) (tCons (tE G.K G.mg W f) tNil)) D σ H := fun {ds o1 rs1} hg hb cv cx => by
    obtain ⟨xs, a1, a2, a3, a5⟩ := R.at1 hg
    refine ⟨_, a1, .inl ⟨rfl, _, .of a2⟩, ?_⟩
    rcases bnd_some hb with ⟨d, rs2, e3, e4⟩ | ⟨y, j, e3, rfl⟩
    · obtain ⟨es, e5, rfl, rfl⟩ := lft_some e4
      split at e5
      · rename_i hlt
        cases e5
        refine R.dynE e3 (fun d' ed v H' R' s dv => ?_) fun _ _ ed => by cases ed
        cases ed
        obtain ⟨xs', b1, b2, b3, b5⟩ := R'.at1 hg
        rw [s _ _ a5 a2] at b2
        cases b2
        refine ⟨_, xs, v, rfl, rfl, s _ _ a5 a2, by rw [b3.length]; exact hlt, cv _ rfl _ _ oa (R'.mut (getO_some hg) (b3.append (.cons dv .nil)))⟩
      · cases e5
    · exact R.dynE e3 (fun _ ed => by cases ed) fun y j ed => by cases ed; exact cx _ _ rfl
  rcases bnS_some e with ⟨es, rs1, e1, e2⟩ | ⟨y, j, e1, rfl⟩
  · cases e2
    obtain ⟨ds, hg, hb⟩ := bnd_lft e1
    exact key hg hb (fun _ q => by cases q; exact w) fun _ _ q => by cases q
  · obtain ⟨ds, hg, hb⟩ := bnd_lft e1
    exact key hg hb (fun _ q => by cases q) fun _ _ q => by cases q; exact w
/-- x.extend(e), e a list -/
def lstD : D → Option (List D)
  | .list ds => some ds
  | _ => none
def sExt (i : Nat) (f : Ev → Mn D) (ev : Ev) : Ms := bnS (bnd (lft (getO ev i)) fun ds => bnd (f ev) fun d => lft ((lstD d).bind fun es => if ds.length + es.length ≤ sizeLine then some (ds ++ es) else none)) fun es rs => some (.nx (ev.set i (.own es)), rs)
theorem s_ext (i : Nat) {x : Str} {e : Expr} {p1 p2 p3 p4 : Pos} {f : Ev → Mn D} (h : SE G k sc N e f) (hi : N[i]? = some x := by rfl) (hv : visB sc x = true := by rfl) (hd : (x == ("__debug__" : Str)) = false := by decide) (hcd : (x == ("__classdict__" : Str)) = false := by decide)
    (hs : ∀ env, swapsWith (.Call (.Attribute (.Name x p1) "extend" p2) [e] [] p3) none p4.line env = pure false := by intro _; rfl) (h1 : ∀ env, starEach [e] env = (false, eval e env) :: starEach [] env := by intro _; rfl)
    (hf : ∀ env, ((backTo p3 (starEach [e] env)).all (fun x => !x.1) && (backToKw p3 (keywordEach [] env)).all (fun x => x.1.isSome) && decide (([e] : List Expr).length + ([] : List Keyword).length + (if ([] : List Keyword).isEmpty then 0 else 1) < 30)) = true := by intro _; rfl)
    (hl : (p2.endLine == p3.line) = true := by rfl) : SS G k sc N (.Expr (.Call (.Attribute (.Name x p1) "extend" p2) [e] [] p3) p4) (sExt i f) := fun X W g tk po => by
  refine ps_imp (ps_expr (pe_bm PySem.F.plainAttrs_list PySem.F.slot_list_extend PySem.F.type_list_extend mt_extend (pe_at g hi hv hd hcd) (pa_cons (h X W g tk) pa_nil (h1 _)) (by rfl) (hf _) hl (h1 _) (by rfl)) (hs _)) fun D σ H h => ?_
  obtain ⟨M, r, Pr, ev, rs, oa, R, o, rs', e, w⟩ := h
  have key : ∀ {ds : List DL.D} {o1 : Out (List DL.D)} {rs1 : RS}, getO ev i = some ds → (bnd (f ev) fun d => lft ((lstD d).bind fun es => if ds.length + es.length ≤ sizeLine then some (ds ++ es) else none)) rs = some (o1, rs1) →
      (∀ es, o1 = .val es → WanS G.K G.mg M r Pr rs1 W D (.nx (ev.set i (.own es)))) → (∀ x j, o1 = .exc x j → WanS G.K G.mg M r Pr rs1 W D (.exc x j)) →
      tDrop (tBM X.K "list" rExtend (tVar i) (tCons (tE G.K G.mg W f) tNil)) D σ H := fun {ds o1 rs1} hg hb cv cx => by
    obtain ⟨xs, a1, a2, a3, a5⟩ := R.at1 hg
    refine ⟨_, a1, .inl ⟨rfl, _, .of a2⟩, ?_⟩
    rcases bnd_some hb with ⟨d, rs2, e3, e4⟩ | ⟨y, j, e3, rfl⟩
    · obtain ⟨es, e5, rfl, rfl⟩ := lft_some e4
      cases hd : lstD d with
      | none => rw [hd] at e5; cases e5
      | some fs =>
        rw [hd] at e5
        replace e5 : (if ds.length + fs.length ≤ sizeLine then some (ds ++ fs) else none) = some es := e5
        split at e5
        · rename_i hlt
          cases e5
          refine R.evE R.e (fun b m => .inl m) e3 (fun d' ed v H' R' s dv => ?_) fun _ _ ed => by cases ed
          cases ed
          obtain ⟨xs', b1, b2, b3, b5⟩ := R'.at1 hg
          rw [s _ _ a5 a2] at b2
          cases b2
          cases dv with
          | lst q1 q2 q3 =>
            cases hd
            refine ⟨_, _, xs, _, rfl, rfl, s _ _ a5 a2, q1, by rw [b3.length, q3.length]; exact hlt, cv _ rfl _ _ oa (R'.mut (getO_some hg) (b3.append q3))⟩
          | _ => cases hd
        · cases e5
    · exact R.evE R.e (fun b m => .inl m) e3 (fun _ ed => by cases ed) fun y j ed => by cases ed; exact cx _ _ rfl
  rcases bnS_some e with ⟨es, rs1, e1, e2⟩ | ⟨y, j, e1, rfl⟩
  · cases e2
    obtain ⟨ds, hg, hb⟩ := bnd_lft e1
    exact key hg hb (fun _ q => by cases q; exact w) fun _ _ q => by cases q
  · obtain ⟨ds, hg, hb⟩ := bnd_lft e1
    exact key hg hb (fun _ q => by cases q) fun _ _ q => by cases q; exact w
/-- y = x.pop() -/
def sPop (j i : Nat) (ev : Ev) : Ms := bnS (lft ((getO ev i).bind fun ds => (ds[ds.length - 1]?).map fun d => (ds.dropLast, d))) fun q rs => some (.nx ((ev.set i (.own q.1)).set j (.dat q.2)), rs)
theorem DaL.get_last {vs : List V} {ds : List D} {d : D} (h : DaL K M H vs ds) (e : ds[ds.length - 1]? = some d) : ∃ v, vs[vs.length - 1]? = some v ∧ Da K M H v d := by
  rw [h.length]
  exact h.get e
structure ExcF (G : Gm) (x : Str) : Prop where
  ex : ∃ C, G.mg x = some (.ref C) ∧ PySem.W.excIn G.K C [.type "ValueError", .type "Exception", .type "BaseException", .type "object"] "ValueError.__new__" = true ∧ PySem.W.keepIn G.K (.ref C) = true ∧
    PySem.W.subIn G.K (.ref C) (.type "BaseException") = some true ∧ PySem.W.typeIn G.K (.ref C) = some (.type "type")
def sRaise (x : Str) (_ : Ev) : Ms := fun rs => some (.exc x none, rs)
theorem s_raise {x m : Str} {j : Nat} {p p2 pos pos2 : Pos} (F : ExcF G x) (hg : glB sc x = true := by rfl) (hdb : (x == ("__debug__" : Str)) = false := by decide) : SS G k sc N (.Raise (some (.Call (.Name x p) [.Constant (.str m) j p2] [] pos)) none pos2) (sRaise x) := fun X W g tk po => by
  obtain ⟨C, h1, h2, h3, h4, h5⟩ := F.ex
  refine ps_imp (ps_raise g.calm tk (pmk_own PySem.F.excBase_ValueError (by rw [g.hK]; exact h2) (by rw [g.hmg]; exact h1) (by rw [g.hK]; exact h3) (raises_own (by rw [g.hK]; exact h4) (by rw [g.hK]; exact h5)) (gl_of g hg) hdb)) fun D σ H h => ?_
  obtain ⟨M, r, Pr, ev, rs, oa, R, o, rs', e, w⟩ := h
  cases e
  exact w _ _ σ H R.prot (row_sub R.e.row fun b m => .inl m) ⟨⟨C, h1, rfl⟩, rfl⟩
end
section
variable {G : Gm} {k : Nat}
def dFun (n m : Nat) (f : Ev → Ms) (ss : List Slot) : Mn D := fun rs => if ss.length = n then (match f (ss ++ List.replicate (m - n) .hid) rs with
  | some (.nx _, rs') => some (.val .none, rs')
  | some (.ret d, rs') => some (.val d, rs')
  | some (.exc x i, rs') => some (.exc x i, rs')
  | _ => none) else none
theorem arg_slots {K : PySem.W.Frag} {M : Addr → Prop} {r : Rw} {H : Hp} : ∀ {vs : List V} {ss : List Slot} (j : Nat), ArgL K M r H vs ss → ∀ (i : Nat) s, ss[i]? = some s → ∀ σ : L2.St, (∀ i v, vs[i]? = some v → σ[j + i]? = some (some v)) → SlotAt K M r σ H (j + i) s
  | _, _, j, .nil, i, s, e, σ, _ => by simp at e
  | _, _, j, .dat h t, 0, s, e, σ, hσ => by
    simp at e; subst e
    exact ⟨_, hσ 0 _ rfl, h⟩
  | _, _, j, .row t, 0, s, e, σ, hσ => by
    simp at e; subst e
    exact hσ 0 _ rfl
  | _, _, j, .dat h t, i + 1, s, e, σ, hσ => by
    have q := arg_slots (j + 1) t i s (by simpa using e) σ fun i' v h => by
      have z := hσ (i' + 1) v (by simpa using h)
      rwa [show j + (i' + 1) = j + 1 + i' by omega] at z
    rwa [show j + 1 + i = j + (i + 1) by omega] at q
  | _, _, j, .row t, i + 1, s, e, σ, hσ => by
    have q := arg_slots (j + 1) t i s (by simpa using e) σ fun i' v h => by
      have z := hσ (i' + 1) v (by simpa using h)
      rwa [show j + (i' + 1) = j + 1 + i' by omega] at z
    rwa [show j + 1 + i = j + (i + 1) by omega] at q
theorem ArgL.noown {K : PySem.W.Frag} {M : Addr → Prop} {r : Rw} {H : Hp} : ∀ {vs : List V} {ss : List Slot}, ArgL K M r H vs ss → ∀ (i : Nat) ds, ss[i]? ≠ some (.own ds)
  | _, _, .nil, i, ds, e => by simp at e
  | _, _, .dat h t, 0, ds, e => by simp at e
  | _, _, .row t, 0, ds, e => by simp at e
  | _, _, .dat h t, i + 1, ds, e => t.noown i ds (by simpa using e)
  | _, _, .row t, i + 1, ds, e => t.noown i ds (by simpa using e)
theorem fo_of {x : Str} {st : Stmt} {N ps : List Str} {f : Addr} {fd : FuncData} {den : Ev → Ms} (hmg : G.mg x = some (.ref f)) (F : Fun G.K x x st f fd) (S : FnScope N ps (defScope st)) (bd : Binds G.K fd ps []) (h : SB G k ⟨defScope st, fun _ => true⟩ N (defBody st) den) :
    FO G (k + 1) x ps.length (dFun ps.length N.length den) := by
  refine ⟨f, fd, ps, hmg, F.kp, bd, rfl, F.okX S (fun vs H Q E h => h.1) fun cdv A outer s H vs Q E hr hsp => ?_⟩
  have g : Gd G k ⟨defScope st, fun _ => true⟩ N (cxOf (L2.CX G.P G.w) G.P G.w G.K G.mg G.base N x (defScope st) f cdv A outer s H E) := ⟨rfl, S.nd, rfl, fun _ _ => rfl, rfl, hr, rfl, rfl, rfl, rfl, rfl⟩
  refine ⟨_, h _ (fun cls d _ H => E cls d H) g (takes_of rfl rfl rfl rfl) (passes_of rfl), ?_⟩
  obtain ⟨hn, M, r, ss, rs, mr, ml, row, ar, o, rs', e, w⟩ := hsp
  have hl : ss.length = ps.length := by rw [← ar.length]; exact hn
  unfold dFun at e
  rw [if_pos hl] at e
  have lenN : ps.length ≤ N.length := by
    have q := congrArg List.length S.pre
    rw [List.length_take] at q
    omega
  have R : RelS G.K M r (fun b o => H b = some o ∧ b ≠ r.a) (L2.start N vs) H (ss ++ List.replicate (N.length - ps.length) .hid) rs fun _ => 0 := by
    have no : ∀ i, ¬ isOwn (ss ++ List.replicate (N.length - ps.length) .hid) i := fun i ⟨ds, e⟩ => by
      by_cases hi : i < ss.length
      · rw [List.getElem?_append_left hi] at e
        exact ar.noown i ds e
      · rw [List.getElem?_append_right (by omega), List.getElem?_replicate] at e
        split at e <;> cases e
    have sub : ∀ b, Av M (ss ++ List.replicate (N.length - ps.length) .hid) (fun _ => 0) b → M b := fun b m => m.elim id fun ⟨i, q, _⟩ => absurd q (no i)
    refine ⟨RelE.sub (M := M) ⟨mr, ml, row, fun i s e => ?_, ?_⟩ sub (.inl mr), mr, fun b o p => p.1, fun o p => p.2 rfl, fun b m n => ?_, fun i ds e => absurd ⟨ds, e⟩ (no i), fun i j q => absurd q (no i)⟩
    · by_cases hi : i < ss.length
      · rw [List.getElem?_append_left hi] at e
        have q := arg_slots 0 ar i s e (L2.start N vs) fun i' v h => by
          unfold L2.start
          have hi' : i' < vs.length := (List.getElem?_eq_some_iff.mp h).1
          rw [Nat.zero_add, List.getElem?_append_left (by rw [List.length_map]; exact hi'), List.getElem?_map, h]
          rfl
        rwa [Nat.zero_add] at q
      · rw [List.getElem?_append_right (by omega), List.getElem?_replicate] at e
        split at e
        · cases e; trivial
        · cases e
    · unfold L2.start
      rw [List.length_append, List.length_append, List.length_map, List.length_replicate, List.length_replicate, ar.length, hl]
      exact Nat.le_refl _
    · obtain ⟨xs, q⟩ := ml b m
      exact ⟨xs, q, n⟩
  have stp : ∀ {H'}, PrK (fun b o => H b = some o ∧ b ≠ r.a) H' → Stp r H H' := fun p b o n q => p b o ⟨q, n⟩
  cases hden : den (ss ++ List.replicate (N.length - ps.length) .hid) rs with
  | none => rw [hden] at e; cases e
  | some q =>
    obtain ⟨ro, rs2⟩ := q
    rw [hden] at e
    refine ⟨M, r, _, _, rs, _, R, ro, rs2, hden, ?_⟩
    cases ro with
    | nx ev' => cases e; exact fun σ' H' oa' R' => w H' (stp R'.prot) (row_sub R'.e.row fun b m => .inl m) _ .non
    | ret d => cases e; exact fun v H' pk ro dv => w H' (stp pk) ro v dv
    | exc y i => cases e; exact fun cls dd σ' H' pk ro a => w cls dd H' (stp pk) ro a
    | bk ev' => cases e
    | ct ev' => cases e
end
end DL
namespace DL
open PySem PySem.Spec PyProof.Rows L2
section
variable {G : Gm} {k : Nat} {sc : Sx} {N : List Str}
def dBin (op : D → D → Option D) (fa fb : Ev → Mn D) (ev : Ev) : Mn D := bnd (fa ev) fun x => bnd (fb ev) fun y => lft (op x y)
def dUn (op : D → Option D) (fa : Ev → Mn D) (ev : Ev) : Mn D := bnd (fa ev) fun x => lft (op x)
def dCmpE (op : D → D → Option Bool) (fa fb : Ev → Mn D) (ev : Ev) : Mn D := bnd (fa ev) fun x => bnd (fb ev) fun y => lft ((op x y).map .bool)
def dCmp (op : D → D → Option Bool) (fa fb : Ev → Mn D) (ev : Ev) : Mn Bool := bnd (fa ev) fun x => bnd (fb ev) fun y => lft (op x y)
theorem E_ix {a b : Expr} {fa fb : Ev → Mn D} {p : Pos} (ha : SE G k sc N a fa) (hb : SE G k sc N b fb) (hs : ∀ o i, subscripted b false o i = operate [o, i] (getItem o i) := by intro _ _; rfl) : SE G k sc N (.Subscript a b p) (dBin ixD fa fb) := e_ix ha hb hs
theorem E_slLo {a b : Expr} {fa fb : Ev → Mn D} {p1 p2 : Pos} (ha : SE G k sc N a fa) (hb : SE G k sc N b fb) : SE G k sc N (.Subscript a (.Slice (some b) none none p1) p2) (dBin slLo fa fb) := e_slLo ha hb
theorem E_slHi {a b : Expr} {fa fb : Ev → Mn D} {p1 p2 : Pos} (ha : SE G k sc N a fa) (hb : SE G k sc N b fb) : SE G k sc N (.Subscript a (.Slice none (some b) none p1) p2) (dBin slHi fa fb) := e_slHi ha hb
theorem E_add {a b : Expr} {fa fb : Ev → Mn D} {p : Pos} (ha : SE G k sc N a fa) (hb : SE G k sc N b fb) : SE G k sc N (.BinOp a .Add b p) (dBin addD fa fb) := e_add ha hb
theorem E_sub {a b : Expr} {fa fb : Ev → Mn D} {p : Pos} (ha : SE G k sc N a fa) (hb : SE G k sc N b fb) : SE G k sc N (.BinOp a .Sub b p) (dBin subD fa fb) := e_sub ha hb
theorem E_cmp {a b : Expr} {fa fb : Ev → Mn D} {op : CmpOp} {f : D → D → Option Bool} {p : Pos} (c : CmpR G k sc N op f) (ha : SE G k sc N a fa) (hb : SE G k sc N b fb) (hm : behindInMarks op b = false := by first | exact nomark _ (by decide) (by decide) | rfl) : SE G k sc N (.Compare a [op] [b] p) (dCmpE f fa fb) := e_cmp c ha hb hm
theorem T_cmp {a b : Expr} {fa fb : Ev → Mn D} {op : CmpOp} {f : D → D → Option Bool} {p : Pos} (c : CmpR G k sc N op f) (ha : SE G k sc N a fa) (hb : SE G k sc N b fb) (hm : behindInMarks op b = false := by first | exact nomark _ (by decide) (by decide) | rfl) : ST G k sc N (.Compare a [op] [b] p) (dCmp f fa fb) := t_cmp c ha hb hm
def KTab := List (Str × D)
structure GlK (G : Gm) (x : Str) (t : KTab) : Prop where
  ex : ∃ d es n, G.mg x = some (.ref d) ∧ KDict G.K G.w d es n ∧ ∀ z : Str, (match t.lookup z with
    | some dd => ∃ u v, PySem.W.nsIn G.K d z = some (some u) ∧ RelV v u ∧ ∀ M H, Da G.K M H v dd
    | none => PySem.W.nsIn G.K d z = some none)
def kgetD (t : KTab) : D → Option D
  | .str z => t.lookup z
  | _ => none
def kinD (t : KTab) : D → Option Bool
  | .str z => some (t.lookup z).isSome
  | _ => none
def dKget (t : KTab) (fb : Ev → Mn D) (ev : Ev) : Mn D := bnd (fb ev) fun y => lft (kgetD t y)
def dKin (t : KTab) (fb : Ev → Mn D) (ev : Ev) : Mn Bool := bnd (fb ev) fun y => lft (kinD t y)
def dKnin (t : KTab) (fb : Ev → Mn D) (ev : Ev) : Mn Bool := bnd (fb ev) fun y => lft ((kinD t y).map (!·))
theorem E_kget {x : Str} {t : KTab} {b : Expr} {fb : Ev → Mn D} {p p2 : Pos} (h : GlK G x t) (hb : SE G k sc N b fb) (hg : glB sc x = true := by rfl) (hdb : (x == ("__debug__" : Str)) = false := by decide) (hs : ∀ o i, subscripted b false o i = operate [o, i] (getItem o i) := by intro _ _; rfl) :
    SE G k sc N (.Subscript (.Name x p) b p2) (dKget t fb) := by
  obtain ⟨d, es, n, h1, h2, h3⟩ := h.ex
  refine e_one (rl := fun X y H Q => rIxD X.K X.w (.ref d) y H Q) hb (fun X ta g h => pe_imp (pe_ix ix_kdict (pe_glob (v := .ref d) (gl_of g hg) (by rw [g.hmg]; exact h1) rfl hdb) h hs) fun σ H Q q => q) fun X M H y dy dd Q g ml hy e hq => ?_
  rw [g.hK, g.hw]
  cases hy with
  | str z =>
    have q := h3 z
    have e : t.lookup z = some dd := e
    rw [e] at q
    obtain ⟨u, v, q1, q2, q3⟩ := q
    exact ⟨d, z, v, rfl, rfl, ⟨es, n, u, h2.at_, h2.lit, q1, q2⟩, hq v H (.refl _) (q3 M H)⟩
  | _ => cases e
theorem T_kin {x : Str} {t : KTab} {b : Expr} {fb : Ev → Mn D} {p p2 : Pos} (h : GlK G x t) (hb : SE G k sc N b fb) (hg : glB sc x = true := by rfl) (hdb : (x == ("__debug__" : Str)) = false := by decide) (hm : behindInMarks .In (.Name x p) = false := by rfl) :
    ST G k sc N (.Compare b [.In] [.Name x p] p2) (dKin t fb) := fun X W g tk => by
  obtain ⟨d, es, n, h1, h2, h3⟩ := h.ex
  refine pt_imp (pt_cmpR (op_in_kd (by rw [g.hK, g.hw]; exact h2)) (hb X W g tk) (pe_glob (v := .ref d) (gl_of g hg) (by rw [g.hmg]; exact h1) rfl hdb) hm) fun σ H Q h => ?_
  obtain ⟨M, r, ev, rs, R, o, rs', e, w⟩ := h
  refine tE_bnd R e w fun y rs1 H1 v R1 s1 d1 e1 w1 => ?_
  obtain ⟨c, e3, rfl, rfl⟩ := lft_some e1
  rw [g.hK]
  cases d1 with
  | str z =>
    cases e3
    have q := h3 z
    cases hz : t.lookup z with
    | none =>
      rw [hz] at q
      exact ⟨z, _, rfl, rfl, q, false, rfl, by have := w1 H1 (.refl _) R1.row; rwa [hz] at this⟩
    | some dd =>
      rw [hz] at q
      obtain ⟨u, v, q1, q2, q3⟩ := q
      exact ⟨z, _, rfl, rfl, q1, true, rfl, by have := w1 H1 (.refl _) R1.row; rwa [hz] at this⟩
  | _ => cases e3
theorem T_knin {x : Str} {t : KTab} {b : Expr} {fb : Ev → Mn D} {p p2 : Pos} (h : GlK G x t) (hb : SE G k sc N b fb) (hg : glB sc x = true := by rfl) (hdb : (x == ("__debug__" : Str)) = false := by decide) (hm : behindInMarks .NotIn (.Name x p) = false := by rfl) :
    ST G k sc N (.Compare b [.NotIn] [.Name x p] p2) (dKnin t fb) := fun X W g tk => by
  obtain ⟨d, es, n, h1, h2, h3⟩ := h.ex
  refine pt_imp (pt_cmpR (op_notIn_kd (by rw [g.hK, g.hw]; exact h2)) (hb X W g tk) (pe_glob (v := .ref d) (gl_of g hg) (by rw [g.hmg]; exact h1) rfl hdb) hm) fun σ H Q h => ?_
  obtain ⟨M, r, ev, rs, R, o, rs', e, w⟩ := h
  refine tE_bnd R e w fun y rs1 H1 v R1 s1 d1 e1 w1 => ?_
  obtain ⟨c, e3, rfl, rfl⟩ := lft_some e1
  rw [g.hK]
  cases d1 with
  | str z =>
    have q := h3 z
    replace e3 : some (!(t.lookup z).isSome) = some c := e3
    cases hz : t.lookup z with
    | none =>
      rw [hz] at q e3
      cases e3
      exact ⟨z, _, rfl, rfl, q, true, rfl, w1 H1 (.refl _) R1.row⟩
    | some dd =>
      rw [hz] at q e3
      cases e3
      obtain ⟨u, v, q1, q2, q3⟩ := q
      exact ⟨z, _, rfl, rfl, q1, false, rfl, w1 H1 (.refl _) R1.row⟩
  | _ => cases e3
variable {K : PySem.W.Frag} {mg : Str → Option Value} {M : Addr → Prop} {H H' H1 : Hp} {r : Rw} {σ σ' : L2.St} {ev ev' : Ev} {rs rs' : RS} {W : WX} {Pr Pr' : Addr → HO → Prop} {oa : Nat → Addr}
def pSet (i : Nat) (f : Ev → Mn D) (ev : Ev) : Ms := bnS (f ev) fun d rs => some (.nx (ev.set i (.dat d)), rs)
theorem P_set (i : Nat) {x : Str} {e : Expr} {p p' : Pos} {f : Ev → Mn D} (h : SE G k sc N e f) (hi : N[i]? = some x := by rfl) (hl : locB sc x = true := by rfl)
    (hs : ∀ env, env.scope = sc.sc → swapsWith e (some (.Name x p')) p.line env = pure false := by intro env h; first | rfl | (cases env; cases h; rfl)) : SS G k sc N (.Assign [.Name x p'] e p) (pSet i f) := fun X W g tk po => by
  refine ps_imp (ps_set (i := i) (by rw [g.hN]; exact g.nd) (by rw [g.hN]; exact hi) (loc_of g hl).1 (h X W g tk) (hs _ g.hsc) (loc_of g hl).2) fun D σ H h => ?_
  obtain ⟨M, r, Pr, ev, rs, oa, R, o, rs', e, w⟩ := h
  rcases bnS_some e with ⟨d, rs1, e1, e2⟩ | ⟨x, j, e1, rfl⟩
  · cases e2
    exact R.evE R.e (fun b m => .inl m) e1 (fun d' ed v H' R' s dv => by cases ed; exact w _ _ oa (R'.set1 dv)) fun _ _ ed => by cases ed
  · exact R.evE R.e (fun b m => .inl m) e1 (fun _ ed => by cases ed) fun y j ed => by cases ed; exact w
def pTgt (t : Tgt) (f : Ev → Mn D) (ev : Ev) : Ms := bnS (bnd (f ev) fun d => lft (t.of d)) fun ds rs => some (.nx (setE ev t.ix ds), rs)
/-- a, b = x, y with plain local names -/
def pPar (i j : Nat) (f : Ev → Mn (List Slot)) (ev : Ev) : Ms := bnS (bnd (f ev) fun ss => lft (dats ss)) fun ds rs => match ds with
  | [d, e] => some (.nx ((ev.set i (.dat d)).set j (.dat e)), rs)
  | _ => none
def plocB (sc : Sx) (x : Str) : Bool := match sc.sc.names.lookup x with
  | some .local => true
  | _ => false
theorem ploc_of {X : Cx} {x : Str} (g : Gd G k sc N X) (h : plocB sc x = true) : X.env.scope.names.lookup x = some .local := by
  unfold plocB at h
  rw [g.hsc]
  split at h
  · assumption
  · cases h
theorem P_par (i j : Nat) {x y : Str} {a b : Expr} {px py pt p pt2 : Pos} {kt k2 : Nat} {f : Ev → Mn (List Slot)} (h : SA G k sc N [a, b] f) (hi : N[i]? = some x := by rfl) (hj : N[j]? = some y := by rfl) (hij : i ≠ j := by decide) (hx : plocB sc x = true := by rfl) (hy : plocB sc y = true := by rfl)
    (hw : ∀ env, env.scope = sc.sc → swappedStores [.Tuple [.Name x px, .Name y py] kt pt] (.Tuple [a, b] k2 pt2) env = pure (some [x, y]) := by intro env h; first | rfl | (cases env; cases h; rfl))
    (hs : ∀ env, swapsWithSole [.Tuple [.Name x px, .Name y py] kt pt] (.Tuple [a, b] k2 pt2) p.line env = pure false := by intro _; rfl) :
    SS G k sc N (.Assign [.Tuple [.Name x px, .Name y py] kt pt] (.Tuple [a, b] k2 pt2) p) (pPar i j f) := fun X W g tk po => by
  refine ps_imp (ps_par (i := i) (j := j) g.calm (by rw [g.hN]; exact g.nd) (by rw [g.hN]; exact hi) (by rw [g.hN]; exact hj) hij (ploc_of g hx) (ploc_of g hy) (h X W g tk) (hw _ g.hsc) (hs _)) fun D σ H h => ?_
  obtain ⟨M, r, Pr, ev, rs, oa, R, o, rs', e, w⟩ := h
  rcases bnS_some e with ⟨ds, rs1, e1, e2⟩ | ⟨x, j, e1, rfl⟩
  · split at e2
    · rename_i d1 d2
      cases e2
      rcases bnd_some e1 with ⟨ss, rs2, e3, e4⟩ | ⟨_, _, _, e4⟩
      · obtain ⟨ds', e5, e6, rfl⟩ := lft_some e4
        cases e6
        refine ⟨_, r, ev, rs, R.e, .val ss, _, e3, fun H1 s1 w1 vs hvs => ?_⟩
        obtain ⟨v, v', rfl, h1, h2⟩ := two_da (hvs.dats e5)
        have R1 := R.stp s1 w1
        exact ⟨v, v', rfl, w _ _ oa ((R1.set1 h1).set1 (h2.sub fun b m => m.elim .inl fun ⟨j', o, e⟩ => .inr ⟨j', (isOwn_set (fun ds e => by cases e) o).1, e⟩))⟩
      · cases e4
    · cases e2
  · rcases bnd_some e1 with ⟨d, rs2, e3, e4⟩ | ⟨y, j', e3, e4⟩
    · obtain ⟨ds', e5, e6, rfl⟩ := lft_some e4
      cases e6
    · cases e4
      exact ⟨_, r, ev, rs, R.e, .exc x j, rs', e3, fun cls dd H' s w1 a => w cls dd σ H' (R.stp s w1).prot (row_sub w1 fun b m => .inl m) a⟩
def pRet (f : Ev → Mn D) (ev : Ev) : Ms := bnS (f ev) fun d rs => some (.ret d, rs)
theorem P_ret {e : Expr} {p : Pos} {f : Ev → Mn D} (h : SE G k sc N e f) : SS G k sc N (.Return (some e) p) (pRet f) := fun X W g tk po => by
  refine ps_imp (ps_ret (h X W g tk)) fun D σ H h => ?_
  obtain ⟨M, r, Pr, ev, rs, oa, R, o, rs', e, w⟩ := h
  rcases bnS_some e with ⟨d, rs1, e1, e2⟩ | ⟨x, j, e1, rfl⟩
  · cases e2
    exact R.evE R.e (fun b m => .inl m) e1 (fun d' ed v H' R' s dv => by cases ed; exact w v H' R'.prot (row_sub R'.e.row fun b m => .inl m) (dv.sub fun b m => .inl m)) fun _ _ ed => by cases ed
  · exact R.evE R.e (fun b m => .inl m) e1 (fun _ ed => by cases ed) fun y j ed => by cases ed; exact w
def pDrop (f : Ev → Mn D) (ev : Ev) : Ms := bnS (f ev) fun _ rs => some (.nx ev, rs)
theorem P_expr {e : Expr} {p : Pos} {f : Ev → Mn D} (h : SE G k sc N e f) (hs : ∀ env, swapsWith e none p.line env = pure false := by intro _; rfl) : SS G k sc N (.Expr e p) (pDrop f) := fun X W g tk po => by
  refine ps_imp (ps_expr (h X W g tk) (hs _)) fun D σ H h => ?_
  obtain ⟨M, r, Pr, ev, rs, oa, R, o, rs', e, w⟩ := h
  rcases bnS_some e with ⟨d, rs1, e1, e2⟩ | ⟨x, j, e1, rfl⟩
  · cases e2
    exact R.evE R.e (fun b m => .inl m) e1 (fun d' ed v H' R' s dv => w _ _ oa R') fun _ _ ed => by cases ed
  · exact R.evE R.e (fun b m => .inl m) e1 (fun _ ed => by cases ed) fun y j ed => by cases ed; exact w
def pIf (t : Ev → Mn Bool) (f g : Ev → Ms) (ev : Ev) : Ms := bnS (t ev) fun c => if c = true then f ev else g ev
theorem P_if {c : Expr} {a b : List Stmt} {p : Pos} {t : Ev → Mn Bool} {f g : Ev → Ms} (hc : ST G k sc N c t) (ha : SB G k sc N a f) (hb : SB G k sc N b g) : SS G k sc N (.If c a b p) (pIf t f g) := fun X W gd tk po => by
  refine ps_imp (ps_if (hc X W gd tk) (ha X W gd tk po) (hb X W gd tk po)) fun D σ H h => ?_
  obtain ⟨M, r, Pr, ev, rs, oa, R, o, rs', e, w⟩ := h
  rcases bnS_some e with ⟨c, rs1, e1, e2⟩ | ⟨x, j, e1, rfl⟩
  · refine ⟨_, r, ev, rs, R.e, .val c, rs1, e1, fun H' s w1 => ?_⟩
    have R' := R.stp s w1
    cases c with
    | true => rw [if_pos rfl] at e2; exact iteT ⟨M, r, Pr, ev, rs1, oa, R', o, rs', e2, w⟩
    | false => rw [if_neg (by decide)] at e2; exact iteF ⟨M, r, Pr, ev, rs1, oa, R', o, rs', e2, w⟩
  · exact ⟨_, r, ev, rs, R.e, .exc x j, rs', e1, fun cls dd H' s w1 a => w cls dd σ H' (R.stp s w1).prot (row_sub w1 fun b m => .inl m) a⟩
end
end DL
namespace DL
open PySem PySem.Spec PyProof.Rows L2
structure HasF (G : Gm) (x : Str) (st : Stmt) (ps : List Str) : Prop where
  ex : ∃ (f : Addr) (fd : FuncData), G.mg x = some (.ref f) ∧ Fun G.K x x st f fd ∧ Binds G.K fd ps []
section
variable {G : Gm} {k : Nat}
theorem fo_has {x : Str} {st : Stmt} {N ps : List Str} {den : Ev → Ms} (h : HasF G x st ps) (S : FnScope N ps (defScope st)) (b : SB G k ⟨defScope st, fun _ => true⟩ N (defBody st) den) : FO G (k + 1) x ps.length (dFun ps.length N.length den) := by
  obtain ⟨f, fd, h1, h2, h3⟩ := h.ex
  exact fo_of h1 h2 S h3 b
/-- nothing is said -/
theorem fo_zero {x : Str} {st : Stmt} {ps : List Str} {n : Nat} (h : HasF G x st ps) (hn : ps.length = n) : FO G k x n (fun _ _ => none) := by
  obtain ⟨f, fd, h1, h2, h3⟩ := h.ex
  have no : ∀ {vs H Q E}, ¬ spF G n (fun _ _ => none) vs H Q E := fun {vs H Q E} h => by
    obtain ⟨_, _, _, _, _, _, _, _, _, _, _, e, _⟩ := h
    cases e
  exact ⟨f, fd, ps, h1, h2.kp, h3, hn, ⟨fun vs H Q E q => absurd q no, fun A outer s H args us vs Q E _ _ _ _ q => absurd q no⟩⟩
end
mutual
inductive KDa (K : PySem.W.Frag) : Value → D → Prop
  | non : KDa K .none .none
  | bl (b : Bool) : KDa K (.bool b) (.bool b)
  | int (i : Int) (t : Tok) : KDa K (.int i t) (.int i)
  | str (x : Str) (t : Tok) : KDa K (.str x t) (.str x)
  | tup {a : Addr} {dd : Option Addr} {its : Array Value} {n : Nat} {sl : Array (Option Value)} {ds : List D} (h : K.lookup a = some ⟨.type "tuple", dd, .seq its n, sl⟩) (hs : its.size ≤ sizeLine) (t : KDaL K its.toList ds) : KDa K (.ref a) (.tuple ds)
inductive KDaL (K : PySem.W.Frag) : List Value → List D → Prop
  | nil : KDaL K [] []
  | cons {v : Value} {vs : List Value} {d : D} {ds : List D} (h : KDa K v d) (t : KDaL K vs ds) : KDaL K (v :: vs) (d :: ds)
end
mutual
theorem KDa.da {K : PySem.W.Frag} {M : Addr → Prop} {H : Hp} : ∀ {u : Value} {d : D}, KDa K u d → ∃ v, absV u = some v ∧ RelV v u ∧ Da K M H v d
  | _, _, .non => ⟨.non, rfl, rfl, .non⟩
  | _, _, .bl b => ⟨.bl b, rfl, rfl, .bl b⟩
  | _, _, .int i t => ⟨.int i, rfl, ⟨t, rfl⟩, .int i⟩
  | _, _, .str x t => ⟨.str x, rfl, ⟨t, rfl⟩, .str x⟩
  | _, _, .tup (a := a) h hs t => by
    obtain ⟨vs, r, q⟩ := KDaL.da (M := M) (H := H) t
    exact ⟨.ref a, rfl, rfl, .tup (.inr ⟨_, _, _, h, rfl, rfl, hs, r⟩) q⟩
theorem KDaL.da {K : PySem.W.Frag} {M : Addr → Prop} {H : Hp} : ∀ {us : List Value} {ds : List D}, KDaL K us ds → ∃ vs, Vals vs us ∧ DaL K M H vs ds
  | _, _, .nil => ⟨[], .nil, .nil⟩
  | _, _, .cons h t => by
    obtain ⟨v, _, r, q⟩ := KDa.da (M := M) (H := H) h
    obtain ⟨vs, rs, qs⟩ := KDaL.da (M := M) (H := H) t
    exact ⟨v :: vs, .cons r rs, .cons q qs⟩
end
theorem KDa.all {K : PySem.W.Frag} {u : Value} {d : D} (h : KDa K u d) : ∃ v, RelV v u ∧ ∀ M H, Da K M H v d := by
  obtain ⟨v, a, r, _⟩ := h.da (M := fun _ => False) (H := fun _ => none)
  refine ⟨v, r, fun M H => ?_⟩
  obtain ⟨v', a', _, q⟩ := h.da (M := M) (H := H)
  rw [a] at a'
  cases a'
  exact q
theorem GlD.mk' {G : Gm} {x : Str} {u : Value} {d : D} (h : G.mg x = some u) (q : KDa G.K u d) : GlD G x d := by
  obtain ⟨v, r, z⟩ := q.all
  exact ⟨u, v, h, r, z⟩
inductive KEs (K : PySem.W.Frag) : List DictEntry → KTab → Prop
  | nil : KEs K [] []
  | cons {h : Int} {x : Str} {t : Tok} {v : Value} {d : D} {es : List DictEntry} {tb : KTab} (hv : KDa K v d) (r : KEs K es tb) : KEs K (⟨h, .str x t, v⟩ :: es) ((x, d) :: tb)
theorem KEs.look {K : PySem.W.Frag} : ∀ {es : List DictEntry} {tb : KTab}, KEs K es tb → ∀ z : Str, (match List.lookup z tb with
    | some dd => ∃ e, es.find? (·.key.isStr z) = some e ∧ KDa K e.val dd
    | none => es.find? (·.key.isStr z) = none ∧ es.any (·.refKey) = false)
  | _, _, .nil, z => ⟨rfl, rfl⟩
  | _, _, .cons (h := h) (x := x) (t := t) (v := v) (d := d) (es := es) (tb := tb) hv r, z => by
    have ih := KEs.look r z
    have k1 : (⟨h, Value.str x t, v⟩ : DictEntry).key.isStr z = (x == z) := rfl
    have k2 : (⟨h, Value.str x t, v⟩ : DictEntry).refKey = false := rfl
    by_cases hz : z = x
    · subst hz
      have e1 : List.lookup z ((z, d) :: tb) = some d := by simp [List.lookup]
      rw [e1]
      exact ⟨⟨h, .str z t, v⟩, by rw [List.find?_cons, k1]; simp, hv⟩
    · have b1 : (z == x) = false := by simpa using hz
      have b2 : (x == z) = false := by simpa using Ne.symm hz
      have e1 : List.lookup z ((x, d) :: tb) = List.lookup z tb := by simp [List.lookup, b1]
      have e2 : (⟨h, Value.str x t, v⟩ :: es : List DictEntry).find? (·.key.isStr z) = es.find? (·.key.isStr z) := by rw [List.find?_cons, k1, b2]
      rw [e1, e2]
      cases q : List.lookup z tb with
      | some dd => rw [q] at ih; exact ih
      | none =>
        rw [q] at ih
        exact ⟨ih.1, by rw [List.any_cons, k2, ih.2]; rfl⟩
theorem GlK.mk' {G : Gm} {x : Str} {d : Addr} {es : Array DictEntry} {n : Nat} {tb : KTab} (h : G.mg x = some (.ref d)) (hl : G.K.lookup d = some ⟨.type "dict", none, .dict es n, #[]⟩) (lit : PySem.W.KeysLit G.w.params es.toList) (low : (d == sysModules) = false) (q : KEs G.K es.toList tb) : GlK G x tb := by
  refine ⟨d, es, n, h, ⟨hl, lit, low⟩, fun z => ?_⟩
  have q' := q.look z
  have un : PySem.W.nsIn G.K d z = (match es.toList.find? (·.key.isStr z) with
      | some e => some (some e.val)
      | none => if es.toList.any (·.refKey) then none else some none) := by
    unfold PySem.W.nsIn
    rw [hl]
    rfl
  cases hz : List.lookup z tb with
  | some dd =>
    rw [hz] at q'
    obtain ⟨e, e1, e2⟩ := q'
    obtain ⟨v, r, a⟩ := e2.all
    exact ⟨e.val, v, by rw [un, e1], r, a⟩
  | none =>
    rw [hz] at q'
    rw [un, q'.1, q'.2]
    rfl
theorem ExcF.mk' {G : Gm} {x : Str} {C : Addr} (h1 : G.mg x = some (.ref C)) (h2 : PySem.W.excIn G.K C [.type "ValueError", .type "Exception", .type "BaseException", .type "object"] "ValueError.__new__" = true) (h3 : PySem.W.keepIn G.K (.ref C) = true)
    (h4 : PySem.W.subIn G.K (.ref C) (.type "BaseException") = some true) (h5 : PySem.W.typeIn G.K (.ref C) = some (.type "type")) : ExcF G x := ⟨C, h1, h2, h3, h4, h5⟩
theorem HasF.mk' {G : Gm} {x : Str} {st : Stmt} {ps : List Str} {f : Addr} {oc kV doc pm cdv ct : Value} {od an : Option Addr} {osl : Array (Option Value)} (h1 : G.mg x = some (.ref f))
    (l : G.K.lookup f = some ⟨oc, od, .func (PySem.W.fnOf x x (defArgs st) (defBody st) (defScope st) .none kV doc pm an cdv ct), osl⟩) (c : PySem.W.codeIn G.K cdv x = true) (k : PySem.W.keepIn G.K (.ref f) = true)
    (b : ∀ (kV doc pm : Value) (an : Option Addr) (cdv ct : Value) (us : List Value), us.length = ps.length → bindArgs (PySem.W.fnOf x x (defArgs st) (defBody st) (defScope st) .none kV doc pm an cdv ct) ⟨us, []⟩ = pure (ps.zip us)) : HasF G x st ps := by
  have F := fun_mk (st := st) l c k
  exact ⟨f, _, h1, F, F.binds b⟩
end DL
namespace DL
open PySem PySem.Spec PyProof.Rows L2
def nxM (ev : Ev) : Ms := fun rs => some (.nx ev, rs)
def rtM (d : D) : Ms := fun rs => some (.ret d, rs)
def exM (x : Str) (i : Option Int) : Ms := fun rs => some (.exc x i, rs)
def exc {α : Type} (x : Str) (i : Option Int) : Mn α := fun rs => some (.exc x i, rs)
def stk {α : Type} : Mn α := fun _ => none
def stS : Ms := fun _ => none
def sq (m : Ms) (g : Ev → Ms) : Ms := fun rs => match m rs with
  | some (.nx ev', rs') => g ev' rs'
  | q => q
def fin (m : Ms) : Mn D := fun rs => match m rs with
  | some (.nx _, rs') => some (.val .none, rs')
  | some (.ret d, rs') => some (.val d, rs')
  | some (.exc x i, rs') => some (.exc x i, rs')
  | _ => none
section
variable {α β γ : Type} {ev : Ev} {f g : Ev → Ms}
@[simp] theorem bnd_pur (a : α) (k : α → Mn β) : bnd (pur a) k = k a := rfl
@[simp] theorem bnd_exc (x : Str) (i : Option Int) (k : α → Mn β) : bnd (exc x i) k = exc x i := rfl
@[simp] theorem bnd_stk (k : α → Mn β) : bnd stk k = stk := rfl
@[simp] theorem bnS_pur (a : α) (k : α → Ms) : bnS (pur a) k = k a := rfl
@[simp] theorem bnS_exc (x : Str) (i : Option Int) (k : α → Ms) : bnS (exc x i) k = exM x i := rfl
@[simp] theorem bnS_stk (k : α → Ms) : bnS stk k = stS := rfl
theorem bnd_bnd (m : Mn α) (k : α → Mn β) (h : β → Mn γ) : bnd (bnd m k) h = bnd m fun a => bnd (k a) h := by
  funext rs
  unfold bnd
  cases m rs with
  | none => rfl
  | some q =>
    obtain ⟨q1, q2⟩ := q
    cases q1 <;> rfl
theorem bnS_bnd (m : Mn α) (k : α → Mn β) (h : β → Ms) : bnS (bnd m k) h = bnS m fun a => bnS (k a) h := by
  funext rs
  unfold bnS bnd
  cases m rs with
  | none => rfl
  | some q =>
    obtain ⟨q1, q2⟩ := q
    cases q1 <;> rfl
@[simp] theorem lft_some' (a : α) : lft (some a) = pur a := rfl
@[simp] theorem lft_none : lft (none : Option α) = stk := rfl
@[simp] theorem bnd_ite (c : Prop) [Decidable c] (a b : Mn α) (k : α → Mn β) : bnd (if c then a else b) k = if c then bnd a k else bnd b k := by split <;> rfl
@[simp] theorem bnS_ite (c : Prop) [Decidable c] (a b : Mn α) (k : α → Ms) : bnS (if c then a else b) k = if c then bnS a k else bnS b k := by split <;> rfl
@[simp] theorem sq_nx (e : Ev) : sq (nxM e) g = g e := rfl
@[simp] theorem sq_rt (d : D) : sq (rtM d) g = rtM d := rfl
@[simp] theorem sq_ex (x : Str) (i : Option Int) : sq (exM x i) g = exM x i := rfl
@[simp] theorem sq_st : sq stS g = stS := rfl
@[simp] theorem sq_ite (c : Prop) [Decidable c] (a b : Ms) : sq (if c then a else b) g = if c then sq a g else sq b g := by split <;> rfl
theorem sq_bnS (m : Mn α) (k : α → Ms) : sq (bnS m k) g = bnS m fun a => sq (k a) g := by
  funext rs
  unfold sq bnS
  cases m rs with
  | none => rfl
  | some q =>
    obtain ⟨q1, q2⟩ := q
    cases q1 <;> rfl
@[simp] theorem fin_nx (e : Ev) : fin (nxM e) = pur .none := rfl
@[simp] theorem fin_rt (d : D) : fin (rtM d) = pur d := rfl
@[simp] theorem fin_ex (x : Str) (i : Option Int) : fin (exM x i) = exc x i := rfl
@[simp] theorem fin_st : fin stS = stk := rfl
@[simp] theorem fin_ite (c : Prop) [Decidable c] (a b : Ms) : fin (if c then a else b) = if c then fin a else fin b := by split <;> rfl
theorem fin_bnS (m : Mn α) (k : α → Ms) : fin (bnS m k) = bnd m fun a => fin (k a) := by
  funext rs
  unfold fin bnS bnd
  cases m rs with
  | none => rfl
  | some q =>
    obtain ⟨q1, q2⟩ := q
    cases q1 <;> rfl
theorem dFun_eq (n m : Nat) (f : Ev → Ms) (ss : List Slot) : dFun n m f ss = if ss.length = n then fin (f (ss ++ List.replicate (m - n) .hid)) else stk := by
  funext rs
  unfold dFun
  split
  · rfl
  · rfl
@[simp] theorem seqM_eq (f g : Ev → Ms) : seqM f g ev = sq (f ev) g := rfl
@[simp] theorem sNil_eq : sNil ev = nxM ev := rfl
@[simp] theorem pRet_eq (f : Ev → Mn D) : pRet f ev = bnS (f ev) rtM := rfl
@[simp] theorem sRet_eq (f : Ev → Mn D) : sRet f ev = bnS (f (lend ev)) rtM := rfl
@[simp] theorem sRetN_eq : sRetN ev = rtM .none := rfl
@[simp] theorem pSet_eq (i : Nat) (f : Ev → Mn D) : pSet i f ev = bnS (f ev) fun d => nxM (ev.set i (.dat d)) := rfl
@[simp] theorem pDrop_eq (f : Ev → Mn D) : pDrop f ev = bnS (f ev) fun _ => nxM ev := rfl
@[simp] theorem pIf_eq (t : Ev → Mn Bool) : pIf t f g ev = bnS (t ev) fun c => if c = true then f ev else g ev := rfl
@[simp] theorem sIf_eq (t : Ev → Mn Bool) : sIf t f g ev = bnS (t (lend ev)) fun c => if c = true then f ev else g ev := rfl
@[simp] theorem sRaise_eq (x : Str) : sRaise x ev = exM x none := rfl
@[simp] theorem pTgt_eq (t : Tgt) (f : Ev → Mn D) : pTgt t f ev = bnS (bnd (f ev) fun d => lft (t.of d)) fun ds => nxM (setE ev t.ix ds) := rfl
theorem pPar_eq (i j : Nat) (f : Ev → Mn (List Slot)) : pPar i j f ev = bnS (bnd (f ev) fun ss => lft (dats ss)) fun ds => match ds with
  | [d, e] => nxM ((ev.set i (.dat d)).set j (.dat e))
  | _ => stS := by
  unfold pPar
  congr 1
  funext ds
  rcases ds with _ | ⟨a, _ | ⟨b, _ | ⟨c, t⟩⟩⟩ <;> rfl
@[simp] theorem dVar_eq (i : Nat) : dVar i ev = lft (getE ev i) := rfl
@[simp] theorem dLit_eq (d : D) : dLit d ev = pur d := rfl
@[simp] theorem dNil_eq : dNil ev = pur [] := rfl
@[simp] theorem dCons_eq (f : Ev → Mn D) (g : Ev → Mn (List Slot)) : dCons f g ev = bnd (f ev) fun d => bnd (g ev) fun ss => pur (.dat d :: ss) := rfl
@[simp] theorem dRow_eq (i : Nat) (g : Ev → Mn (List Slot)) : dRow i g ev = if isRow ev[i]? = true then bnd (g ev) fun ss => pur (.row :: ss) else stk := rfl
@[simp] theorem dTup_eq (f : Ev → Mn (List Slot)) : dTup f ev = bnd (f ev) fun ss => lft (if ss.length ≤ sizeLine then (dats ss).map .tuple else none) := rfl
@[simp] theorem dLst_eq (f : Ev → Mn (List Slot)) : dLst f ev = bnd (f ev) fun ss => lft (if ss.length ≤ sizeLine then (dats ss).map .list else none) := rfl
@[simp] theorem dCl_eq (n : Nat) (φ : List Slot → Mn D) (f : Ev → Mn (List Slot)) : dCl n φ f ev = bnd (f ev) fun ss => if ss.length = n then φ ss else stk := rfl
@[simp] theorem dBin_eq (op : D → D → Option D) (fa fb : Ev → Mn D) : dBin op fa fb ev = bnd (fa ev) fun x => bnd (fb ev) fun y => lft (op x y) := rfl
@[simp] theorem dUn_eq (op : D → Option D) (fa : Ev → Mn D) : dUn op fa ev = bnd (fa ev) fun x => lft (op x) := rfl
@[simp] theorem dCmp_eq (op : D → D → Option Bool) (fa fb : Ev → Mn D) : dCmp op fa fb ev = bnd (fa ev) fun x => bnd (fb ev) fun y => lft (op x y) := rfl
@[simp] theorem dCmpE_eq (op : D → D → Option Bool) (fa fb : Ev → Mn D) : dCmpE op fa fb ev = bnd (fa ev) fun x => bnd (fb ev) fun y => lft ((op x y).map .bool) := rfl
@[simp] theorem dTru_eq (f : Ev → Mn D) : dTru f ev = bnd (f ev) fun x => lft (truD x) := rfl
@[simp] theorem dAnd_eq (fa fb : Ev → Mn Bool) : dAnd fa fb ev = bnd (fa ev) fun c => if c = true then fb ev else pur false := rfl
@[simp] theorem dOr_eq (fa fb : Ev → Mn Bool) : dOr fa fb ev = bnd (fa ev) fun c => if c = true then pur true else fb ev := rfl
@[simp] theorem dNot_eq (f : Ev → Mn Bool) : dNot f ev = bnd (f ev) fun c => pur (!c) := rfl
@[simp] theorem dAndV_eq (fa fb : Ev → Mn D) : dAndV fa fb ev = bnd (fa ev) fun x => bnd (lft (truD x)) fun c => if c = true then fb ev else pur x := rfl
@[simp] theorem dOrV_eq (fa fb : Ev → Mn D) : dOrV fa fb ev = bnd (fa ev) fun x => bnd (lft (truD x)) fun c => if c = true then pur x else fb ev := rfl
@[simp] theorem dNotV_eq (f : Ev → Mn D) : dNotV f ev = bnd (f ev) fun x => lft ((truD x).map fun c => .bool (!c)) := rfl
@[simp] theorem dIf_eq (t : Ev → Mn Bool) (fa fb : Ev → Mn D) : dIf t fa fb ev = bnd (t ev) fun c => if c = true then fa ev else fb ev := rfl
@[simp] theorem dChain_eq (p q : D → D → Option Bool) (fa fb fc : Ev → Mn D) : dChain p q fa fb fc ev = bnd (fa ev) fun x => bnd (fb ev) fun y => bnd (lft (p x y)) fun c => if c = true then bnd (fc ev) fun z => lft ((q y z).map .bool) else pur (.bool false) := rfl
@[simp] theorem dChainT_eq (p q : D → D → Option Bool) (fa fb fc : Ev → Mn D) : dChainT p q fa fb fc ev = bnd (fa ev) fun x => bnd (fb ev) fun y => bnd (lft (p x y)) fun c => if c = true then bnd (fc ev) fun z => lft (q y z) else pur false := rfl
@[simp] theorem dFn_eq (op : List D → Option D) (f : Ev → Mn (List Slot)) : dFn op f ev = bnd (f ev) fun ss => lft ((dats ss).bind op) := rfl
@[simp] theorem dIsi_eq (ts : List Ty) (f : Ev → Mn D) : dIsi ts f ev = bnd (f ev) fun d => pur (.bool (ts.any (isA d))) := rfl
@[simp] theorem dRng_eq (op : List D → Option (List D)) (f : Ev → Mn (List Slot)) : dRng op f ev = bnd (f ev) fun ss => lft ((dats ss).bind op) := rfl
@[simp] theorem dItm_eq (f : Ev → Mn D) : dItm f ev = bnd (f ev) fun x => lft (itmD x) := rfl
@[simp] theorem dKget_eq (t : KTab) (f : Ev → Mn D) : dKget t f ev = bnd (f ev) fun y => lft (kgetD t y) := rfl
@[simp] theorem dKin_eq (t : KTab) (f : Ev → Mn D) : dKin t f ev = bnd (f ev) fun y => lft (kinD t y) := rfl
@[simp] theorem dKnin_eq (t : KTab) (f : Ev → Mn D) : dKnin t f ev = bnd (f ev) fun y => lft ((kinD t y).map (!·)) := rfl
@[simp] theorem dYes_eq : dYes ev = pur true := rfl
@[simp] theorem dComp_eq (own : List Nat) (src : Ev → Mn (List D)) (t : Tgt) (c : Ev → Mn Bool) (e : Ev → Mn D) : dComp own src t c e ev = bnd (src ev) fun ds => bnd (compGo t c e (wipeE ev own) ds) fun out => lft (if out.length ≤ sizeLine then some (.list out) else none) := rfl
@[simp] theorem nox_pur (a : α) : nox (pur a) = pur a := rfl
@[simp] theorem nox_ite (c : Prop) [Decidable c] (a b : Mn α) : nox (if c then a else b) = if c then nox a else nox b := by split <;> rfl
@[simp] theorem nox_stk : nox (stk : Mn α) = stk := rfl
@[simp] theorem compGo_nil (t : Tgt) (c : Ev → Mn Bool) (e : Ev → Mn D) : compGo t c e ev [] = pur [] := rfl
@[simp] theorem compGo_cons (t : Tgt) (c : Ev → Mn Bool) (e : Ev → Mn D) (d : D) (ds : List D) : compGo t c e ev (d :: ds) = bnd (lft (t.of d)) fun es => bnd (nox (c (setE ev t.ix es))) fun b =>
    if b = true then bnd (nox (e (setE ev t.ix es))) fun x => bnd (compGo t c e ev ds) fun xs => pur (x :: xs) else compGo t c e ev ds := rfl
@[simp] theorem tgt_name (i : Nat) (d : D) : (Tgt.name i).of d = some [d] := rfl
@[simp] theorem tgt_tup (is : List Nat) (ds : List D) : (Tgt.tup is).of (.tuple ds) = if ds.length = is.length then some ds else none := rfl
@[simp] theorem tix_name (i : Nat) : (Tgt.name i).ix = [i] := rfl
@[simp] theorem tix_tup (is : List Nat) : (Tgt.tup is).ix = is := rfl
@[simp] theorem setE_nil (ds : List D) : setE ev [] ds = ev := rfl
@[simp] theorem setE_nil2 (is : List Nat) : setE ev is [] = ev := by cases is <;> rfl
@[simp] theorem setE_cons (i : Nat) (is : List Nat) (d : D) (ds : List D) : setE ev (i :: is) (d :: ds) = setE (ev.set i (.dat d)) is ds := rfl
@[simp] theorem wipe_nil : wipeE ev [] = ev := rfl
@[simp] theorem wipe_cons (v : Nat) (vs : List Nat) : wipeE ev (v :: vs) = (wipeE ev vs).set v .hid := rfl
@[simp] theorem getE_z (d : D) (r : Ev) : getE (.dat d :: r) 0 = some d := rfl
@[simp] theorem getE_s (s : Slot) (r : Ev) (i : Nat) : getE (s :: r) (i + 1) = getE r i := by unfold getE; rw [List.getElem?_cons_succ]
@[simp] theorem dats_nil : dats [] = some [] := rfl
@[simp] theorem dats_cons (d : D) (ss : List Slot) : dats (.dat d :: ss) = (dats ss).map (d :: ·) := rfl
@[simp] theorem isRow_row : isRow (some .row) = true := rfl
@[simp] theorem lend_nil : lend [] = [] := rfl
@[simp] theorem lend_cons (s : Slot) (r : Ev) : lend (s :: r) = lendS s :: lend r := rfl
@[simp] theorem lendS_d (d : D) : lendS (.dat d) = .dat d := rfl
@[simp] theorem lendS_h : lendS .hid = .hid := rfl
@[simp] theorem lendS_r : lendS .row = .row := rfl
@[simp] theorem lendS_o (ds : List D) : lendS (.own ds) = .dat (.list ds) := rfl
@[simp] theorem size_ok (n : Nat) (h : n ≤ 1000 := by decide) : n ≤ sizeLine := Nat.le_of_lt (small1000 h)
end
end DL
namespace DL
open PySem PySem.Spec PyProof.Rows L2
theorem ofString_inj {s t : String} (h : Str.ofString s = Str.ofString t) : s = t := by
  rw [Str.ofString_eq_toList, Str.ofString_eq_toList] at h
  have h1 : (s.toList.map Char.toNat).toArray = (t.toList.map Char.toNat).toArray := congrArg Str.cps h
  have h2 : s.toList.map Char.toNat = t.toList.map Char.toNat := by simpa using h1
  have inj : ∀ a b : Char, a.toNat = b.toNat → a = b := fun a b e => Char.ext (UInt32.toNat_inj.mp e)
  have go : ∀ {l m : List Char}, l.map Char.toNat = m.map Char.toNat → l = m := by
    intro l
    induction l with
    | nil => intro m h; cases m with
      | nil => rfl
      | cons b m => simp at h
    | cons a l ih => intro m h; cases m with
      | nil => simp at h
      | cons b m =>
        simp only [List.map_cons, List.cons.injEq] at h
        rw [inj a b h.1, ih h.2]
  exact String.ext (go h2)
@[simp] theorem beqS (s t : String) : (Str.ofString s == Str.ofString t) = (s == t) := by
  by_cases h : s = t
  · subst h; simp
  · have h2 : Str.ofString s ≠ Str.ofString t := fun e => h (ofString_inj e)
    have e1 : (s == t) = false := by simpa using h
    have e2 : (Str.ofString s == Str.ofString t) = false := by simpa using h2
    rw [e1, e2]
@[simp] theorem eqS (s t : String) : (Str.ofString s = Str.ofString t) = (s = t) := by
  apply propext
  exact ⟨ofString_inj, fun h => by rw [h]⟩
theorem strOk_of (s : String) : PyData.strOk (Str.ofString s) = true := by
  rw [Str.ofString_eq_toList]
  unfold PyData.strOk
  simp only [List.all_toArray, List.all_eq_true, List.mem_map, decide_eq_true_eq]
  rintro x ⟨c, _, rfl⟩
  have h : c.val.toNat.isValidChar := c.valid
  unfold Nat.isValidChar at h
  show c.val.toNat < 1114112
  omega
@[simp] theorem lay_str (s : String) : PyData.canLay0 (.str (Str.ofString s)) = true := by simp [PyData.canLay0, strOk_of]
theorem sh_none : SeqAt.shaped .none = true := by simp [SeqAt.shaped, PyData.canLay0, PyData.depth]
theorem sh_bool (b : Bool) : SeqAt.shaped (.bool b) = true := by simp [SeqAt.shaped, PyData.canLay0, PyData.depth]
theorem sh_int (i : Int) : SeqAt.shaped (.int i) = true := by simp [SeqAt.shaped, PyData.canLay0, PyData.depth]
@[simp] theorem eq_ss (s t : String) : eqD (.str (Str.ofString s)) (.str (Str.ofString t)) = some (s == t) := by simp [eqD, SeqAt.shaped, PyData.depth, PyData.eqv]
@[simp] theorem ne_ss (s t : String) : neD (.str (Str.ofString s)) (.str (Str.ofString t)) = some (!(s == t)) := by simp [neD, SeqAt.shaped, PyData.depth, PyData.eqv]
@[simp] theorem eq_ii (i j : Int) : eqD (.int i) (.int j) = some (i == j) := by simp [eqD, sh_int, PyData.eqv]
@[simp] theorem ne_ii (i j : Int) : neD (.int i) (.int j) = some (!(i == j)) := by simp [neD, sh_int, PyData.eqv]
@[simp] theorem eq_bb (i j : Bool) : eqD (.bool i) (.bool j) = some (i == j) := by simp [eqD, sh_bool, PyData.eqv]
@[simp] theorem ne_bb (i j : Bool) : neD (.bool i) (.bool j) = some (!(i == j)) := by simp [neD, sh_bool, PyData.eqv]
@[simp] theorem eq_nn : eqD .none .none = some true := by simp [eqD, sh_none, PyData.eqv]
@[simp] theorem eq_ni (j : Int) : eqD .none (.int j) = some false := by simp [eqD, sh_none, sh_int, PyData.eqv]
@[simp] theorem eq_in (j : Int) : eqD (.int j) .none = some false := by simp [eqD, sh_none, sh_int, PyData.eqv]
@[simp] theorem eq_nb (j : Bool) : eqD .none (.bool j) = some false := by simp [eqD, sh_none, sh_bool, PyData.eqv]
@[simp] theorem eq_bn (j : Bool) : eqD (.bool j) .none = some false := by simp [eqD, sh_none, sh_bool, PyData.eqv]
@[simp] theorem ev_ss (s t : String) : PyData.eqv (.str (Str.ofString s)) (.str (Str.ofString t)) = (s == t) := by simp [PyData.eqv]
@[simp] theorem ev_ii (i j : Int) : PyData.eqv (.int i) (.int j) = (i == j) := by simp [PyData.eqv]
@[simp] theorem ev_bb (i j : Bool) : PyData.eqv (.bool i) (.bool j) = (i == j) := by simp [PyData.eqv]
@[simp] theorem ev_nn : PyData.eqv .none .none = true := by simp [PyData.eqv]
@[simp] theorem ev_ns (t : Str) : PyData.eqv .none (.str t) = false := by simp [PyData.eqv]
@[simp] theorem ev_sn (t : Str) : PyData.eqv (.str t) .none = false := by simp [PyData.eqv]
@[simp] theorem ev_ni (t : Int) : PyData.eqv .none (.int t) = false := by simp [PyData.eqv]
@[simp] theorem ev_in (t : Int) : PyData.eqv (.int t) .none = false := by simp [PyData.eqv]
@[simp] theorem ev_is (i : Int) (t : Str) : PyData.eqv (.int i) (.str t) = false := by simp [PyData.eqv]
@[simp] theorem ev_si (i : Int) (t : Str) : PyData.eqv (.str t) (.int i) = false := by simp [PyData.eqv]
@[simp] theorem ev_nb (t : Bool) : PyData.eqv .none (.bool t) = false := by simp [PyData.eqv]
@[simp] theorem ev_bn (t : Bool) : PyData.eqv (.bool t) .none = false := by simp [PyData.eqv]
theorem in_tup (x : D) (ds : List D) (hx : inD.flatD x = true) (hd : ds.all inD.flatD = true) : inD x (.tuple ds) = some (ds.any fun z => PyData.eqv z x) := by simp [inD, hx, hd]
theorem atI_z (a : D) (l : List D) : atI (a :: l) 0 = some a := atI_nat (j := 0) rfl
theorem atI_1 (a b : D) (l : List D) : atI (a :: b :: l) 1 = some b := atI_nat (j := 1) rfl
theorem atI_2 (a b c : D) (l : List D) : atI (a :: b :: c :: l) 2 = some c := atI_nat (j := 2) rfl
theorem atI_3 (a b c d : D) (l : List D) : atI (a :: b :: c :: d :: l) 3 = some d := atI_nat (j := 3) rfl
theorem atI_4 (a b c d e : D) (l : List D) : atI (a :: b :: c :: d :: e :: l) 4 = some e := atI_nat (j := 4) rfl
@[simp] theorem ix_t0 (a : D) (l : List D) : ixD (.tuple (a :: l)) (.int 0) = some a := atI_z a l
@[simp] theorem ix_t1 (a b : D) (l : List D) : ixD (.tuple (a :: b :: l)) (.int 1) = some b := atI_1 a b l
@[simp] theorem ix_t2 (a b c : D) (l : List D) : ixD (.tuple (a :: b :: c :: l)) (.int 2) = some c := atI_2 a b c l
@[simp] theorem ix_t3 (a b c d : D) (l : List D) : ixD (.tuple (a :: b :: c :: d :: l)) (.int 3) = some d := atI_3 a b c d l
@[simp] theorem ix_t4 (a b c d e : D) (l : List D) : ixD (.tuple (a :: b :: c :: d :: e :: l)) (.int 4) = some e := atI_4 a b c d e l
@[simp] theorem ix_l0 (a : D) (l : List D) : ixD (.list (a :: l)) (.int 0) = some a := atI_z a l
@[simp] theorem ix_l1 (a b : D) (l : List D) : ixD (.list (a :: b :: l)) (.int 1) = some b := atI_1 a b l
@[simp] theorem ix_l2 (a b c : D) (l : List D) : ixD (.list (a :: b :: c :: l)) (.int 2) = some c := atI_2 a b c l
@[simp] theorem ix_l3 (a b c d : D) (l : List D) : ixD (.list (a :: b :: c :: d :: l)) (.int 3) = some d := atI_3 a b c d l
theorem cut_from (ds : List D) (k : Nat) : cutL ds (some (k : Int)) none = ds.drop k := by
  unfold cutL
  rw [HT.sIx_nat, HT.sIx_none]
  by_cases h : k ≤ ds.length
  · rw [Nat.min_eq_left h]
    apply List.take_of_length_le
    rw [List.length_drop]; exact Nat.le_refl _
  · have h' : ds.length ≤ k := by omega
    rw [Nat.min_eq_right h', List.drop_length, List.drop_eq_nil_of_le h']
    simp
@[simp] theorem sl_t1 (ds : List D) : slLo (.tuple ds) (.int 1) = some (.tuple (ds.drop 1)) := by
  show some (PyData.tuple (cutL ds (some ((1 : Nat) : Int)) none)) = _
  rw [cut_from]
@[simp] theorem sl_l1 (ds : List D) : slLo (.list ds) (.int 1) = some (.list (ds.drop 1)) := by
  show some (PyData.list (cutL ds (some ((1 : Nat) : Int)) none)) = _
  rw [cut_from]
end DL
namespace DL
open PySem PySem.Spec PyProof.Rows L2
def bkM (ev : Ev) : Ms := fun rs => some (.bk ev, rs)
def ctM (ev : Ev) : Ms := fun rs => some (.ct ev, rs)
/-- a turn's end, then the loop goes on -/
def wl (m : Ms) (k : Ev → Ms) : Ms := fun rs => match m rs with
  | some (.nx ev', rs') => k ev' rs'
  | some (.ct ev', rs') => k ev' rs'
  | some (.bk ev', rs') => some (.nx ev', rs')
  | some (.ret d, rs') => some (.ret d, rs')
  | some (.exc x i, rs') => some (.exc x i, rs')
  | none => none
def dynM (m n : Mn D) : Mn D := fun rs => match m rs with
  | some q => some q
  | none => match n rs with
    | some (.val d, rs') => if noL d = true then some (.val d, rs') else none
    | _ => none
section
variable {α β γ : Type} {ev : Ev} {f g : Ev → Ms} {k : Ev → Ms}
@[simp] theorem sq_bk (e : Ev) : sq (bkM e) g = bkM e := rfl
@[simp] theorem sq_ct (e : Ev) : sq (ctM e) g = ctM e := rfl
@[simp] theorem sBk_eq : sBk ev = bkM ev := rfl
@[simp] theorem sCt_eq : sCt ev = ctM ev := rfl
@[simp] theorem wl_nx (e : Ev) : wl (nxM e) k = k e := rfl
@[simp] theorem wl_ct (e : Ev) : wl (ctM e) k = k e := rfl
@[simp] theorem wl_bk (e : Ev) : wl (bkM e) k = nxM e := rfl
@[simp] theorem wl_rt (d : D) : wl (rtM d) k = rtM d := rfl
@[simp] theorem wl_ex (x : Str) (i : Option Int) : wl (exM x i) k = exM x i := rfl
@[simp] theorem wl_st : wl stS k = stS := rfl
@[simp] theorem wl_ite (c : Prop) [Decidable c] (a b : Ms) : wl (if c then a else b) k = if c then wl a k else wl b k := by split <;> rfl
theorem whileN_s (t : Ev → Mn Bool) (b : Ev → Ms) (n : Nat) : whileN t b (n + 1) ev = bnS (t (lend ev)) fun c => if c = true then wl (b ev) (whileN t b n) else nxM ev := rfl
@[simp] theorem forGo_nil (t : Tgt) (b : Ev → Ms) : forGo t b [] ev = nxM ev := rfl
@[simp] theorem forGo_cons (t : Tgt) (b : Ev → Ms) (d : D) (ds : List D) : forGo t b (d :: ds) ev = bnS (lft (t.of d)) fun es => wl (b (setE ev t.ix es)) (forGo t b ds) := by
  funext rs
  show (match t.of d with | none => none | some es => _) = _
  cases t.of d <;> rfl
theorem sFor_f (src : Ev → Mn (List D)) (t : Tgt) (b : Ev → Ms) : sFor false src t b ev = bnS (src ev) fun ds => forGo t b ds ev := rfl
@[simp] theorem dyn_eq (h : Ev → Mn D) : dyn h ev = dynM (h ev) (h (lend ev)) := rfl
@[simp] theorem dynM_pur (d : D) (n : Mn D) : dynM (pur d) n = pur d := rfl
@[simp] theorem dynM_stk (d : D) : dynM stk (pur d) = if noL d = true then pur d else stk := by
  funext rs
  show (if noL d = true then _ else _) = _
  split <;> rfl
@[simp] theorem sSet_eq (i : Nat) (h : Ev → Mn D) : sSet i h ev = bnS (dyn h ev) fun d => nxM (ev.set i (.dat d)) := rfl
@[simp] theorem sTgt_eq (t : Tgt) (h : Ev → Mn D) : sTgt t h ev = bnS (bnd (dyn h ev) fun d => lft (t.of d)) fun ds => nxM (setE ev t.ix ds) := rfl
@[simp] theorem sOwn_eq (i : Nat) (h : Ev → Mn (List Slot)) : sOwn i h ev = bnS (bnd (h ev) fun ss => lft (if ss.length ≤ sizeLine then dats ss else none)) fun ds => nxM (ev.set i (.own ds)) := rfl
@[simp] theorem sDrop_eq (h : Ev → Mn D) : sDrop h ev = bnS (h (lend ev)) fun _ => nxM ev := rfl
@[simp] theorem sApp_eq (i : Nat) (h : Ev → Mn D) : sApp i h ev = bnS (bnd (lft (getO ev i)) fun ds => bnd (dyn h ev) fun d => lft (if ds.length < sizeLine then some (ds ++ [d]) else none)) fun es => nxM (ev.set i (.own es)) := rfl
@[simp] theorem sExt_eq (i : Nat) (h : Ev → Mn D) : sExt i h ev = bnS (bnd (lft (getO ev i)) fun ds => bnd (h ev) fun d => lft ((lstD d).bind fun es => if ds.length + es.length ≤ sizeLine then some (ds ++ es) else none)) fun es => nxM (ev.set i (.own es)) := rfl
@[simp] theorem sPop_eq (j i : Nat) : sPop j i ev = bnS (lft ((getO ev i).bind fun ds => (ds[ds.length - 1]?).map fun d => (ds.dropLast, d))) fun q => nxM ((ev.set i (.own q.1)).set j (.dat q.2)) := rfl
def augD (op : Int → Int → Int) (a b : D) : Option D := match a, b with
  | .int x, .int y => some (PyData.int (op x y))
  | _, _ => none
@[simp] theorem sAug_eq (i : Nat) (h : Ev → Mn D) (op : Int → Int → Int) : sAug i h op ev = bnS (bnd (lft (getE ev i)) fun a => bnd (h (lend ev)) fun b => lft (augD op a b)) fun d => nxM (ev.set i (.dat d)) := rfl
@[simp] theorem augD_i (op : Int → Int → Int) (x y : Int) : augD op (.int x) (.int y) = some (.int (op x y)) := rfl
@[simp] theorem getO_z (ds : List D) (r : Ev) : getO (.own ds :: r) 0 = some ds := rfl
@[simp] theorem getO_s (s : Slot) (r : Ev) (i : Nat) : getO (s :: r) (i + 1) = getO r i := by unfold getO; rw [List.getElem?_cons_succ]
@[simp] theorem getE_own (ds : List D) (r : Ev) : getE (.own ds :: r) 0 = none := rfl
@[simp] theorem lstD_l (ds : List D) : lstD (.list ds) = some ds := rfl
end
end DL
namespace DL
open PySem PySem.Spec PyProof.Rows L2
def tk (m : Int) (rs : RS) : Int × RS :=
  if 0 < rs.c then (rs.c % m, { rs with c := rs.c / m })
  else if rs.ns.length ≤ rs.a then
    let b := (rs.b * 48271 + 11) % 2147483647
    ((b / 7) % m, { rs with a := rs.a + 1, b := b })
  else
    let cell := rs.ns.getD rs.a 0
    let b := (rs.b * 48271 + cell + 11) % 2147483647
    (cell % m, { rs with a := rs.a + 1, b := b, c := if 10 ^ 18 ≤ cell then cell / m else rs.c })
def tkF : List Slot → Mn D := fun ss rs => match ss with
  | [.row, .dat (.int m)] => if 0 < m ∧ m < 1073741824 then some (.val (.int (tk m rs).1), (tk m rs).2) else none
  | _ => none
theorem tk_range (m : Int) (rs : RS) (h : 0 < m) : 0 ≤ (tk m rs).1 ∧ (tk m rs).1 < m := by
  unfold tk
  split
  · exact ⟨Int.emod_nonneg _ (by omega), Int.emod_lt_of_pos _ h⟩
  · split
    · exact ⟨Int.emod_nonneg _ (by omega), Int.emod_lt_of_pos _ h⟩
    · exact ⟨Int.emod_nonneg _ (by omega), Int.emod_lt_of_pos _ h⟩
/-- the row's heap, written -/
def rowV (r : Rw) (rs : RS) : List V := [.ref r.sc, .int (rs.a : Int), .int rs.b, .int rs.c]
theorem row_put {K : PySem.W.Frag} {M : Addr → Prop} {H H' : Hp} {r : Rw} {rs rs' : RS} (mr : M r.a) (h : RowAt K M H r rs) (hs : Stp r H H') (e : H' r.a = some (.lst (rowV r rs'))) (en : rs'.ns = rs.ns) : RowAt K M H' r rs' :=
  ⟨⟨e, en.trans h.1.2⟩, sqlm_kp h.2 (hs.kp mr)⟩
theorem stp_upd {r : Rw} {H : Hp} {o : HO} : Stp r H (upd H r.a o) := fun b u n e => by rw [upd_ne n]; exact e
end DL
namespace DL
open PySem PySem.Spec PyProof.Rows L2
section
variable {G : Gm} {k : Nat} {sc : Sx} {N : List Str} {X : Cx}
def intsD : List D → Option (List Int)
  | [] => some []
  | .int i :: ds => (intsD ds).map (i :: ·)
  | _ :: _ => none
theorem ints_da {K : PySem.W.Frag} {M : Addr → Prop} {H : Hp} : ∀ {vs : List V} {ds : List D} {ns : List Int}, DaL K M H vs ds → intsD ds = some ns → vs = ns.map V.int
  | _, _, _, .nil, e => by cases e; rfl
  | _, _, _, .cons h t, e => by
    cases h with
    | int i =>
      unfold intsD at e
      cases q : intsD _ with
      | none => rw [q] at e; cases e
      | some ns => rw [q] at e; cases e; rw [ints_da t q]; rfl
    | _ => cases e
def sumD : List D → Option D
  | [.list ds] => (intsD ds).map fun ns => .int ns.sum
  | _ => none
theorem e_sum {e : Expr} {f : Ev → Mn (List Slot)} {p pos : Pos} (ha : SA G k sc N [e] f) (hm : Mg0 G "sum") (hg : glB sc "sum" = true := by rfl) (he : ∀ env, starEach [e] env = (false, eval e env) :: starEach [] env := by intro _; rfl) :
    SE G k sc N (.Call (.Name "sum" p) [e] [] pos) (dFn sumD f) :=
  e_blt ha (fun X g => cr_sum g.calm) (fun X M H vs ds d Q g ml h e hq => by
    unfold sumD at e
    split at e
    · rename_i ds'
      obtain ⟨v, rfl, h1⟩ := one_da h
      cases h1 with
      | lst h2 n t =>
        cases q : intsD ds' with
        | none => rw [q] at e; cases e
        | some ns =>
          rw [q] at e; cases e
          have e2 := ints_da t q
          subst e2
          exact ⟨_, ns, rfl, .of h2, hq _ H (.refl _) (.int _)⟩
    · cases e) (by decide +kernel) hm hg (by decide) (by decide) he (fun _ => rfl)
def max2D : List D → Option D
  | [.int i, .int j] => some (.int (if j > i then j else i))
  | _ => none
def min2D : List D → Option D
  | [.int i, .int j] => some (.int (if j < i then j else i))
  | _ => none
theorem e_max2 {a b : Expr} {f : Ev → Mn (List Slot)} {p pos : Pos} (ha : SA G k sc N [a, b] f) (hm : Mg0 G "max") (hg : glB sc "max" = true := by rfl) (he : ∀ env, starEach [a, b] env = (false, eval a env) :: starEach [b] env := by intro _; rfl) (hpl : ∀ env, (backTo pos (starEach [b] env)).any (·.1) = false := by intro _; rfl) :
    SE G k sc N (.Call (.Name "max" p) [a, b] [] pos) (dFn max2D f) :=
  e_blt ha (fun X g => call_max2 g.calm) (fun X M H vs ds d Q g ml h e hq => by
    unfold max2D at e
    split at e
    · obtain ⟨v, v', rfl, h1, h2⟩ := two_da h
      cases e
      cases h1
      cases h2
      exact ⟨_, _, rfl, hq _ H (.refl _) (.int _)⟩
    · cases e) (by decide +kernel) hm hg (by decide) (by decide) he hpl
theorem e_min2 {a b : Expr} {f : Ev → Mn (List Slot)} {p pos : Pos} (ha : SA G k sc N [a, b] f) (hm : Mg0 G "min") (hg : glB sc "min" = true := by rfl) (he : ∀ env, starEach [a, b] env = (false, eval a env) :: starEach [b] env := by intro _; rfl) (hpl : ∀ env, (backTo pos (starEach [b] env)).any (·.1) = false := by intro _; rfl) :
    SE G k sc N (.Call (.Name "min" p) [a, b] [] pos) (dFn min2D f) :=
  e_blt ha (fun X g => call_min2 g.calm) (fun X M H vs ds d Q g ml h e hq => by
    unfold min2D at e
    split at e
    · obtain ⟨v, v', rfl, h1, h2⟩ := two_da h
      cases e
      cases h1
      cases h2
      exact ⟨_, _, rfl, hq _ H (.refl _) (.int _)⟩
    · cases e) (by decide +kernel) hm hg (by decide) (by decide) he hpl
end
end DL
namespace DL
open PySem PySem.Spec PyProof.Rows L2
section
variable {G : Gm} {k : Nat} {sc : Sx} {N : List Str} {X : Cx}
def isLst : D → Bool
  | .list _ => true
  | _ => false
def dMtL (op : D → D → Option D) (fo fe : Ev → Mn D) (ev : Ev) : Mn D := bnd (fo ev) fun x => if isLst x = true then bnd (fe ev) fun y => lft (op x y) else fun _ => none
@[simp] theorem dMtL_eq (op : D → D → Option D) (fo fe : Ev → Mn D) (ev : Ev) : dMtL op fo fe ev = bnd (fo ev) fun x => if isLst x = true then bnd (fe ev) fun y => lft (op x y) else stk := rfl
def repL (n : Nat) (xs : List D) : List D := (List.replicate n xs).flatten
def mulxD : D → D → Option D
  | .int i, .int j => if (-(2 ^ 64) < i ∧ i < 2 ^ 64) ∨ (-(2 ^ 64) < j ∧ j < 2 ^ 64) then some (.int (i * j)) else none
  | .list xs, .int n => if -(2 ^ 63) ≤ n ∧ n < 2 ^ 63 ∧ xs.length * n.toNat ≤ sizeLine then some (.list (repL n.toNat xs)) else none
  | .tuple xs, .int n => if xs ≠ [] ∧ 2 ≤ n ∧ n ≤ 1000 ∧ xs.length ≤ 1000 then some (.tuple (repL n.toNat xs)) else none
  | _, _ => none
theorem DaL.rep {K : PySem.W.Frag} {M : Addr → Prop} {H : Hp} {vs : List V} {ds : List D} (h : DaL K M H vs ds) : ∀ n : Nat, DaL K M H (List.replicate n vs).flatten (repL n ds)
  | 0 => .nil
  | n + 1 => by
    unfold repL
    rw [List.replicate_succ, List.replicate_succ, List.flatten_cons, List.flatten_cons]
    exact h.append (h.rep n)
theorem e_mulx {a b : Expr} {fa fb : Ev → Mn D} {p : Pos} (ha : SE G k sc N a fa) (hb : SE G k sc N b fb) : SE G k sc N (.BinOp a .Mult b p) (dBin mulxD fa fb) := by
  refine e_bin ha hb (fun X ta tb g h1 h2 => pe_op (op_mul.or (op_rep.or op_repT)) h1 h2) fun X M H x y dx dy d Q g ml hx hy e hq => ?_
  cases hx with
  | int i =>
    cases hy with
    | int j =>
      have e : (if (-(2 ^ 64) < i ∧ i < 2 ^ 64) ∨ (-(2 ^ 64) < j ∧ j < 2 ^ 64) then some (PyData.int (i * j)) else none) = some d := e
      split at e
      · rename_i hl; cases e; exact .inl ⟨i, j, rfl, rfl, hl, hq _ H (.refl _) (.int _)⟩
      · cases e
    | _ => cases e
  | lst h n t =>
    cases hy with
    | int j =>
      rename_i a xs ds
      have e : (if -(2 ^ 63) ≤ j ∧ j < 2 ^ 63 ∧ ds.length * j.toNat ≤ sizeLine then some (PyData.list (repL j.toNat ds)) else none) = some d := e
      split at e
      · rename_i hl
        cases e
        exact .inr (.inl ⟨_, _, _, rfl, rfl, h, hl.1, hl.2.1, by rw [t.length]; exact hl.2.2, fun p hp => hq _ _ (same_upd hp) (Da.newL ml hp (t.rep _))⟩)
      · cases e
    | _ => cases e
  | tup h t =>
    cases hy with
    | int j =>
      rename_i a xs ds
      have e : (if ds ≠ [] ∧ 2 ≤ j ∧ j ≤ 1000 ∧ ds.length ≤ 1000 then some (PyData.tuple (repL j.toNat ds)) else none) = some d := e
      split at e
      · rename_i hl
        cases e
        refine .inr (.inr ⟨_, _, _, rfl, rfl, by rw [g.hK]; exact h, fun z => ?_, hl.2.1, hl.2.2.1, by rw [t.length]; exact hl.2.2.2, fun p hp => hq _ _ (same_upd hp) (Da.newT ml hp (t.rep _))⟩)
        subst z
        cases t
        exact hl.1 rfl
      · cases e
    | _ => cases e
  | _ => cases hy <;> cases e
section
end
end
end DL
namespace DL
open PySem PySem.Spec PyProof.Rows L2
section
variable {K : PySem.W.Frag} {M : Addr → Prop} {H H' : Hp} {r : Rw} {rs : RS}
def lookL : List (Str × D) → Str → Option D
  | [], _ => none
  | (x, d) :: ps, z => if x = z then some d else lookL ps z
end
def dDisp : List (Str × (Ev → Mn D)) → Ev → Mn (List (Str × D))
  | [], _ => pur []
  | (x, f) :: r, ev => bnd (f ev) fun d => bnd (dDisp r ev) fun ps => pur ((x, d) :: ps)
def dDGet (kfs : List (Str × (Ev → Mn D))) (fw : Ev → Mn D) (ev : Ev) : Mn D := bnd (dDisp kfs ev) fun ps => bnd (fw ev) fun w => lft (match w with
  | .str z => lookL ps z
  | _ => none)
@[simp] theorem dDisp_nil (ev : Ev) : dDisp [] ev = pur [] := rfl
@[simp] theorem dDisp_cons (x : Str) (f : Ev → Mn D) (r : List (Str × (Ev → Mn D))) (ev : Ev) : dDisp ((x, f) :: r) ev = bnd (f ev) fun d => bnd (dDisp r ev) fun ps => pur ((x, d) :: ps) := rfl
section
variable {G : Gm} {k : Nat} {sc : Sx} {N : List Str}
inductive SPr (G : Gm) (k : Nat) (sc : Sx) (N : List Str) : List (Option Expr) → List Expr → List (Str × (Ev → Mn D)) → Prop
  | nil : SPr G k sc N [] [] []
  | cons {x : Str} {j : Nat} {p : Pos} {ks : List (Option Expr)} {v : Expr} {vs : List Expr} {f : Ev → Mn D} {r : List (Str × (Ev → Mn D))} : SE G k sc N v f → SPr G k sc N ks vs r → SPr G k sc N (some (.Constant (.str x) j p) :: ks) (v :: vs) ((x, f) :: r)
theorem SPr.len : ∀ {ks : List (Option Expr)} {vs : List Expr} {r : List (Str × (Ev → Mn D))}, SPr G k sc N ks vs r → ks.length = r.length ∧ vs.length = r.length ∧ ks.all (·.isSome) = true
  | _, _, _, .nil => ⟨rfl, rfl, rfl⟩
  | _, _, _, .cons h t => ⟨congrArg (· + 1) t.len.1, congrArg (· + 1) t.len.2.1, by simp [t.len.2.2]⟩
end
end DL
namespace DL
open PySem PySem.Spec PyProof.Rows L2
section
variable {G : Gm} {k : Nat} {sc : Sx} {N : List Str}
def dStuck (_ : Ev) : Mn D := fun _ => none
def sStuck (_ : Ev) : Ms := fun _ => none
theorem s_stuck {st : Stmt} : SS G k sc N st sStuck := fun X W g tk po => ⟨fun pins s σ H D I h => by
  obtain ⟨M, r, Pr, ev, rs, oa, R, o, rs', e, w⟩ := h
  cases e⟩
@[simp] theorem dStuck_eq (ev : Ev) : dStuck ev = stk := rfl
@[simp] theorem sStuck_eq (ev : Ev) : sStuck ev = stS := rfl
end
end DL
namespace DL
open PySem PySem.Spec PyProof.Rows L2
section
variable {G : Gm} {k : Nat} {sc : Sx} {N : List Str}
def pPar3 (i j l : Nat) (f : Ev → Mn (List Slot)) (ev : Ev) : Ms := bnS (bnd (f ev) fun ss => lft (dats ss)) fun ds rs => match ds with
  | [d, e, c] => some (.nx (((ev.set i (.dat d)).set j (.dat e)).set l (.dat c)), rs)
  | _ => none
theorem pPar3_eq (i j l : Nat) (f : Ev → Mn (List Slot)) (ev : Ev) : pPar3 i j l f ev = bnS (bnd (f ev) fun ss => lft (dats ss)) fun ds => match ds with
  | [d, e, c] => nxM (((ev.set i (.dat d)).set j (.dat e)).set l (.dat c))
  | _ => stS := by
  unfold pPar3
  congr 1
  funext ds
  rcases ds with _ | ⟨a, _ | ⟨b, _ | ⟨c, _ | ⟨d, t⟩⟩⟩⟩ <;> rfl
theorem three_da {K : PySem.W.Frag} {M : Addr → Prop} {H : Hp} {vs : List V} {d d' d'' : D} (h : DaL K M H vs [d, d', d'']) : ∃ v v' v'', vs = [v, v', v''] ∧ Da K M H v d ∧ Da K M H v' d' ∧ Da K M H v'' d'' := by
  cases h with
  | cons a t =>
    obtain ⟨v, v', e, q, q'⟩ := two_da t
    subst e
    exact ⟨_, _, _, rfl, a, q, q'⟩
theorem P_par3 (i j l : Nat) {x y z : Str} {a b c : Expr} {px py pz pt p pt2 : Pos} {kt k2 : Nat} {f : Ev → Mn (List Slot)} (h : SA G k sc N [a, b, c] f) (hi : N[i]? = some x := by rfl) (hj : N[j]? = some y := by rfl) (hl : N[l]? = some z := by rfl) (hij : i ≠ j := by decide) (hil : i ≠ l := by decide) (hjl : j ≠ l := by decide)
    (hx : plocB sc x = true := by rfl) (hy : plocB sc y = true := by rfl) (hz : plocB sc z = true := by rfl)
    (hw : ∀ env, env.scope = sc.sc → swappedStores [.Tuple [.Name x px, .Name y py, .Name z pz] kt pt] (.Tuple [a, b, c] k2 pt2) env = pure (some [x, y, z]) := by intro env h; first | rfl | (cases env; cases h; rfl))
    (hs : ∀ env, swapsWithSole [.Tuple [.Name x px, .Name y py, .Name z pz] kt pt] (.Tuple [a, b, c] k2 pt2) p.line env = pure false := by intro _; rfl) :
    SS G k sc N (.Assign [.Tuple [.Name x px, .Name y py, .Name z pz] kt pt] (.Tuple [a, b, c] k2 pt2) p) (pPar3 i j l f) := fun X W g tk po => by
  refine ps_imp (ps_par3 (i := i) (j := j) (l := l) g.calm (by rw [g.hN]; exact g.nd) (by rw [g.hN]; exact hi) (by rw [g.hN]; exact hj) (by rw [g.hN]; exact hl) hij hil hjl (ploc_of g hx) (ploc_of g hy) (ploc_of g hz) (h X W g tk) (hw _ g.hsc) (hs _)) fun D σ H h => ?_
  obtain ⟨M, r, Pr, ev, rs, oa, R, o, rs', e, w⟩ := h
  have sub : ∀ {ev : Ev} {i : Nat} {d : PyData} (b : Addr), Av M (ev.set i (.dat d)) oa b → Av M ev oa b := fun b m => m.elim .inl fun ⟨j', o, e⟩ => .inr ⟨j', (isOwn_set (fun ds e => by cases e) o).1, e⟩
  rcases bnS_some e with ⟨ds, rs1, e1, e2⟩ | ⟨x, j, e1, rfl⟩
  · split at e2
    · rename_i d1 d2 d3
      cases e2
      rcases bnd_some e1 with ⟨ss, rs2, e3, e4⟩ | ⟨_, _, _, e4⟩
      · obtain ⟨ds', e5, e6, rfl⟩ := lft_some e4
        cases e6
        refine ⟨_, r, ev, rs, R.e, .val ss, _, e3, fun H1 s1 w1 vs hvs => ?_⟩
        obtain ⟨v, v', v'', rfl, h1, h2, h3⟩ := three_da (hvs.dats e5)
        have R1 := R.stp s1 w1
        exact ⟨v, v', v'', rfl, w _ _ oa (((R1.set1 h1).set1 (h2.sub sub)).set1 ((h3.sub sub).sub sub))⟩
      · cases e4
    · cases e2
  · rcases bnd_some e1 with ⟨d, rs2, e3, e4⟩ | ⟨y, j', e3, e4⟩
    · obtain ⟨ds', e5, e6, rfl⟩ := lft_some e4
      cases e6
    · cases e4
      exact ⟨_, r, ev, rs, R.e, .exc x j, rs', e3, fun cls dd H' s w1 a => w cls dd σ H' (R.stp s w1).prot (row_sub w1 fun b m => .inl m) a⟩
def nestD (n : Nat) : D → Option (List D)
  | .tuple [d, .tuple es] => if es.length = n then some (d :: es) else none
  | _ => none
def pTgN (i : Nat) (js : List Nat) (f : Ev → Mn D) (ev : Ev) : Ms := bnS (bnd (f ev) fun d => lft (nestD js.length d)) fun ds rs => some (.nx (setE ev (i :: js) ds), rs)
@[simp] theorem pTgN_eq (i : Nat) (js : List Nat) (f : Ev → Mn D) (ev : Ev) : pTgN i js f ev = bnS (bnd (f ev) fun d => lft (nestD js.length d)) fun ds => nxM (setE ev (i :: js) ds) := rfl
theorem P_tgN (i : Nat) (js : List Nat) {x : Str} {ys : List Expr} {e : Expr} {px pt pt2 p : Pos} {k1 k2 : Nat} {f : Ev → Mn D} (h : SE G k sc N e f) (hg : GNs sc N ys js) (hi : N[i]? = some x := by rfl) (hl : locB sc x = true := by rfl)
    (hs : ∀ env, swapsWithSole [.Tuple [.Name x px, .Tuple ys k1 pt] k2 pt2] e p.line env = pure false := by intro _; rfl) (hw : ∀ env, env.scope = sc.sc → swappedStores [.Tuple [.Name x px, .Tuple ys k1 pt] k2 pt2] e env = pure none := by intro env h; first | rfl | (cases env; cases h; rfl)) :
    SS G k sc N (.Assign [.Tuple [.Name x px, .Tuple ys k1 pt] k2 pt2] e p) (pTgN i js f) := fun X W g tk po => by
  obtain ⟨u, h1, h4⟩ := gns_go (G := G) (k := k) hg
  obtain ⟨q1, q2, q3⟩ := h1 X g
  refine ps_imp (ps_asg (h X W g tk) (pg_tup g.calm (pgs_cons (pg_at g hi hl) (pgs_cons (pg_tup g.calm q1 q2 q3) pgs_nil)) (n := 2)) (hs _) (hw _ g.hsc)) fun D σ H h => ?_
  obtain ⟨M, r, Pr, ev, rs, oa, R, o, rs', e, w⟩ := h
  rcases bnS_some e with ⟨ds, rs1, e1, e2⟩ | ⟨x, j, e1, rfl⟩
  · cases e2
    rcases bnd_some e1 with ⟨d, rs2, e3, e4⟩ | ⟨_, _, _, e4⟩
    · obtain ⟨ds', e5, e6, rfl⟩ := lft_some e4
      cases e6
      refine R.evE R.e (fun b m => .inl m) e3 (fun d' ed v H' R' s dv => ?_) fun _ _ ed => by cases ed
      cases ed
      rw [g.hK]
      unfold nestD at e5
      split at e5
      · split at e5
        · rename_i hl2
          cases e5
          cases dv with
          | tup a t =>
            obtain ⟨v1, v2, rfl, d1, d2⟩ := two_da t
            cases d2 with
            | tup a2 t2 =>
              exact ⟨_, _, rfl, a, rfl, _, _, rfl, _, _, rfl, ⟨_, _, rfl, a2, by rw [t2.length]; exact hl2, h4 _ _ _ _ (by rw [t2.length]; exact hl2) ⟨rfl, w _ _ oa (R'.setL (is := i :: js) (.cons d1 t2))⟩⟩⟩
        · cases e5
      · cases e5
    · cases e4
  · rcases bnd_some e1 with ⟨d, rs2, e3, e4⟩ | ⟨y, j', e3, e4⟩
    · obtain ⟨ds', e5, e6, rfl⟩ := lft_some e4
      cases e6
    · cases e4
      exact R.evE R.e (fun b m => .inl m) e3 (fun _ ed => by cases ed) fun y j ed => by cases ed; exact w
end
end DL
namespace LW
open PySem PySem.Spec PyProof.Rows L2 DL
def d__law_pick (f__law_taken : List Slot → Mn D) : Ev → Ms :=
    pRet (dBin ixD (dVar 1) (dCl 2 f__law_taken (dRow 0 (dCons (dFn lenD (dCons (dVar 1) (dNil))) (dNil)))))
def d__law_alike (f__law_alike : List Slot → Mn D) : Ev → Ms :=
    seqM (pIf (dTru (dIsi [.tuple, .list] (dVar 1))) (seqM (pIf (dOr (dNot (dTru (dIsi [.tuple, .list] (dVar 0)))) (dCmp neD (dIsi [.list] (dVar 0)) (dIsi [.list] (dVar 1)))) (pRet (dLit (.bool false))) (sNil))
    (seqM (pIf (dCmp neD (dFn lenD (dCons (dVar 0) (dNil))) (dFn lenD (dCons (dVar 1) (dNil)))) (pRet (dLit (.bool false))) (sNil))
    (pRet (dCmpE eqD (dComp [2] (dRng rng1 (dCons (dFn lenD (dCons (dVar 1) (dNil))) (dNil))) (.name 2) (dNot (dTru (dCl 2 f__law_alike (dCons (dBin ixD (dVar 0) (dVar 2)) (dCons (dBin ixD (dVar 1) (dVar 2)) (dNil)))))) (dVar 2)) (dLst (dNil)))))) (sNil))
    (seqM (pIf (dOr (dCmp isD (dVar 1) (dLit .none)) (dTru (dIsi [.str] (dVar 1)))) (pRet (dAndV (dCmpE eqD (dVar 0) (dVar 1)) (dCmpE eqD (dIsi [.str] (dVar 0)) (dIsi [.str] (dVar 1))))) (sNil))
    (pRet (dAndV (dIsi [.int] (dVar 0)) (dAndV (dCmpE eqD (dIsi [.bool] (dVar 0)) (dIsi [.bool] (dVar 1))) (dCmpE eqD (dVar 0) (dVar 1))))))
def d__law_semantics (f__law_pick : List Slot → Mn D) : Ev → Ms :=
    seqM (pPar 1 2 (dCons (dCl 2 f__law_pick (dRow 0 (dCons (dLst (dCons (dLit (.str "bag")) (dCons (dLit (.str "bag")) (dCons (dLit (.str "set")) (dNil))))) (dNil)))) (dCons (dCl 2 f__law_pick (dRow 0 (dCons (dLst (dCons (dLit (.str "maximum")) (dCons (dLit (.str "sum")) (dNil)))) (dNil)))) (dNil))))
    (seqM (pPar 3 4 (dCons (dCl 2 f__law_pick (dRow 0 (dCons (dLst (dCons (dLit (.str "count")) (dCons (dLit (.str "kind")) (dNil)))) (dNil)))) (dCons (dCl 2 f__law_pick (dRow 0 (dCons (dLst (dCons (dLit (.str "none")) (dCons (dLit (.str "unknown")) (dCons (dLit (.str "unknown")) (dCons (dLit (.str "value")) (dNil)))))) (dNil)))) (dNil))))
    (pRet (dTup (dCons (dVar 1) (dCons (dVar 2) (dCons (dVar 3) (dCons (dVar 4) (dCons (dCl 2 f__law_pick (dRow 0 (dCons (dLst (dCons (dLit (.str "null")) (dCons (dLit (.str "zero")) (dNil)))) (dNil)))) (dNil)))))))))
def d__law_join  : Ev → Ms :=
    seqM (pSet 3 (dLst (dCons (dVar 1) (dCons (dVar 2) (dNil)))))
    (seqM (pIf (dCmp eqD (dVar 0) (dLit (.str "and"))) (pRet (dIf (dCmp inD (dLit (.bool false)) (dVar 3)) (dLit (.bool false)) (dIf (dCmp inD (dLit .none) (dVar 3)) (dLit .none) (dLit (.bool true))))) (sNil))
    (pRet (dIf (dCmp inD (dLit (.bool true)) (dVar 3)) (dLit (.bool true)) (dIf (dCmp inD (dLit .none) (dVar 3)) (dLit .none) (dLit (.bool false))))))
def d__law_many  : Ev → Ms :=
    seqM (pIf (dCmp eqD (dVar 1) (dLit (.str "union"))) (pSet 4 (dIf (dCmp eqD (dBin ixD (dVar 0) (dLit (.int 1))) (dLit (.str "sum"))) (dBin addD (dVar 2) (dVar 3)) (dFn max2D (dCons (dVar 2) (dCons (dVar 3) (dNil)))))) (pIf (dCmp eqD (dVar 1) (dLit (.str "intersection"))) (pSet 4 (dFn min2D (dCons (dVar 2) (dCons (dVar 3) (dNil))))) (pIf (dOr (dCmp eqD (dBin ixD (dVar 0) (dLit (.int 0))) (dLit (.str "set"))) (dCmp eqD (dBin ixD (dVar 0) (dLit (.int 2))) (dLit (.str "kind")))) (pSet 4 (dBin mulxD (dVar 2) (dFn intD (dCons (dCmpE eqD (dVar 3) (dLit (.int 0))) (dNil))))) (pSet 4 (dFn max2D (dCons (dLit (.int 0)) (dCons (dBin subD (dVar 2) (dVar 3)) (dNil))))))))
    (pRet (dIf (dCmp eqD (dBin ixD (dVar 0) (dLit (.int 0))) (dLit (.str "set"))) (dFn min2D (dCons (dVar 4) (dCons (dLit (.int 1)) (dNil)))) (dVar 4)))
def d__law_condition (f__law_taken : List Slot → Mn D) (f__law_pick : List Slot → Mn D) (f__law_condition : List Slot → Mn D) : Ev → Ms :=
    seqM (pSet 2 (dCl 2 f__law_taken (dRow 0 (dCons (dBin addD (dLit (.int 3)) (dBin mulxD (dLit (.int 3)) (dFn intD (dCons (dCmpE gtD (dVar 1) (dLit (.int 0))) (dNil))))) (dNil)))))
    (seqM (pIf (dCmp ltD (dVar 2) (dLit (.int 3))) (pRet (dCl 2 f__law_pick (dRow 0 (dCons (dLst (dCons (dTup (dCons (dLit (.str "p")) (dNil))) (dCons (dTup (dCons (dLit (.str "p")) (dNil))) (dCons (dTup (dCons (dLit (.str "q")) (dNil))) (dNil))))) (dNil))))) (sNil))
    (seqM (pIf (dCmp eqD (dVar 2) (dLit (.int 3))) (pRet (dTup (dCons (dLit (.str "not")) (dCons (dCl 2 f__law_condition (dRow 0 (dCons (dBin subD (dVar 1) (dLit (.int 1))) (dNil)))) (dNil))))) (sNil))
    (pRet (dTup (dCons (dCl 2 f__law_pick (dRow 0 (dCons (dLst (dCons (dLit (.str "and")) (dCons (dLit (.str "or")) (dNil)))) (dNil)))) (dCons (dCl 2 f__law_condition (dRow 0 (dCons (dBin subD (dVar 1) (dLit (.int 1))) (dNil)))) (dCons (dCl 2 f__law_condition (dRow 0 (dCons (dBin subD (dVar 1) (dLit (.int 1))) (dNil)))) (dNil))))))))
def d__law_expression (f__law_taken : List Slot → Mn D) (f__law_condition : List Slot → Mn D) (f__law_pick : List Slot → Mn D) (f__law_expression : List Slot → Mn D) : Ev → Ms :=
    seqM (pIf (dOr (dCmp ltD (dVar 1) (dLit (.int 2))) (dCmp eqD (dCl 2 f__law_taken (dRow 0 (dCons (dLit (.int 7)) (dNil)))) (dLit (.int 0)))) (pRet (dIf (dCmp gtD (dCl 2 f__law_taken (dRow 0 (dCons (dLit (.int 3)) (dNil)))) (dLit (.int 0))) (dTup (dCons (dLit (.str "table")) (dCons (dCl 2 f__law_taken (dRow 0 (dCons (dLit (.int 2)) (dNil)))) (dNil)))) (dTup (dCons (dLit (.str "filter")) (dCons (dCl 2 f__law_condition (dRow 0 (dCons (dLit (.int 1)) (dNil)))) (dCons (dTup (dCons (dLit (.str "table")) (dCons (dCl 2 f__law_taken (dRow 0 (dCons (dLit (.int 2)) (dNil)))) (dNil)))) (dNil))))))) (sNil))
    (seqM (pSet 2 (dBin addD (dLit (.int 1)) (dCl 2 f__law_taken (dRow 0 (dCons (dBin subD (dVar 1) (dLit (.int 1))) (dNil))))))
    (seqM (pSet 3 (dCl 2 f__law_pick (dRow 0 (dCons (dLst (dCons (dLit (.str "union")) (dCons (dLit (.str "union")) (dCons (dLit (.str "intersection")) (dCons (dLit (.str "difference")) (dCons (dLit (.str "difference")) (dNil))))))) (dNil)))))
    (seqM (pSet 4 (dTup (dCons (dVar 3) (dCons (dCl 2 f__law_expression (dRow 0 (dCons (dVar 2) (dNil)))) (dCons (dCl 2 f__law_expression (dRow 0 (dCons (dBin subD (dVar 1) (dVar 2)) (dNil)))) (dNil))))))
    (pRet (dIf (dCmp eqD (dCl 2 f__law_taken (dRow 0 (dCons (dLit (.int 6)) (dNil)))) (dLit (.int 0))) (dTup (dCons (dLit (.str "filter")) (dCons (dCl 2 f__law_condition (dRow 0 (dCons (dLit (.int 1)) (dNil)))) (dCons (dVar 4) (dNil))))) (dVar 4))))))
def d__law_known (f__law_known : List Slot → Mn D) (f__law_join : List Slot → Mn D) : Ev → Ms :=
    seqM (pIf (dCmp inD (dBin ixD (dVar 0) (dLit (.int 0))) (dLst (dCons (dLit (.str "p")) (dCons (dLit (.str "q")) (dNil))))) (pRet (dIf (dCmp eqD (dBin ixD (dVar 0) (dLit (.int 0))) (dLit (.str "p"))) (dVar 1) (dVar 2))) (sNil))
    (seqM (pSet 3 (dCl 3 f__law_known (dCons (dBin ixD (dVar 0) (dLit (.int 1))) (dCons (dVar 1) (dCons (dVar 2) (dNil))))))
    (seqM (pIf (dCmp eqD (dBin ixD (dVar 0) (dLit (.int 0))) (dLit (.str "not"))) (pRet (dIf (dCmp isD (dVar 3) (dLit .none)) (dLit .none) (dNotV (dVar 3)))) (sNil))
    (pRet (dCl 3 f__law_join (dCons (dBin ixD (dVar 0) (dLit (.int 0))) (dCons (dVar 3) (dCons (dCl 3 f__law_known (dCons (dBin ixD (dVar 0) (dLit (.int 2))) (dCons (dVar 1) (dCons (dVar 2) (dNil))))) (dNil))))))))
def d__law_count (f__law_known : List Slot → Mn D) (f__law_count : List Slot → Mn D) (f__law_many : List Slot → Mn D) : Ev → Ms :=
    seqM (pIf (dCmp eqD (dBin ixD (dVar 1) (dLit (.int 0))) (dLit (.str "table"))) (pRet (dBin ixD (dVar 2) (dBin ixD (dVar 1) (dLit (.int 1))))) (sNil))
    (seqM (pIf (dCmp eqD (dBin ixD (dVar 1) (dLit (.int 0))) (dLit (.str "filter"))) (pRet (dIf (dCmp isD (dCl 3 f__law_known (dCons (dBin ixD (dVar 1) (dLit (.int 1))) (dCons (dBin ixD (dVar 2) (dLit (.int 2))) (dCons (dBin ixD (dVar 2) (dLit (.int 3))) (dNil))))) (dLit (.bool true))) (dCl 3 f__law_count (dCons (dVar 0) (dCons (dBin ixD (dVar 1) (dLit (.int 2))) (dCons (dVar 2) (dNil))))) (dLit (.int 0)))) (sNil))
    (pRet (dCl 4 f__law_many (dCons (dVar 0) (dCons (dBin ixD (dVar 1) (dLit (.int 0))) (dCons (dCl 3 f__law_count (dCons (dVar 0) (dCons (dBin ixD (dVar 1) (dLit (.int 1))) (dCons (dVar 2) (dNil))))) (dCons (dCl 3 f__law_count (dCons (dVar 0) (dCons (dBin ixD (dVar 1) (dLit (.int 2))) (dCons (dVar 2) (dNil))))) (dNil))))))))
def d__law_tuples (f__law_tuples : List Slot → Mn D) : Ev → Ms :=
    pRet (dBin addD (dLit (.int 1)) (dFn sumD (dCons (dComp [1] (dItm (dBin slLo (dVar 0) (dLit (.int 1)))) (.name 1) (dTru (dIsi [.tuple] (dVar 1))) (dCl 1 f__law_tuples (dCons (dVar 1) (dNil)))) (dNil))))
def d__law_tree (f__law_expression : List Slot → Mn D) (f__law_tuples : List Slot → Mn D) : Ev → Ms :=
    seqM (pSet 2 (dCl 2 f__law_expression (dRow 0 (dCons (dVar 1) (dNil)))))
    (pRet (dIf (dCmp ltD (dCl 1 f__law_tuples (dCons (dVar 2) (dNil))) (dLit (.int 13))) (dVar 2) (dTup (dCons (dLit (.str "union")) (dCons (dTup (dCons (dLit (.str "table")) (dCons (dLit (.int 0)) (dNil)))) (dCons (dTup (dCons (dLit (.str "table")) (dCons (dLit (.int 1)) (dNil)))) (dNil)))))))
def d__law_twins (f__law_tree : List Slot → Mn D) (f__law_pick : List Slot → Mn D) : Ev → Ms :=
    seqM (pPar3 1 2 3 (dCons (dCl 2 f__law_tree (dRow 0 (dCons (dLit (.int 3)) (dNil)))) (dCons (dTup (dCons (dLit (.str "table")) (dCons (dLit (.int 0)) (dNil)))) (dCons (dTup (dCons (dLit (.str "table")) (dCons (dLit (.int 1)) (dNil)))) (dNil)))))
    (seqM (pSet 4 (dLst (dCons (dTup (dCons (dTup (dCons (dLit (.str "union")) (dCons (dVar 2) (dCons (dTup (dCons (dLit (.str "intersection")) (dCons (dVar 2) (dCons (dVar 3) (dNil))))) (dNil))))) (dCons (dVar 2) (dNil)))) (dCons (dTup (dCons (dTup (dCons (dLit (.str "intersection")) (dCons (dVar 2) (dCons (dVar 3) (dNil))))) (dCons (dTup (dCons (dLit (.str "difference")) (dCons (dVar 2) (dCons (dTup (dCons (dLit (.str "difference")) (dCons (dVar 2) (dCons (dVar 3) (dNil))))) (dNil))))) (dNil)))) (dNil)))))
    (seqM (pSet 4 (dBin addD (dVar 4) (dLst (dCons (dTup (dCons (dTup (dCons (dLit (.str "difference")) (dCons (dTup (dCons (dLit (.str "union")) (dCons (dVar 2) (dCons (dVar 3) (dNil))))) (dCons (dVar 3) (dNil))))) (dCons (dTup (dCons (dLit (.str "difference")) (dCons (dVar 2) (dCons (dVar 3) (dNil))))) (dNil)))) (dCons (dTup (dCons (dTup (dCons (dLit (.str "difference")) (dCons (dTup (dCons (dLit (.str "union")) (dCons (dVar 2) (dCons (dVar 3) (dNil))))) (dCons (dVar 3) (dNil))))) (dCons (dVar 2) (dNil)))) (dNil))))))
    (seqM (pSet 4 (dBin addD (dVar 4) (dLst (dCons (dTup (dCons (dTup (dCons (dLit (.str "union")) (dCons (dVar 2) (dCons (dVar 3) (dNil))))) (dCons (dTup (dCons (dLit (.str "union")) (dCons (dVar 3) (dCons (dVar 2) (dNil))))) (dNil)))) (dCons (dTup (dCons (dTup (dCons (dLit (.str "union")) (dCons (dVar 2) (dCons (dVar 2) (dNil))))) (dCons (dVar 2) (dNil)))) (dCons (dTup (dCons (dTup (dCons (dLit (.str "difference")) (dCons (dVar 2) (dCons (dTup (dCons (dLit (.str "union")) (dCons (dVar 3) (dCons (dVar 3) (dNil))))) (dNil))))) (dCons (dTup (dCons (dLit (.str "difference")) (dCons (dVar 2) (dCons (dVar 3) (dNil))))) (dNil)))) (dNil)))))))
    (seqM (pSet 4 (dBin addD (dVar 4) (dLst (dCons (dTup (dCons (dTup (dCons (dLit (.str "union")) (dCons (dVar 1) (dCons (dVar 2) (dNil))))) (dCons (dTup (dCons (dLit (.str "union")) (dCons (dVar 2) (dCons (dVar 1) (dNil))))) (dNil)))) (dCons (dTup (dCons (dTup (dCons (dLit (.str "filter")) (dCons (dTup (dCons (dLit (.str "or")) (dCons (dTup (dCons (dLit (.str "p")) (dNil))) (dCons (dTup (dCons (dLit (.str "not")) (dCons (dTup (dCons (dLit (.str "p")) (dNil))) (dNil)))) (dNil))))) (dCons (dVar 2) (dNil))))) (dCons (dVar 2) (dNil)))) (dCons (dTup (dCons (dVar 1) (dCons (dVar 1) (dNil)))) (dNil)))))))
    (seqM (pSet 4 (dBin addD (dVar 4) (dLst (dCons (dTup (dCons (dTup (dCons (dLit (.str "filter")) (dCons (dTup (dCons (dLit (.str "not")) (dCons (dTup (dCons (dLit (.str "p")) (dNil))) (dNil)))) (dCons (dVar 2) (dNil))))) (dCons (dTup (dCons (dLit (.str "difference")) (dCons (dVar 2) (dCons (dTup (dCons (dLit (.str "filter")) (dCons (dTup (dCons (dLit (.str "p")) (dNil))) (dCons (dVar 2) (dNil))))) (dNil))))) (dNil)))) (dCons (dTup (dCons (dTup (dCons (dLit (.str "intersection")) (dCons (dVar 1) (dCons (dVar 1) (dNil))))) (dCons (dVar 1) (dNil)))) (dNil))))))
    (seqM (pSet 4 (dBin addD (dVar 4) (dLst (dCons (dTup (dCons (dTup (dCons (dLit (.str "union")) (dCons (dTup (dCons (dLit (.str "difference")) (dCons (dVar 2) (dCons (dVar 3) (dNil))))) (dCons (dTup (dCons (dLit (.str "intersection")) (dCons (dVar 2) (dCons (dVar 3) (dNil))))) (dNil))))) (dCons (dVar 2) (dNil)))) (dCons (dTup (dCons (dTup (dCons (dLit (.str "intersection")) (dCons (dVar 1) (dCons (dVar 3) (dNil))))) (dCons (dTup (dCons (dLit (.str "intersection")) (dCons (dVar 3) (dCons (dVar 1) (dNil))))) (dNil)))) (dNil))))))
    (seqM (pSet 4 (dBin addD (dVar 4) (dLst (dCons (dTup (dCons (dTup (dCons (dLit (.str "union")) (dCons (dTup (dCons (dLit (.str "union")) (dCons (dVar 2) (dCons (dVar 3) (dNil))))) (dCons (dVar 1) (dNil))))) (dCons (dTup (dCons (dLit (.str "union")) (dCons (dVar 2) (dCons (dTup (dCons (dLit (.str "union")) (dCons (dVar 3) (dCons (dVar 1) (dNil))))) (dNil))))) (dNil)))) (dCons (dTup (dCons (dCl 2 f__law_tree (dRow 0 (dCons (dLit (.int 4)) (dNil)))) (dCons (dCl 2 f__law_tree (dRow 0 (dCons (dLit (.int 4)) (dNil)))) (dNil)))) (dNil))))))
    (pRet (dCl 2 f__law_pick (dRow 0 (dCons (dVar 4) (dNil))))))))))))
def d__law_leaves (f__law_leaves : List Slot → Mn D) : Ev → Ms :=
    seqM (pIf (dCmp eqD (dBin ixD (dVar 0) (dLit (.int 0))) (dLit (.str "table"))) (pRet (dLit (.int 1))) (sNil))
    (pRet (dBin addD (dCl 1 f__law_leaves (dCons (dBin ixD (dVar 0) (dLit (.int 2))) (dNil))) (dIf (dCmp eqD (dBin ixD (dVar 0) (dLit (.int 0))) (dLit (.str "filter"))) (dLit (.int 0)) (dCl 1 f__law_leaves (dCons (dBin ixD (dVar 0) (dLit (.int 1))) (dNil))))))
def d__law_kept (f__law_match : List Slot → Mn D) : Ev → Ms :=
    seqM (pSet 4 (dLst (dNil)))
    (seqM (sFor false (dItm (dVar 1)) (.name 5) (seqM (pSet 6 (dComp [8] (dItm (dVar 2)) (.name 8) (dYes) (dCl 3 f__law_match (dCons (dVar 0) (dCons (dBin ixD (dVar 5) (dLit (.int 0))) (dCons (dBin ixD (dVar 8) (dLit (.int 0))) (dNil)))))))
    (seqM (pSet 7 (dDGet [("semijoin", dCmpE inD (dLit (.bool true)) (dVar 6)), ("antijoin", dCmpE ninD (dLit (.bool true)) (dVar 6)), ("not_in", dAndV (dCmpE ninD (dLit (.bool true)) (dVar 6)) (dCmpE ninD (dLit .none) (dVar 6)))] (dVar 3)))
    (pSet 4 (dBin addD (dVar 4) (dBin mulxD (dLst (dCons (dVar 5) (dNil))) (dFn intD (dCons (dVar 7) (dNil)))))))))
    (pRet (dFn tupleD (dCons (dVar 4) (dNil)))))
end LW
namespace LW
open PySem PySem.Spec PyProof.Rows L2 DL
abbrev Fs := List Slot → Mn D
abbrev NoDict (d : D) : Prop := ∀ kvs, d ≠ .dict kvs
inductive N3 where
  | none | unknown | value
def N3.s : N3 → String
  | .none => "none"
  | .unknown => "unknown"
  | .value => "value"
/-- a semantics -/
def wayD (a b c : Bool) (n : N3) (e : Bool) : D := .tuple [.str (if a then "bag" else "set"), .str (if b then "maximum" else "sum"), .str (if c then "count" else "kind"), .str (Str.ofString n.s), .str (if e then "null" else "zero")]
inductive Vl where
  | nul
  | int (i : Int)
def Vl.d : Vl → D
  | .nul => .none
  | .int i => .int i
inductive Flt where
  | less (c : Bool) (n : Int)
  | equal (c : Bool) (n : Int)
  | same
  | null (c : Bool)
  | not (f : Flt)
  | and (f g : Flt)
  | or (f g : Flt)
def colD (c : Bool) : D := .int (if c then 1 else 0)
def Flt.d : Flt → D
  | .less c n => .tuple [.str "less", colD c, .int n]
  | .equal c n => .tuple [.str "equal", colD c, .int n]
  | .same => .tuple [.str "same"]
  | .null c => .tuple [.str "null", colD c]
  | .not f => .tuple [.str "not", f.d]
  | .and f g => .tuple [.str "and", f.d, g.d]
  | .or f g => .tuple [.str "or", f.d, g.d]
def Flt.ok : Flt → Bool
  | .less _ n => decide (0 ≤ n) && decide (n ≤ 9)
  | .equal _ n => decide (0 ≤ n) && decide (n ≤ 9)
  | .same => true
  | .null _ => true
  | .not f => f.ok
  | .and f g => f.ok && g.ok
  | .or f g => f.ok && g.ok
def Flt.size : Flt → Nat
  | .less _ _ => 1
  | .equal _ _ => 1
  | .same => 1
  | .null _ => 1
  | .not f => f.size + 1
  | .and f g => f.size + g.size + 1
  | .or f g => f.size + g.size + 1
def Flt.inner : Flt → List Flt
  | .not f => [f]
  | .and f g => [f, g]
  | .or f g => [f, g]
  | _ => []
theorem Flt.nd (f : Flt) : NoDict f.d := by intro k e; cases f <;> simp [Flt.d] at e
theorem int_nd (i : Int) : NoDict (.int i) := by intro k e; cases e
def Vl.isN : Vl → Bool
  | .nul => true
  | _ => false
def N3.unk : N3 → Bool
  | .unknown => true
  | _ => false
def td : Option Bool → D
  | none => .none
  | some b => .bool b
def tnot : Option Bool → Option Bool
  | none => none
  | some b => some !b
def tand : Option Bool → Option Bool → Option Bool
  | some false, _ => some false
  | _, some false => some false
  | none, _ => none
  | _, none => none
  | _, _ => some true
def tor : Option Bool → Option Bool → Option Bool
  | some true, _ => some true
  | _, some true => some true
  | none, _ => none
  | _, none => none
  | _, _ => some false
def nD (n : N3) : D := .str (Str.ofString n.s)
theorem td_shape (t : Option Bool) : SeqAt.shaped (td t) = true := by cases t <;> simp [td, sh_none, sh_bool]
abbrev SpJoin (f : Fs) : Prop := (∀ t u, f [.dat (.str "and"), .dat (td t), .dat (td u)] = pur (td (tand t u))) ∧ ∀ t u, f [.dat (.str "or"), .dat (td t), .dat (td u)] = pur (td (tor t u))
theorem in_list (x : D) (ds : List D) (hx : SeqAt.shaped x = true) (hd : SeqAt.shaped (.list ds) = true) : inD x (.list ds) = some (ds.any fun z => PyData.eqv z x) := by simp [inD, hx, hd]
theorem td_list (t u : Option Bool) : SeqAt.shaped (.list [td t, td u]) = true := by
  rcases t with _ | b <;> rcases u with _ | c <;> simp [td, SeqAt.shaped, PyData.canLay0, PyData.canLayAll0, PyData.depth, PyData.depthAll]
theorem joins : SpJoin (dFun 3 4 d__law_join) := by
  have k : ∀ x t u, SeqAt.shaped x = true → inD x (.list [td t, td u]) = some ([td t, td u].any fun z => PyData.eqv z x) := fun x t u hx => in_list _ _ hx (td_list t u)
  constructor <;> intro t u
  · simp [dFun_eq, d__law_join, k, sh_none, sh_bool]
    rcases t with _ | (_ | _) <;> rcases u with _ | (_ | _) <;> simp [td, tand]
  · simp [dFun_eq, d__law_join, k, sh_none, sh_bool]
    rcases t with _ | (_ | _) <;> rcases u with _ | (_ | _) <;> simp [td, tor]
theorem vd_list (x y : Vl) : SeqAt.shaped (.list [x.d, y.d]) = true := by
  cases x <;> cases y <;> simp [Vl.d, SeqAt.shaped, PyData.canLay0, PyData.canLayAll0, PyData.depth, PyData.depthAll]
theorem none_in (x y : Vl) : inD .none (.list [x.d, y.d]) = some (x.isN || y.isN) := by
  rw [in_list _ _ sh_none (vd_list x y)]
  cases x <;> cases y <;> simp [Vl.d, Vl.isN]
theorem way_3' (a b c : Bool) (n : N3) (e : Bool) : ixD (wayD a b c n e) (.int 3) = some (nD n) := rfl
theorem unk_eq (n : N3) : eqD (nD n) (.str "unknown") = some n.unk := by cases n <;> simp [nD, N3.s, N3.unk]
theorem in_w (s : String) (ss : List String) : inD (.str (Str.ofString s)) (.list (ss.map fun t => .str (Str.ofString t))) = some (ss.any fun t => t == s) := by
  have sh : SeqAt.shaped (.list (ss.map fun t => PyData.str (Str.ofString t))) = true := by
    have h1 : ∀ l : List String, PyData.canLayAll0 (l.map fun t => PyData.str (Str.ofString t)) = true := by
      intro l
      induction l with
      | nil => rfl
      | cons a l ih => simp [PyData.canLayAll0, ih]
    have h2 : ∀ l : List String, PyData.depthAll (l.map fun t => PyData.str (Str.ofString t)) = 0 := by
      intro l
      induction l with
      | nil => rfl
      | cons a l ih => simp [PyData.depthAll, PyData.depth, ih]
    simp [SeqAt.shaped, PyData.canLay0, PyData.depth, h1, h2]
  rw [in_list _ _ (by simp [SeqAt.shaped, PyData.depth]) sh]
  simp [List.any_map, Function.comp_def]
/-- a value is given, and P of it -/
def Gv {α : Type} (m : Mn α) (P : α → Prop) : Prop := ∀ rs, ∃ d rs', m rs = some (.val d, rs') ∧ P d
theorem Gv.bnd {α β : Type} {m : Mn α} {k : α → Mn β} {P : α → Prop} {Q : β → Prop} (h : Gv m P) (hk : ∀ a, P a → Gv (k a) Q) : Gv (DL.bnd m k) Q := fun rs => by
  obtain ⟨d, rs1, e, p⟩ := h rs
  obtain ⟨d2, rs2, e2, p2⟩ := hk d p rs1
  refine ⟨d2, rs2, ?_, p2⟩
  unfold DL.bnd
  rw [e]
  exact e2
theorem Gv.pur {α : Type} {a : α} {P : α → Prop} (h : P a) : Gv (DL.pur a) P := fun rs => ⟨a, rs, rfl, h⟩
theorem Gv.imp {α : Type} {m : Mn α} {P Q : α → Prop} (h : Gv m P) (i : ∀ a, P a → Q a) : Gv m Q := fun rs => by
  obtain ⟨d, rs1, e, p⟩ := h rs
  exact ⟨d, rs1, e, i d p⟩
theorem bnd_id {α : Type} (m : Mn α) : (DL.bnd m fun a => DL.pur a) = m := by
  funext rs
  unfold DL.bnd DL.pur
  cases h : m rs with
  | none => rfl
  | some q =>
    obtain ⟨q1, q2⟩ := q
    cases q1 <;> rfl
abbrev SpTk (f : Fs) : Prop := ∀ m : Int, 0 < m → m < 1073741824 → Gv (f [.row, .dat (.int m)]) fun d => ∃ i : Int, 0 ≤ i ∧ i < m ∧ d = .int i
theorem taken : SpTk tkF := fun m h0 h1 rs => by
  refine ⟨_, _, by simp only [tkF]; rw [if_pos ⟨h0, h1⟩], (tk m rs).1, (tk_range m rs h0).1, (tk_range m rs h0).2, rfl⟩
abbrev SpPick (f : Fs) : Prop := ∀ ds : List D, 0 < ds.length → ds.length < 1000 → Gv (f [.row, .dat (.list ds)]) fun d => d ∈ ds
theorem pick {f : Fs} (h : SpTk f) : SpPick (dFun 2 2 (d__law_pick f)) := by
  intro ds h0 h1
  simp [dFun_eq, d__law_pick, lenD, fin_bnS, bnd_bnd, bnS_bnd]
  refine Gv.bnd (h ds.length (by omega) (by omega)) fun d ⟨i, i0, i1, e⟩ => ?_
  subst e
  obtain ⟨j, rfl⟩ : ∃ j : Nat, i = (j : Int) := ⟨i.toNat, by omega⟩
  have hl : j < ds.length := by omega
  have q : ixD (.list ds) (.int (j : Int)) = some ds[j] := atI_nat (List.getElem?_eq_getElem hl)
  rw [q]
  exact Gv.pur (List.getElem_mem hl)
def IsWay (d : D) : Prop := ∃ a b c n e, d = wayD a b c n e
abbrev SpLawSem (f : Fs) : Prop := Gv (f [.row]) IsWay
theorem law_sem {f : Fs} (h : SpPick f) : SpLawSem (dFun 1 5 (d__law_semantics f)) := by
  show Gv (dFun 1 5 (d__law_semantics f) [.row]) _
  simp [dFun_eq, d__law_semantics, pPar_eq, fin_bnS, bnd_bnd, bnS_bnd, sq_bnS]
  refine Gv.bnd (h _ (by simp) (by simp)) fun d1 m1 => ?_
  refine Gv.bnd (h _ (by simp) (by simp)) fun d2 m2 => ?_
  refine Gv.bnd (h _ (by simp) (by simp)) fun d3 m3 => ?_
  refine Gv.bnd (h _ (by simp) (by simp)) fun d4 m4 => ?_
  refine Gv.bnd (h _ (by simp) (by simp)) fun d5 m5 => ?_
  refine Gv.pur ?_
  have p1 : ∃ a : Bool, d1 = .str (if a then "bag" else "set") := by
    simp at m1
    rcases m1 with e | e
    · exact ⟨true, e⟩
    · exact ⟨false, e⟩
  have p2 : ∃ a : Bool, d2 = .str (if a then "maximum" else "sum") := by
    simp at m2
    rcases m2 with e | e
    · exact ⟨true, e⟩
    · exact ⟨false, e⟩
  have p3 : ∃ a : Bool, d3 = .str (if a then "count" else "kind") := by
    simp at m3
    rcases m3 with e | e
    · exact ⟨true, e⟩
    · exact ⟨false, e⟩
  have p4 : ∃ a : N3, d4 = .str (Str.ofString a.s) := by
    simp at m4
    rcases m4 with e | e | e
    · exact ⟨.none, e⟩
    · exact ⟨.unknown, e⟩
    · exact ⟨.value, e⟩
  have p5 : ∃ a : Bool, d5 = .str (if a then "null" else "zero") := by
    simp at m5
    rcases m5 with e | e
    · exact ⟨true, e⟩
    · exact ⟨false, e⟩
  obtain ⟨a, rfl⟩ := p1
  obtain ⟨b, rfl⟩ := p2
  obtain ⟨c, rfl⟩ := p3
  obtain ⟨n, rfl⟩ := p4
  obtain ⟨e, rfl⟩ := p5
  exact ⟨a, b, c, n, e, rfl⟩
/-- valid under n -/
def Vl.okU (n : N3) : Vl → Bool
  | .nul => (match n with | .none => false | _ => true)
  | .int i => decide (0 ≤ i) && decide (i ≤ 9)
theorem int_b (b : Bool) : intD [.bool b] = some (.int (if b then 1 else 0)) := rfl
theorem col_i {i : Int} (h0 : 0 ≤ i) (h1 : i < 2) : PyData.int i = colD (decide (i = 1)) := by
  rcases (by omega : i = 0 ∨ i = 1) with rfl | rfl <;> rfl
end LW
namespace LW
open PySem PySem.Spec PyProof.Rows L2 DL
/-- as long as lists get here -/
def lim : Nat := 1000000
theorem lim_eq : lim = 1000000 := rfl
theorem big_ok {n : Nat} (h : n ≤ lim) : n ≤ sizeLine := by
  have := PySem.sizeLine_eq
  have := lim_eq
  omega
abbrev Row := List Vl
def rowD (r : Row) : D := .tuple (r.map Vl.d)
def rowsL (rs : List Row) : D := .list (rs.map rowD)
def rowsT (rs : List Row) : D := .tuple (rs.map rowD)
theorem compGo_on {α : Type} {t : Tgt} {c : Ev → Mn Bool} {e : Ev → Mn D} {ev : Ev} (dd gg : α → D) (pp : α → Bool) : ∀ (L : List α), (∀ a ∈ L, ∃ es, t.of (dd a) = some es ∧ c (setE ev t.ix es) = pur (pp a) ∧ (pp a = true → e (setE ev t.ix es) = pur (gg a))) → compGo t c e ev (L.map dd) = pur ((L.filter pp).map gg)
  | [], _ => rfl
  | a :: L, h => by
    rw [List.map_cons, compGo_cons]
    obtain ⟨es, h1, h2, h3⟩ := h a (by simp)
    rw [h1]
    simp only [lft_some', bnd_pur]
    rw [h2]
    simp only [nox_pur, bnd_pur]
    have ih := compGo_on dd gg pp L fun x hx => h x (by simp [hx])
    cases hp : pp a with
    | true =>
      rw [if_pos rfl, h3 hp, ih]
      simp [hp]
    | false =>
      rw [if_neg (by decide), ih]
      simp [hp]
theorem compGo_all {α : Type} {t : Tgt} {e : Ev → Mn D} {ev : Ev} (dd gg : α → D) (L : List α) (h : ∀ a ∈ L, ∃ es, t.of (dd a) = some es ∧ e (setE ev t.ix es) = pur (gg a)) : compGo t dYes e ev (L.map dd) = pur (L.map gg) := by
  have q : L.filter (fun _ => true) = L := List.filter_eq_self.mpr fun _ _ => rfl
  have z := compGo_on (t := t) (c := dYes) (e := e) (ev := ev) dd gg (fun _ => true) L fun a ha => by
    obtain ⟨es, h1, h2⟩ := h a ha
    exact ⟨es, h1, rfl, fun _ => h2⟩
  rw [q] at z
  exact z
end LW
namespace LW
open PySem PySem.Spec PyProof.Rows L2 DL
instance : DecidableEq Vl := fun a b => match a, b with
  | .nul, .nul => isTrue rfl
  | .nul, .int _ => isFalse (by intro h; cases h)
  | .int _, .nul => isFalse (by intro h; cases h)
  | .int i, .int j => if h : i = j then isTrue (by rw [h]) else isFalse (by intro e; cases e; exact h rfl)
theorem lay_v (x : Vl) : PyData.canLay0 x.d = true := by cases x <;> simp [Vl.d, PyData.canLay0]
theorem dep_v (x : Vl) : PyData.depth x.d = 0 := by cases x <;> simp [Vl.d, PyData.depth]
theorem lay_vs : ∀ r : Row, PyData.canLayAll0 (r.map Vl.d) = true
  | [] => rfl
  | x :: r => by simp [PyData.canLayAll0, lay_v, lay_vs r]
theorem dep_vs : ∀ r : Row, PyData.depthAll (r.map Vl.d) = 0
  | [] => rfl
  | x :: r => by simp [PyData.depthAll, dep_v, dep_vs r]
theorem lay_row (r : Row) : PyData.canLay0 (rowD r) = true := by simp [rowD, PyData.canLay0, lay_vs]
theorem dep_row (r : Row) : PyData.depth (rowD r) = 1 := by simp [rowD, PyData.depth, dep_vs]
theorem lay_rows : ∀ rs : List Row, PyData.canLayAll0 (rs.map rowD) = true
  | [] => rfl
  | r :: rs => by simp [PyData.canLayAll0, lay_row, lay_rows rs]
theorem dep_rows : ∀ rs : List Row, PyData.depthAll (rs.map rowD) ≤ 1
  | [] => by simp [PyData.depthAll]
  | r :: rs => by
    have := dep_rows rs
    simp only [List.map_cons, PyData.depthAll, dep_row]
    omega
theorem sh_rowsL (rs : List Row) : SeqAt.shaped (rowsL rs) = true := by
  have := dep_rows rs
  simp [SeqAt.shaped, rowsL, PyData.canLay0, PyData.depth, lay_rows]
  omega
end LW
namespace LW
open PySem PySem.Spec PyProof.Rows L2 DL
theorem way_0 (a b c : Bool) (n : N3) (e : Bool) : ixD (wayD a b c n e) (.int 0) = some (.str (Str.ofString (if a = true then "bag" else "set"))) := by cases a <;> rfl
theorem way_1 (a b c : Bool) (n : N3) (e : Bool) : ixD (wayD a b c n e) (.int 1) = some (.str (Str.ofString (if b = true then "maximum" else "sum"))) := by cases b <;> rfl
theorem way_2 (a b c : Bool) (n : N3) (e : Bool) : ixD (wayD a b c n e) (.int 2) = some (.str (Str.ofString (if c = true then "count" else "kind"))) := by cases c <;> rfl
inductive Op3 where
  | uni | int | dif
def Op3.s : Op3 → String
  | .uni => "union"
  | .int => "intersection"
  | .dif => "difference"
def manyZ (a b c : Bool) (w : Op3) (x y : Int) : Int :=
  let m := match w with
    | .uni => if b = true then (if y > x then y else x) else x + y
    | .int => if y < x then y else x
    | .dif => if (!a || !c) = true then x * (if y = 0 then 1 else 0) else (if x - y > 0 then x - y else 0)
  if a = true then m else (if 1 < m then 1 else m)
abbrev SpMany (f : Fs) : Prop := ∀ a b c n e w (x y : Int), f [.dat (wayD a b c n e), .dat (.str (Str.ofString (Op3.s w))), .dat (.int x), .dat (.int y)] = pur (.int (manyZ a b c w x y))
theorem int_b' (b : Bool) : intD [.bool b] = some (.int (if b = true then 1 else 0)) := rfl
theorem if_mul (x y : Int) : mulxD (.int x) (.int (if y = 0 then 1 else 0)) = some (.int (x * (if y = 0 then 1 else 0))) := by
  split <;> simp [mulxD]
theorem many_ok : SpMany (dFun 4 5 d__law_many) := by
  intro a b c n e w x y
  cases w <;> cases a <;> cases b <;> cases c <;>
    simp [dFun_eq, d__law_many, Op3.s, way_0, way_1, way_2, manyZ, addD, subD, max2D, min2D, int_b', if_mul]
def mtch (n : N3) (k l : Vl) : Option Bool := if (k.isN || l.isN) = true then (if n.unk = true then none else some (k.isN && l.isN)) else some (decide (k = l))
abbrev SpMatch (f : Fs) : Prop := ∀ a b c n e k l, f [.dat (wayD a b c n e), .dat (Vl.d k), .dat (Vl.d l)] = pur (td (mtch n k l))
/-- rows of two values -/
def two (rs : List Row) : Prop := ∀ r ∈ rs, ∃ u v, r = [u, v]
end LW
namespace LW
open PySem PySem.Spec PyProof.Rows L2 DL
theorem itm_T (rs : List Row) : itmD (rowsT rs) = some (rs.map rowD) := rfl
def isT : Option Bool → Bool
  | some true => true
  | _ => false
theorem is_true (t : Option Bool) : isD (td t) (.bool true) = some (isT t) := by
  rcases t with _ | (_ | _) <;> rfl
theorem rep_if (r : Row) (p : Prop) [Decidable p] : mulxD (.list [rowD r]) (.int (if p then 1 else 0)) = some (rowsL (if p then [r] else [])) := by
  have h0 : (0 : Nat) ≤ sizeLine := Nat.zero_le _
  have h1 : (1 : Nat) ≤ sizeLine := big_ok (by decide)
  split <;> simp [mulxD, repL, rowsL, h0, h1]
theorem app_rows (xs ys : List Row) (h : xs.length + ys.length ≤ lim) : addD (rowsL xs) (rowsL ys) = some (rowsL (xs ++ ys)) := by
  have := big_ok h
  simp [addD, rowsL, this]
end LW
namespace LW
open PySem PySem.Spec PyProof.Rows L2 DL
def keyR : Row → Vl
  | k :: _ => k
  | [] => .nul
theorem ix_key (r : Row) (h : ∃ u v, r = [u, v]) : ixD (rowD r) (.int 0) = some (keyR r).d := by
  obtain ⟨u, v, rfl⟩ := h
  simp [rowD, keyR]
end LW
namespace LW
open PySem PySem.Spec PyProof.Rows L2 DL
@[simp] theorem dDGet_eq (kfs : List (Str × (Ev → Mn D))) (fw : Ev → Mn D) (ev : Ev) : dDGet kfs fw ev = bnd (dDisp kfs ev) fun ps => bnd (fw ev) fun w => lft (match w with
  | .str z => lookL ps z
  | _ => none) := rfl
theorem lay_tds : ∀ ts : List (Option Bool), PyData.canLayAll0 (ts.map td) = true
  | [] => rfl
  | t :: ts => by
    have h : PyData.canLay0 (td t) = true := by cases t <;> simp [td, PyData.canLay0]
    simp [PyData.canLayAll0, h, lay_tds ts]
theorem dep_tds : ∀ ts : List (Option Bool), PyData.depthAll (ts.map td) = 0
  | [] => rfl
  | t :: ts => by
    have h : PyData.depth (td t) = 0 := by cases t <;> simp [td, PyData.depth]
    simp [PyData.depthAll, h, dep_tds ts]
theorem sh_tds (ts : List (Option Bool)) : SeqAt.shaped (.list (ts.map td)) = true := by
  simp [SeqAt.shaped, PyData.canLay0, PyData.depth, lay_tds, dep_tds]
theorem eqv_td (t u : Option Bool) : PyData.eqv (td t) (td u) = decide (t = u) := by
  rcases t with _ | (_ | _) <;> rcases u with _ | (_ | _) <;> simp [td]
theorem in_tds (u : Option Bool) (ts : List (Option Bool)) : inD (td u) (.list (ts.map td)) = some (decide (u ∈ ts)) := by
  rw [in_list _ _ (td_shape u) (sh_tds ts)]
  congr 1
  induction ts with
  | nil => rfl
  | cons t ts ih =>
    simp only [List.map_cons, List.any_cons, ih, eqv_td, List.mem_cons]
    by_cases h : t = u
    · simp [h]
    · have h' : ¬ u = t := fun e => h e.symm
      simp [h, h']
theorem inT (ts : List (Option Bool)) : inD (.bool true) (.list (ts.map td)) = some (decide (some true ∈ ts)) := in_tds (some true) ts
theorem inN (ts : List (Option Bool)) : inD .none (.list (ts.map td)) = some (decide (none ∈ ts)) := in_tds none ts
inductive Kp3 where
  | semi | anti | notin
def Kp3.s : Kp3 → String
  | .semi => "semijoin"
  | .anti => "antijoin"
  | .notin => "not_in"
def keysR (n : N3) (r : Row) (ys : List Row) : List (Option Bool) := ys.map fun s => mtch n (keyR r) (keyR s)
def keepB (n : N3) (w : Kp3) (ys : List Row) (r : Row) : Bool := match w with
  | .semi => decide (some true ∈ keysR n r ys)
  | .anti => !decide (some true ∈ keysR n r ys)
  | .notin => !decide (some true ∈ keysR n r ys) && !decide (none ∈ keysR n r ys)
def keptR (n : N3) (w : Kp3) (xs ys : List Row) : List Row := xs.filter (keepB n w ys)
abbrev SpKept (f : Fs) : Prop := ∀ a b c n e (xs ys : List Row) w, xs.length ≤ lim → ys.length ≤ lim → two xs → two ys → f [.dat (wayD a b c n e), .dat (rowsT xs), .dat (rowsT ys), .dat (.str (Str.ofString (Kp3.s w)))] = pur (rowsT (keptR n w xs ys))
abbrev keptB (fm : Fs) : Ev → Ms := seqM (pSet 6 (dComp [8] (dItm (dVar 2)) (.name 8) (dYes) (dCl 3 fm (dCons (dVar 0) (dCons (dBin ixD (dVar 5) (dLit (.int 0))) (dCons (dBin ixD (dVar 8) (dLit (.int 0))) (dNil)))))))
    (seqM (pSet 7 (dDGet [("semijoin", dCmpE inD (dLit (.bool true)) (dVar 6)), ("antijoin", dCmpE ninD (dLit (.bool true)) (dVar 6)), ("not_in", dAndV (dCmpE ninD (dLit (.bool true)) (dVar 6)) (dCmpE ninD (dLit .none) (dVar 6)))] (dVar 3)))
    (pSet 4 (dBin addD (dVar 4) (dBin mulxD (dLst (dCons (dVar 5) (dNil))) (dFn DL.intD (dCons (dVar 7) (dNil)))))))
theorem rep_b (r : Row) (p : Bool) : mulxD (.list [rowD r]) (.int (if p = true then 1 else 0)) = some (rowsL (if p = true then [r] else [])) := rep_if r (p = true)
theorem kept_loop {fm : Fs} (hm : SpMatch fm) (a b c : Bool) (n : N3) (e : Bool) (w : Kp3) (s1 : DL.Slot) (ys : List Row) (h2 : two ys) (hl : ys.length ≤ lim) : ∀ (xs acc : List Row) (s5 s6 s7 : DL.Slot), two xs → acc.length + xs.length ≤ lim → ∃ s5' s6' s7', forGo (.name 5) (keptB fm) (xs.map rowD) [.dat (wayD a b c n e), s1, .dat (rowsT ys), .dat (.str (Str.ofString w.s)), .dat (rowsL acc), s5, s6, s7, .hid] = nxM [.dat (wayD a b c n e), s1, .dat (rowsT ys), .dat (.str (Str.ofString w.s)), .dat (rowsL (acc ++ keptR n w xs ys)), s5', s6', s7', .hid]
  | [], acc, s5, s6, s7, _, _ => ⟨s5, s6, s7, by simp [keptR]⟩
  | r :: xs, acc, s5, s6, s7, hx, hz => by
    simp only [List.length_cons] at hz
    have hr := hx r (List.mem_cons_self)
    have hone : (if keepB n w ys r = true then [r] else []).length ≤ 1 := by split <;> simp
    obtain ⟨t5, t6, t7, q⟩ := kept_loop hm a b c n e w s1 ys h2 hl xs (acc ++ if keepB n w ys r = true then [r] else []) (.dat (rowD r)) (.dat (.list ((keysR n r ys).map td))) (.dat (.bool (keepB n w ys r))) (fun x h => hx x (List.mem_cons_of_mem _ h)) (by rw [List.length_append]; omega)
    refine ⟨t5, t6, t7, ?_⟩
    rw [List.map_cons, forGo_cons]
    have comp : ∀ w1 w3 w4 w6 w7, compGo (.name 8) dYes (dCl 3 fm (dCons (dVar 0) (dCons (dBin ixD (dVar 5) (dLit (.int 0))) (dCons (dBin ixD (dVar 8) (dLit (.int 0))) (dNil))))) [.dat (wayD a b c n e), w1, .dat (rowsT ys), w3, w4, .dat (rowD r), w6, w7, .hid] (ys.map rowD) = pur ((keysR n r ys).map td) := fun w1 w3 w4 w6 w7 => by
      have q := compGo_all (t := .name 8) (e := dCl 3 fm (dCons (dVar 0) (dCons (dBin ixD (dVar 5) (dLit (.int 0))) (dCons (dBin ixD (dVar 8) (dLit (.int 0))) (dNil))))) (ev := [.dat (wayD a b c n e), w1, .dat (rowsT ys), w3, w4, .dat (rowD r), w6, w7, .hid]) rowD (fun s => td (mtch n (keyR r) (keyR s))) ys fun s hs => ⟨_, rfl, by simp [ix_key r hr, ix_key s (h2 s hs), hm a b c n e _ _]⟩
      rw [q]
      unfold keysR
      rw [List.map_map]
      rfl
    have hsz : (keysR n r ys).length ≤ sizeLine := big_ok (by simpa [keysR] using hl)
    have ad := app_rows acc (if keepB n w ys r = true then [r] else []) (by omega)
    have fin : ∀ k, k = keepB n w ys r → DL.intD [.bool k] = some (.int (if keepB n w ys r = true then 1 else 0)) := fun k hk => by rw [hk]; rfl
    have i1 := inT (keysR n r ys)
    have i2 := inN (keysR n r ys)
    have o1 : (1 : Nat) ≤ sizeLine := big_ok (by decide)
    have rb := rep_b r (keepB n w ys r)
    have kk : keptR n w (r :: xs) ys = (if keepB n w ys r = true then [r] else []) ++ keptR n w xs ys := by
      unfold keptR
      rw [List.filter_cons]
      split <;> simp
    rw [kk, ← List.append_assoc, ← q]
    generalize hp1 : decide (some true ∈ keysR n r ys) = p1 at i1
    generalize hp2 : decide (none ∈ keysR n r ys) = p2 at i2
    have t1 : DL.intD [.bool true] = some (.int 1) := rfl
    have t0 : DL.intD [.bool false] = some (.int 0) := rfl
    have m1 : mulxD (.list [rowD r]) (.int 1) = some (rowsL [r]) := rep_b r true
    have m0 : mulxD (.list [rowD r]) (.int 0) = some (rowsL []) := rep_b r false
    have a1 := app_rows acc [r] (by simp; omega)
    have a0 := app_rows acc [] (by simp; omega)
    simp only [List.append_nil] at a0
    cases w with
    | semi =>
      have hk : keepB n .semi ys r = p1 := hp1
      cases p1 <;> simp [keptB, itm_T, comp, hsz, ninD, i1, i2, truD, Kp3.s, lookL, t1, t0, m1, m0, a1, a0, hk]
    | anti =>
      have hk : keepB n .anti ys r = !p1 := by rw [← hp1]; rfl
      cases p1 <;> simp [keptB, itm_T, comp, hsz, ninD, i1, i2, truD, Kp3.s, lookL, t1, t0, m1, m0, a1, a0, hk]
    | notin =>
      have hk : keepB n .notin ys r = (!p1 && !p2) := by rw [← hp1, ← hp2]; rfl
      cases p1 <;> cases p2 <;> simp [keptB, itm_T, comp, hsz, ninD, i1, i2, truD, Kp3.s, lookL, t1, t0, m1, m0, a1, a0, hk]
theorem kept_ok {fm : Fs} (hm : SpMatch fm) : SpKept (dFun 4 9 (d__law_kept fm)) := by
  intro a b c n e xs ys w hl hl2 hx hy
  obtain ⟨s5, s6, s7, q⟩ := kept_loop hm a b c n e w (.dat (rowsT xs)) ys hy hl2 xs [] .hid .hid .hid hx (by simpa using hl)
  have q : forGo (.name 5) (keptB fm) (xs.map rowD) [.dat (wayD a b c n e), .dat (rowsT xs), .dat (rowsT ys), .dat (.str (Str.ofString w.s)), .dat (.list []), .hid, .hid, .hid, .hid] = nxM [.dat (wayD a b c n e), .dat (rowsT xs), .dat (rowsT ys), .dat (.str (Str.ofString w.s)), .dat (rowsL (keptR n w xs ys)), s5, s6, s7, .hid] := q
  have tl : tupleD [rowsL (keptR n w xs ys)] = some (rowsT (keptR n w xs ys)) := rfl
  rw [dFun_eq]
  simp [d__law_kept, sFor_f, itm_T, q, tl]
end LW
namespace LW
open PySem PySem.Spec PyProof.Rows L2 DL
end LW
namespace LW
open PySem PySem.Spec PyProof.Rows L2 DL
def GvS (m : Ms) (P : Ev → Prop) : Prop := ∀ rs, ∃ ev rs', m rs = some (.nx ev, rs') ∧ P ev
theorem GvS.bnS {α : Type} {m : Mn α} {k : α → Ms} {P : α → Prop} {Q : Ev → Prop} (h : Gv m P) (hk : ∀ a, P a → GvS (k a) Q) : GvS (DL.bnS m k) Q := fun rs => by
  obtain ⟨d, rs1, e, p⟩ := h rs
  obtain ⟨d2, rs2, e2, p2⟩ := hk d p rs1
  refine ⟨d2, rs2, ?_, p2⟩
  unfold DL.bnS
  rw [e]
  exact e2
theorem GvS.nx {ev : Ev} {Q : Ev → Prop} (h : Q ev) : GvS (nxM ev) Q := fun rs => ⟨ev, rs, rfl, h⟩
theorem GvS.wl {m : Ms} {k : Ev → Ms} {P Q : Ev → Prop} (h : GvS m P) (hk : ∀ a, P a → GvS (k a) Q) : GvS (DL.wl m k) Q := fun rs => by
  obtain ⟨d, rs1, e, p⟩ := h rs
  obtain ⟨d2, rs2, e2, p2⟩ := hk d p rs1
  refine ⟨d2, rs2, ?_, p2⟩
  unfold DL.wl
  rw [e]
  exact e2
theorem GvS.sq {m : Ms} {k : Ev → Ms} {P Q : Ev → Prop} (h : GvS m P) (hk : ∀ a, P a → GvS (k a) Q) : GvS (DL.sq m k) Q := fun rs => by
  obtain ⟨d, rs1, e, p⟩ := h rs
  obtain ⟨d2, rs2, e2, p2⟩ := hk d p rs1
  refine ⟨d2, rs2, ?_, p2⟩
  unfold DL.sq
  rw [e]
  exact e2
def okRow (n : N3) (r : Row) : Prop := ∃ u v : Vl, r = [u, v] ∧ u.okU n = true ∧ v.okU n = true
def IsTab (a : Bool) (n : N3) (most : Nat) (rs : List Row) : Prop := rs.length ≤ most ∧ (∀ r ∈ rs, okRow n r) ∧ (a = false → rs.Nodup)
theorem IsTab.mono {a : Bool} {n : N3} {k l : Nat} {rs : List Row} (h : IsTab a n k rs) (hk : k ≤ l) : IsTab a n l rs := ⟨Nat.le_trans h.1 hk, h.2⟩
end LW
namespace LW
open PySem PySem.Spec PyProof.Rows L2 DL
def Atom : D → Prop
  | .none => True
  | .bool _ => True
  | .int _ => True
  | .str x => ∃ s : String, x = Str.ofString s
  | _ => False
def OkA : Nat → D → Prop
  | 0, d => Atom d
  | m + 1, d => Atom d ∨ ∃ ds : List D, (d = .tuple ds ∨ d = .list ds) ∧ ds.length ≤ lim ∧ ∀ x ∈ ds, OkA m x
abbrev SpAlikeM (f : Fs) (m : Nat) : Prop := ∀ d, OkA m d → f [.dat d, .dat d] = pur (.bool true)
theorem alike_atom {f : Fs} {d : D} (h : Atom d) : dFun 2 3 (d__law_alike f) [.dat d, .dat d] = pur (.bool true) := by
  cases d with
  | none => simp [dFun_eq, d__law_alike, isA, truD, isD]
  | bool b => simp [dFun_eq, d__law_alike, isA, truD, isD]
  | int i => simp [dFun_eq, d__law_alike, isA, truD, isD]
  | str x =>
    obtain ⟨s, rfl⟩ := h
    simp [dFun_eq, d__law_alike, isA, truD, isD]
  | _ => exact absurd h (by simp [Atom])
theorem atI_of {ds : List D} {k : Nat} (h : k < ds.length) : atI ds ((k : Nat) : Int) = some ds[k] := atI_nat (List.getElem?_eq_getElem h)
theorem alike_all {f : Fs} {m : Nat} (hf : SpAlikeM f m) {ds : List D} (hl : ds.length ≤ lim) (hd : ∀ x ∈ ds, OkA m x) (mk : List D → D) (hix : ∀ (k : Nat) (h : k < ds.length), ixD (mk ds) (.int (k : Nat)) = some ds[k]) :
    compGo (.name 2) (dNot (dTru (dCl 2 f (dCons (dBin ixD (dVar 0) (dVar 2)) (dCons (dBin ixD (dVar 1) (dVar 2)) (dNil)))))) (dVar 2) [.dat (mk ds), .dat (mk ds), .hid] (rngD 0 (ds.length : Nat)) = pur [] := by
  have e : rngD 0 (ds.length : Nat) = (List.range ds.length).map fun k => PyData.int (k : Nat) := by
    unfold rngD
    simp
  rw [e]
  have q := compGo_on (t := .name 2) (c := dNot (dTru (dCl 2 f (dCons (dBin ixD (dVar 0) (dVar 2)) (dCons (dBin ixD (dVar 1) (dVar 2)) (dNil)))))) (e := dVar 2) (ev := [.dat (mk ds), .dat (mk ds), .hid]) (fun k : Nat => PyData.int (k : Nat)) (fun k : Nat => PyData.int (k : Nat)) (fun _ => false) (List.range ds.length) fun k hk => by
    have hk' : k < ds.length := List.mem_range.mp hk
    have z := hf ds[k] (hd _ (List.getElem_mem hk'))
    exact ⟨_, rfl, by simp [hix k hk', z, truD], fun w => by cases w⟩
  have z : (List.range ds.length).filter (fun _ => false) = [] := List.filter_eq_nil_iff.mpr (by simp)
  rw [z] at q
  exact q
theorem dRng_pur {op : List D → Option (List D)} {f : Ev → Mn (List DL.Slot)} {ev : Ev} {ss : List DL.Slot} {ds r : List D} (h1 : f ev = pur ss) (h2 : dats ss = some ds) (h3 : op ds = some r) : dRng op f ev = pur r := by
  rw [dRng_eq, h1, bnd_pur, h2, Option.bind_some, h3, lft_some']
theorem dComp_pur {own : List Nat} {src : Ev → Mn (List D)} {t : Tgt} {c : Ev → Mn Bool} {e : Ev → Mn D} {ev : Ev} {ds out : List D} (h1 : src ev = pur ds) (h2 : compGo t c e (wipeE ev own) ds = pur out) (h3 : out.length ≤ sizeLine) : dComp own src t c e ev = pur (.list out) := by
  rw [dComp_eq, h1, bnd_pur, h2, bnd_pur, if_pos h3, lft_some']
theorem rng_len (n : Nat) (h : n ≤ lim) : rng1 [.int (n : Nat)] = some (rngD 0 (n : Nat)) := by
  have q : rng1 [.int (n : Nat)] = if -(2 ^ 62) ≤ (n : Int) ∧ (n : Int) < 2 ^ 62 then some (rngD 0 (n : Nat)) else none := rfl
  have := lim_eq
  rw [q, if_pos (by omega)]
theorem eq_nil : eqD (.list []) (.list []) = some true := by
  unfold eqD
  rw [if_pos ⟨sh_rowsL [], sh_rowsL []⟩]
  simp [PyData.eqv, PyData.eqvAll]
def alikeG (F : Ev → Mn D) : Ev → Ms :=
    seqM (pIf (dTru (dIsi [.tuple, .list] (dVar 1))) (seqM (pIf (dOr (dNot (dTru (dIsi [.tuple, .list] (dVar 0)))) (dCmp neD (dIsi [.list] (dVar 0)) (dIsi [.list] (dVar 1)))) (pRet (dLit (.bool false))) (sNil))
    (seqM (pIf (dCmp neD (dFn lenD (dCons (dVar 0) (dNil))) (dFn lenD (dCons (dVar 1) (dNil)))) (pRet (dLit (.bool false))) (sNil))
    (pRet (dCmpE eqD F (dLst (dNil)))))) (sNil))
    (seqM (pIf (dOr (dCmp isD (dVar 1) (dLit .none)) (dTru (dIsi [.str] (dVar 1)))) (pRet (dAndV (dCmpE eqD (dVar 0) (dVar 1)) (dCmpE eqD (dIsi [.str] (dVar 0)) (dIsi [.str] (dVar 1))))) (sNil))
    (pRet (dAndV (dIsi [.int] (dVar 0)) (dAndV (dCmpE eqD (dIsi [.bool] (dVar 0)) (dIsi [.bool] (dVar 1))) (dCmpE eqD (dVar 0) (dVar 1))))))
theorem alikeT {F : Ev → Mn D} {ds : List D} (h : F [.dat (.tuple ds), .dat (.tuple ds), .hid] = pur (.list [])) : dFun 2 3 (alikeG F) [.dat (.tuple ds), .dat (.tuple ds)] = pur (.bool true) := by
  simp [dFun_eq, alikeG, isA, truD, lenD, h, eq_nil]
theorem alikeL {F : Ev → Mn D} {ds : List D} (h : F [.dat (.list ds), .dat (.list ds), .hid] = pur (.list [])) : dFun 2 3 (alikeG F) [.dat (.list ds), .dat (.list ds)] = pur (.bool true) := by
  simp [dFun_eq, alikeG, isA, truD, lenD, h, eq_nil]
abbrev cmpE (f : Fs) : Ev → Mn D := dComp [2] (dRng rng1 (dCons (dFn lenD (dCons (dVar 1) (dNil))) (dNil))) (.name 2) (dNot (dTru (dCl 2 f (dCons (dBin ixD (dVar 0) (dVar 2)) (dCons (dBin ixD (dVar 1) (dVar 2)) (dNil)))))) (dVar 2)
theorem alike_step {f : Fs} {m : Nat} (hf : SpAlikeM f m) : SpAlikeM (dFun 2 3 (d__law_alike f)) (m + 1) := by
  intro d h
  rcases h with h | ⟨ds, h | h, hl, hd⟩
  · exact alike_atom h
  · subst h
    have q := alike_all hf hl hd .tuple (fun k hk => atI_of hk)
    have r := rng_len ds.length hl
    have a : dCons (dFn lenD (dCons (dVar 1) (dNil))) (dNil) [.dat (.tuple ds), .dat (.tuple ds), .hid] = pur [.dat (.int (ds.length : Nat))] := by simp [lenD]
    have c : cmpE f [.dat (.tuple ds), .dat (.tuple ds), .hid] = pur (.list []) := dComp_pur (dRng_pur a rfl r) q (Nat.zero_le _)
    exact alikeT c
  · subst h
    have q := alike_all hf hl hd .list (fun k hk => atI_of hk)
    have r := rng_len ds.length hl
    have a : dCons (dFn lenD (dCons (dVar 1) (dNil))) (dNil) [.dat (.list ds), .dat (.list ds), .hid] = pur [.dat (.int (ds.length : Nat))] := by simp [lenD]
    have c : cmpE f [.dat (.list ds), .dat (.list ds), .hid] = pur (.list []) := dComp_pur (dRng_pur a rfl r) q (Nat.zero_le _)
    exact alikeL c
theorem alike_zero {f : Fs} : SpAlikeM (dFun 2 3 (d__law_alike f)) 0 := fun d h => alike_atom h
end LW
namespace LW
open PySem PySem.Spec PyProof.Rows L2 DL
end LW
namespace LW
open PySem PySem.Spec PyProof.Rows L2 DL
inductive Cnd where
  | p
  | q
  | not (c : Cnd)
  | and (c d : Cnd)
  | or (c d : Cnd)
def Cnd.d : Cnd → D
  | .p => .tuple [.str "p"]
  | .q => .tuple [.str "q"]
  | .not c => .tuple [.str "not", c.d]
  | .and c e => .tuple [.str "and", c.d, e.d]
  | .or c e => .tuple [.str "or", c.d, e.d]
def Cnd.size : Cnd → Nat
  | .p => 1
  | .q => 1
  | .not c => c.size + 1
  | .and c e => c.size + e.size + 1
  | .or c e => c.size + e.size + 1
inductive Ex where
  | tab (b : Bool)
  | op (w : Op3) (e f : Ex)
  | flt (c : Cnd) (e : Ex)
def Ex.d : Ex → D
  | .tab b => .tuple [.str "table", colD b]
  | .op w e f => .tuple [.str (Str.ofString w.s), e.d, f.d]
  | .flt c e => .tuple [.str "filter", c.d, e.d]
def Ex.size : Ex → Nat
  | .tab _ => 1
  | .op _ e f => e.size + f.size + 1
  | .flt c e => c.size + e.size + 1
def Ex.leaves : Ex → Nat
  | .tab _ => 1
  | .op _ e f => e.leaves + f.leaves
  | .flt _ e => e.leaves
def IsCnd (b : Nat) (d : D) : Prop := ∃ x : Cnd, d = x.d ∧ x.size ≤ b
abbrev SpCond (f : Fs) (m : Nat) : Prop := ∀ k : Nat, k < m → Gv (f [.row, .dat (.int k)]) (IsCnd (2 ^ (k + 1) - 1))
theorem cond_ok {ft fp ff : Fs} {m : Nat} (h1 : SpTk ft) (h2 : SpPick fp) (h3 : SpCond ff m) : SpCond (dFun 2 3 (d__law_condition ft fp ff)) (m + 1) := by
  intro k hk
  have hpow : 1 ≤ 2 ^ (k + 1) - 1 := by
    have : 2 ^ 1 ≤ 2 ^ (k + 1) := Nat.pow_le_pow_right (by decide) (by omega)
    omega
  have lt_ii : ∀ i j : Int, ltD (.int i) (.int j) = some (decide (i < j)) := fun i j => rfl
  simp [dFun_eq, d__law_condition, fin_bnS, bnd_bnd, bnS_bnd, sq_bnS, gtD, mulxD, addD, subD, int_b, bnd_id]
  refine Gv.bnd (P := fun d => ∃ i : Int, 0 ≤ i ∧ i < 6 ∧ (0 < k ∨ i < 3) ∧ d = .int i) ?_ fun d ⟨i, i0, i1, i2, e⟩ => ?_
  · by_cases hk0 : 0 < k
    · rw [if_pos hk0]
      exact Gv.imp (h1 (3 + 3 * 1) (by decide) (by decide)) fun d ⟨i, i0, i1, e⟩ => ⟨i, i0, i1, .inl hk0, e⟩
    · rw [if_neg hk0]
      exact Gv.imp (h1 (3 + 3 * 0) (by decide) (by decide)) fun d ⟨i, i0, i1, e⟩ => ⟨i, i0, by omega, .inr i1, e⟩
  subst e
  simp only [lt_ii, eq_ii, lft_some', bnd_pur, decide_eq_true_eq, beq_iff_eq]
  split
  · refine Gv.imp (h2 _ (by simp) (by simp)) fun d hd => ?_
    simp at hd
    rcases hd with rfl | rfl
    · exact ⟨.p, rfl, hpow⟩
    · exact ⟨.q, rfl, hpow⟩
  · have hk0 : 0 < k := by omega
    have hkk : ((k : Int) - 1) = ((k - 1 : Nat) : Int) := by omega
    rw [hkk]
    have hr := h3 (k - 1) (by omega)
    rw [show k - 1 + 1 = k by omega] at hr
    have hp2 : 2 ^ (k + 1) = 2 * 2 ^ k := by rw [Nat.pow_succ]; omega
    have hp1 : 2 ≤ 2 ^ k := by
      have : 2 ^ 1 ≤ 2 ^ k := Nat.pow_le_pow_right (by decide) hk0
      omega
    split
    · refine Gv.bnd hr fun d ⟨x, e, sz⟩ => ?_
      subst e
      exact Gv.pur ⟨.not x, rfl, by simp only [Cnd.size]; omega⟩
    · refine Gv.bnd (h2 _ (by simp) (by simp)) fun w mw => ?_
      refine Gv.bnd hr fun d ⟨x, e, sz⟩ => ?_
      subst e
      refine Gv.bnd hr fun d ⟨y, e, sz2⟩ => ?_
      subst e
      simp at mw
      refine Gv.pur ?_
      rcases mw with rfl | rfl
      · exact ⟨.and x y, rfl, by simp only [Cnd.size]; omega⟩
      · exact ⟨.or x y, rfl, by simp only [Cnd.size]; omega⟩
def cv (p q : Option Bool) : Cnd → Option Bool
  | .p => p
  | .q => q
  | .not c => tnot (cv p q c)
  | .and c e => tand (cv p q c) (cv p q e)
  | .or c e => tor (cv p q c) (cv p q e)
theorem cnd_pos (c : Cnd) : 1 ≤ c.size := by cases c <;> simp [Cnd.size]
abbrev SpKnown (f : Fs) (m : Nat) : Prop := ∀ x : Cnd, x.size ≤ m → ∀ p q, f [.dat x.d, .dat (td p), .dat (td q)] = pur (td (cv p q x))
theorem known_ok {ff fj : Fs} {m : Nat} (h1 : SpKnown ff m) (h2 : SpJoin fj) : SpKnown (dFun 3 4 (d__law_known ff fj)) (m + 1) := by
  intro x hx p q
  have w1 : ∀ s : String, inD (.str (Str.ofString s)) (.list [.str "p", .str "q"]) = some (["p", "q"].any fun t => t == s) := fun s => in_w s ["p", "q"]
  cases x with
  | p => simp [dFun_eq, d__law_known, Cnd.d, w1, cv]
  | q => simp [dFun_eq, d__law_known, Cnd.d, w1, cv]
  | not c =>
    have hc := h1 c (by simp [Cnd.size] at hx; omega) p q
    simp [dFun_eq, d__law_known, Cnd.d, w1, cv, hc]
    cases cv p q c <;> simp [td, tnot, isD, truD]
  | and c e =>
    have hc := h1 c (by simp [Cnd.size] at hx; omega) p q
    have he := h1 e (by simp [Cnd.size] at hx; omega) p q
    simp [dFun_eq, d__law_known, Cnd.d, w1, cv, hc, he, h2.1 _ _]
  | or c e =>
    have hc := h1 c (by simp [Cnd.size] at hx; omega) p q
    have he := h1 e (by simp [Cnd.size] at hx; omega) p q
    simp [dFun_eq, d__law_known, Cnd.d, w1, cv, hc, he, h2.2 _ _]
end LW
namespace LW
open PySem PySem.Spec PyProof.Rows L2 DL
def cz (a b c : Bool) (x y : Int) (p q : Option Bool) : Ex → Int
  | .tab i => if i = true then y else x
  | .op w e f => manyZ a b c w (cz a b c x y p q e) (cz a b c x y p q f)
  | .flt k e => if isT (cv p q k) = true then cz a b c x y p q e else 0
def caseD (x y : Int) (p q : Option Bool) : D := .tuple [.int x, .int y, td p, td q]
theorem ex_pos (e : Ex) : 1 ≤ e.size := by cases e <;> simp [Ex.size]
abbrev SpCount (f : Fs) (m : Nat) : Prop := ∀ e : Ex, e.size ≤ m → ∀ a b c n z x y p q, f [.dat (wayD a b c n z), .dat e.d, .dat (caseD x y p q)] = pur (.int (cz a b c x y p q e))
theorem count_ok {ff fk fm : Fs} {m : Nat} (h1 : SpCount ff m) (h2 : SpKnown fk m) (h3 : SpMany fm) : SpCount (dFun 3 3 (d__law_count fk ff fm)) (m + 1) := by
  intro e he a b c n z x y p q
  have c2 : ixD (caseD x y p q) (.int 2) = some (td p) := rfl
  have c3 : ixD (caseD x y p q) (.int 3) = some (td q) := rfl
  have cc : ∀ i : Bool, ixD (caseD x y p q) (colD i) = some (.int (if i = true then y else x)) := by intro i; cases i <;> rfl
  cases e with
  | tab i => simp [dFun_eq, d__law_count, Ex.d, cc, cz]
  | op w e f =>
    have q1 := h1 e (by simp [Ex.size] at he; omega) a b c n z x y p q
    have q2 := h1 f (by simp [Ex.size] at he; omega) a b c n z x y p q
    have q3 := h3 a b c n z w
    cases w <;> (simp only [Op3.s] at q3; simp [dFun_eq, d__law_count, Ex.d, Op3.s, q1, q2, q3, cz])
  | flt k e =>
    have q1 := h1 e (by simp [Ex.size] at he; omega) a b c n z x y p q
    have q2 := h2 k (by have := ex_pos e; simp [Ex.size] at he; omega) p q
    by_cases ht : isT (cv p q k) = true
    · simp [dFun_eq, d__law_count, Ex.d, c2, c3, q1, q2, is_true, cz, ht]
    · have ht' : isT (cv p q k) = false := by simpa using ht
      simp [dFun_eq, d__law_count, Ex.d, c2, c3, q1, q2, is_true, cz, ht']
end LW
namespace LW
open PySem PySem.Spec PyProof.Rows L2 DL
abbrev SpLawEx (f : Fs) (m : Nat) : Prop := ∀ k : Nat, 1 ≤ k → k ≤ m → k ≤ 100 → Gv (f [.row, .dat (.int k)]) fun d => ∃ e : Ex, d = e.d ∧ e.leaves ≤ k ∧ e.size ≤ 10 * k - 5
theorem law_ex {ft fc fp ff : Fs} {m : Nat} (h1 : SpTk ft) (h2 : SpCond fc 2) (h3 : SpPick fp) (h4 : SpLawEx ff m) : SpLawEx (dFun 2 5 (d__law_expression ft fc fp ff)) (m + 1) := by
  intro k k1 km kl
  have lt_ii : ∀ i j : Int, ltD (.int i) (.int j) = some (decide (i < j)) := fun i j => rfl
  have c1 := h2 1 (by decide)
  have leaf : Gv (bnd (ft [.row, .dat (.int 3)]) fun a => bnd (lft (gtD a (.int 0))) fun a => if a = true then bnd (ft [.row, .dat (.int 2)]) fun a => pur (PyData.tuple [.str "table", a]) else bnd (fc [.row, .dat (.int 1)]) fun a => bnd (ft [.row, .dat (.int 2)]) fun b => pur (PyData.tuple [.str "filter", a, .tuple [.str "table", b]])) (fun d => ∃ e : Ex, d = e.d ∧ e.leaves ≤ k ∧ e.size ≤ 10 * k - 5) := by
    refine Gv.bnd (h1 3 (by decide) (by decide)) fun d ⟨i, i0, i1, e⟩ => ?_
    subst e
    have g : gtD (.int i) (.int 0) = some (decide (i > 0)) := rfl
    rw [g, lft_some', bnd_pur]
    split
    · refine Gv.bnd (h1 2 (by decide) (by decide)) fun d ⟨j, j0, j1, e⟩ => ?_
      subst e
      rw [col_i j0 j1]
      exact Gv.pur ⟨.tab (decide (j = 1)), rfl, k1, by simp only [Ex.size]; omega⟩
    · refine Gv.bnd c1 fun d ⟨x, e, sz⟩ => ?_
      subst e
      refine Gv.bnd (h1 2 (by decide) (by decide)) fun d ⟨j, j0, j1, e⟩ => ?_
      subst e
      rw [col_i j0 j1]
      exact Gv.pur ⟨.flt x (.tab (decide (j = 1))), rfl, k1, by simp only [Ex.size]; simp at sz; omega⟩
  have rest : 2 ≤ k → Gv (bnd (ft [.row, .dat (.int ((k : Int) - 1))]) fun a => bnd (lft (addD (.int 1) a)) fun a => bnd (fp [.row, .dat (.list [.str "union", .str "union", .str "intersection", .str "difference", .str "difference"])]) fun w => bnd (ff [.row, .dat a]) fun x => bnd (lft (subD (.int k) a)) fun b => bnd (ff [.row, .dat b]) fun y => bnd (ft [.row, .dat (.int 6)]) fun z => bnd (lft (eqD z (.int 0))) fun z => if z = true then bnd (fc [.row, .dat (.int 1)]) fun q => pur (PyData.tuple [.str "filter", q, .tuple [w, x, y]]) else pur (PyData.tuple [w, x, y])) (fun d => ∃ e : Ex, d = e.d ∧ e.leaves ≤ k ∧ e.size ≤ 10 * k - 5) := by
    intro k2
    refine Gv.bnd (h1 _ (by omega) (by omega)) fun d ⟨i, i0, i1, e⟩ => ?_
    subst e
    have ea : addD (.int 1) (.int i) = some (.int (1 + i)) := rfl
    rw [ea, lft_some', bnd_pur]
    refine Gv.bnd (h3 _ (by simp) (by simp)) fun w mw => ?_
    have en : (1 + i : Int) = ((1 + i.toNat : Nat) : Int) := by omega
    rw [en]
    refine Gv.bnd (h4 _ (by omega) (by omega) (by omega)) fun d ⟨x, e, lx, sx⟩ => ?_
    subst e
    have es : subD (.int (k : Int)) (.int ((1 + i.toNat : Nat) : Int)) = some (.int ((k - (1 + i.toNat) : Nat) : Int)) := by
      show some (PyData.int _) = _
      congr 2
      omega
    rw [es, lft_some', bnd_pur]
    refine Gv.bnd (h4 _ (by omega) (by omega) (by omega)) fun d ⟨y, e, ly, sy⟩ => ?_
    subst e
    obtain ⟨o, ho⟩ : ∃ o : Op3, w = .str (Str.ofString o.s) := by
      simp at mw
      rcases mw with rfl | rfl | rfl
      · exact ⟨.uni, rfl⟩
      · exact ⟨.int, rfl⟩
      · exact ⟨.dif, rfl⟩
    subst ho
    refine Gv.bnd (h1 6 (by decide) (by decide)) fun d ⟨j, j0, j1, e⟩ => ?_
    subst e
    rw [eq_ii, lft_some', bnd_pur]
    split
    · refine Gv.bnd c1 fun d ⟨q, e, sq⟩ => ?_
      subst e
      exact Gv.pur ⟨.flt q (.op o x y), rfl, by simp only [Ex.leaves]; omega, by simp only [Ex.size]; simp at sq; omega⟩
    · exact Gv.pur ⟨.op o x y, rfl, by simp only [Ex.leaves]; omega, by simp only [Ex.size]; omega⟩
  simp [dFun_eq, d__law_expression, fin_bnS, bnd_bnd, bnS_bnd, sq_bnS, bnd_id, lt_ii]
  by_cases hk : (k : Int) < 2
  · simp only [hk, if_true]
    simpa [lt_ii] using leaf
  · simp only [hk, if_false]
    refine Gv.bnd (h1 7 (by decide) (by decide)) fun d ⟨i, i0, i1, e⟩ => ?_
    subst e
    rw [eq_ii, lft_some', bnd_pur]
    split
    · exact leaf
    · have es : subD (.int (k : Int)) (.int 1) = some (.int ((k : Int) - 1)) := rfl
      rw [es, lft_some', bnd_pur]
      exact rest (by omega)
end LW
namespace LW
open PySem PySem.Spec PyProof.Rows L2 DL
abbrev SpTuples (f : Fs) (m : Nat) : Prop := (∀ x : Cnd, x.size ≤ m → f [.dat x.d] = pur (.int ((x.size : Nat) : Int))) ∧ ∀ e : Ex, e.size ≤ m → f [.dat e.d] = pur (.int ((e.size : Nat) : Int))
theorem isa_c (x : Cnd) : isA x.d .tuple = true := by cases x <;> rfl
theorem isa_e (x : Ex) : isA x.d .tuple = true := by cases x <;> rfl
theorem isa_col (b : Bool) : isA (colD b) .tuple = false := by cases b <;> rfl
theorem tuples_step {f : Fs} {m : Nat} (h : SpTuples f m) : SpTuples (dFun 1 2 (d__law_tuples f)) (m + 1) := by
  obtain ⟨h1, h2⟩ := h
  refine ⟨fun x hx => ?_, fun e he => ?_⟩
  · cases x with
    | p => simp [dFun_eq, d__law_tuples, Cnd.d, Cnd.size, itmD, sumD, intsD, addD]
    | q => simp [dFun_eq, d__law_tuples, Cnd.d, Cnd.size, itmD, sumD, intsD, addD]
    | not c =>
      have hc := h1 c (by simp [Cnd.size] at hx; omega)
      simp [dFun_eq, d__law_tuples, Cnd.d, Cnd.size, itmD, isa_c, truD, hc, sumD, intsD, addD]
      refine congrArg (fun z => pur (PyData.int z)) ?_
      omega
    | and c d =>
      have hc := h1 c (by simp [Cnd.size] at hx; omega)
      have hd := h1 d (by simp [Cnd.size] at hx; omega)
      simp [dFun_eq, d__law_tuples, Cnd.d, Cnd.size, itmD, isa_c, truD, hc, hd, sumD, intsD, addD]
      refine congrArg (fun z => pur (PyData.int z)) ?_
      omega
    | or c d =>
      have hc := h1 c (by simp [Cnd.size] at hx; omega)
      have hd := h1 d (by simp [Cnd.size] at hx; omega)
      simp [dFun_eq, d__law_tuples, Cnd.d, Cnd.size, itmD, isa_c, truD, hc, hd, sumD, intsD, addD]
      refine congrArg (fun z => pur (PyData.int z)) ?_
      omega
  · cases e with
    | tab b => simp [dFun_eq, d__law_tuples, Ex.d, Ex.size, itmD, isa_col, truD, sumD, intsD, addD]
    | op w e f =>
      have hc := h2 e (by simp [Ex.size] at he; omega)
      have hd := h2 f (by simp [Ex.size] at he; omega)
      simp [dFun_eq, d__law_tuples, Ex.d, Ex.size, itmD, isa_e, truD, hc, hd, sumD, intsD, addD]
      refine congrArg (fun z => pur (PyData.int z)) ?_
      omega
    | flt c e =>
      have hc := h1 c (by simp [Ex.size] at he; omega)
      have hd := h2 e (by simp [Ex.size] at he; omega)
      simp [dFun_eq, d__law_tuples, Ex.d, Ex.size, itmD, isa_c, isa_e, truD, hc, hd, sumD, intsD, addD]
      refine congrArg (fun z => pur (PyData.int z)) ?_
      omega
abbrev SpLeaves (f : Fs) (m : Nat) : Prop := ∀ e : Ex, e.size ≤ m → f [.dat e.d] = pur (.int ((e.leaves : Nat) : Int))
theorem op_table (w : Op3) : (w.s == "table") = false := by cases w <;> rfl
theorem op_filter (w : Op3) : (w.s == "filter") = false := by cases w <;> rfl
theorem leaves_step {f : Fs} {m : Nat} (h : SpLeaves f m) : SpLeaves (dFun 1 1 (d__law_leaves f)) (m + 1) := by
  intro e he
  cases e with
  | tab b => simp [dFun_eq, d__law_leaves, Ex.d, Ex.leaves]
  | op w e f =>
    have hc := h e (by simp [Ex.size] at he; omega)
    have hd := h f (by simp [Ex.size] at he; omega)
    have o1 := op_table w
    have o2 := op_filter w
    simp [dFun_eq, d__law_leaves, Ex.d, Ex.leaves, op_table, op_filter, hc, hd, addD]
    refine congrArg (fun z => pur (PyData.int z)) ?_
    omega
  | flt c e =>
    have hd := h e (by simp [Ex.size] at he; omega)
    simp [dFun_eq, d__law_leaves, Ex.d, Ex.leaves, hd, addD]
abbrev IsTree (k : Nat) (d : D) : Prop := ∃ e : Ex, d = e.d ∧ e.leaves ≤ k ∧ e.size ≤ 12
abbrev SpTree (f : Fs) : Prop := ∀ k : Nat, 2 ≤ k → k ≤ 4 → Gv (f [.row, .dat (.int k)]) (IsTree k)
theorem tree_ok {fe ft : Fs} (h1 : SpLawEx fe 4) (h2 : SpTuples ft 35) : SpTree (dFun 2 3 (d__law_tree fe ft)) := by
  intro k k2 k4
  simp [dFun_eq, d__law_tree, fin_bnS, bnd_bnd, bnS_bnd, sq_bnS, bnd_id]
  refine Gv.bnd (h1 k (by omega) k4 (by omega)) fun d ⟨e, ed, el, es⟩ => ?_
  subst ed
  have q := h2.2 e (by omega)
  have lt_ii : ∀ i j : Int, ltD (.int i) (.int j) = some (decide (i < j)) := fun i j => rfl
  rw [q, bnd_pur, lt_ii, lft_some', bnd_pur]
  split
  · rename_i c
    have c' := of_decide_eq_true c
    exact Gv.pur ⟨e, rfl, el, by omega⟩
  · exact Gv.pur ⟨.op .uni (.tab false) (.tab true), rfl, by simp only [Ex.leaves]; omega, by simp only [Ex.size]; omega⟩
abbrev OkEx (e : Ex) : Prop := e.size ≤ 30 ∧ e.leaves ≤ 6
def IsTwins (d : D) : Prop := ∃ e g : Ex, d = .tuple [e.d, g.d] ∧ OkEx e ∧ OkEx g
abbrev SpTwins (f : Fs) : Prop := Gv (f [.row]) IsTwins
def tA : Ex := .tab false
def tB : Ex := .tab true
theorem twins_ok {ft fp : Fs} (h1 : SpTree ft) (h2 : SpPick fp) : SpTwins (dFun 1 5 (d__law_twins ft fp)) := by
  show Gv (dFun 1 5 (d__law_twins ft fp) [.row]) _
  have add : ∀ xs ys : List D, xs.length + ys.length ≤ 1000 → addD (.list xs) (.list ys) = some (.list (xs ++ ys)) := fun xs ys h => by
    simp [addD, size_ok _ h]
  simp [dFun_eq, d__law_twins, pPar3_eq, fin_bnS, bnd_bnd, bnS_bnd, sq_bnS, bnd_id, add]
  refine Gv.bnd (h1 3 (by decide) (by decide)) fun d ⟨one, e, l1, s1⟩ => ?_
  subst e
  refine Gv.bnd (h1 4 (by decide) (by decide)) fun d ⟨x, e, lx, sx⟩ => ?_
  subst e
  refine Gv.bnd (h1 4 (by decide) (by decide)) fun d ⟨y, e, ly, sy⟩ => ?_
  subst e
  refine Gv.imp (h2 _ (by simp) (by simp)) fun d m => ?_
  have mk : ∀ e g : Ex, d = .tuple [e.d, g.d] → e.size ≤ 30 → e.leaves ≤ 6 → g.size ≤ 30 → g.leaves ≤ 6 → IsTwins d := fun e g h a b c q => ⟨e, g, h, ⟨a, b⟩, c, q⟩
  simp only [List.mem_cons, List.not_mem_nil, or_false] at m
  have sA : tA.size = 1 := rfl
  have sB : tB.size = 1 := rfl
  have lA : tA.leaves = 1 := rfl
  have lB : tB.leaves = 1 := rfl
  rcases m with h | h | h | h | h | h | h | h | h | h | h | h | h | h | h | h
  · exact mk (.op .uni tA (.op .int tA tB)) tA h (by first | omega | (simp only [Ex.size, Cnd.size, sA, sB]; omega) | (simp only [Ex.size, Cnd.size, sA, sB]; decide)) (by first | omega | (simp only [Ex.leaves, lA, lB]; omega) | (simp only [Ex.leaves, lA, lB]; decide)) (by first | omega | (simp only [Ex.size, Cnd.size, sA, sB]; omega) | (simp only [Ex.size, Cnd.size, sA, sB]; decide)) (by first | omega | (simp only [Ex.leaves, lA, lB]; omega) | (simp only [Ex.leaves, lA, lB]; decide))
  · exact mk (.op .int tA tB) (.op .dif tA (.op .dif tA tB)) h (by first | omega | (simp only [Ex.size, Cnd.size, sA, sB]; omega) | (simp only [Ex.size, Cnd.size, sA, sB]; decide)) (by first | omega | (simp only [Ex.leaves, lA, lB]; omega) | (simp only [Ex.leaves, lA, lB]; decide)) (by first | omega | (simp only [Ex.size, Cnd.size, sA, sB]; omega) | (simp only [Ex.size, Cnd.size, sA, sB]; decide)) (by first | omega | (simp only [Ex.leaves, lA, lB]; omega) | (simp only [Ex.leaves, lA, lB]; decide))
  · exact mk (.op .dif (.op .uni tA tB) tB) (.op .dif tA tB) h (by first | omega | (simp only [Ex.size, Cnd.size, sA, sB]; omega) | (simp only [Ex.size, Cnd.size, sA, sB]; decide)) (by first | omega | (simp only [Ex.leaves, lA, lB]; omega) | (simp only [Ex.leaves, lA, lB]; decide)) (by first | omega | (simp only [Ex.size, Cnd.size, sA, sB]; omega) | (simp only [Ex.size, Cnd.size, sA, sB]; decide)) (by first | omega | (simp only [Ex.leaves, lA, lB]; omega) | (simp only [Ex.leaves, lA, lB]; decide))
  · exact mk (.op .dif (.op .uni tA tB) tB) tA h (by first | omega | (simp only [Ex.size, Cnd.size, sA, sB]; omega) | (simp only [Ex.size, Cnd.size, sA, sB]; decide)) (by first | omega | (simp only [Ex.leaves, lA, lB]; omega) | (simp only [Ex.leaves, lA, lB]; decide)) (by first | omega | (simp only [Ex.size, Cnd.size, sA, sB]; omega) | (simp only [Ex.size, Cnd.size, sA, sB]; decide)) (by first | omega | (simp only [Ex.leaves, lA, lB]; omega) | (simp only [Ex.leaves, lA, lB]; decide))
  · exact mk (.op .uni tA tB) (.op .uni tB tA) h (by first | omega | (simp only [Ex.size, Cnd.size, sA, sB]; omega) | (simp only [Ex.size, Cnd.size, sA, sB]; decide)) (by first | omega | (simp only [Ex.leaves, lA, lB]; omega) | (simp only [Ex.leaves, lA, lB]; decide)) (by first | omega | (simp only [Ex.size, Cnd.size, sA, sB]; omega) | (simp only [Ex.size, Cnd.size, sA, sB]; decide)) (by first | omega | (simp only [Ex.leaves, lA, lB]; omega) | (simp only [Ex.leaves, lA, lB]; decide))
  · exact mk (.op .uni tA tA) tA h (by first | omega | (simp only [Ex.size, Cnd.size, sA, sB]; omega) | (simp only [Ex.size, Cnd.size, sA, sB]; decide)) (by first | omega | (simp only [Ex.leaves, lA, lB]; omega) | (simp only [Ex.leaves, lA, lB]; decide)) (by first | omega | (simp only [Ex.size, Cnd.size, sA, sB]; omega) | (simp only [Ex.size, Cnd.size, sA, sB]; decide)) (by first | omega | (simp only [Ex.leaves, lA, lB]; omega) | (simp only [Ex.leaves, lA, lB]; decide))
  · exact mk (.op .dif tA (.op .uni tB tB)) (.op .dif tA tB) h (by first | omega | (simp only [Ex.size, Cnd.size, sA, sB]; omega) | (simp only [Ex.size, Cnd.size, sA, sB]; decide)) (by first | omega | (simp only [Ex.leaves, lA, lB]; omega) | (simp only [Ex.leaves, lA, lB]; decide)) (by first | omega | (simp only [Ex.size, Cnd.size, sA, sB]; omega) | (simp only [Ex.size, Cnd.size, sA, sB]; decide)) (by first | omega | (simp only [Ex.leaves, lA, lB]; omega) | (simp only [Ex.leaves, lA, lB]; decide))
  · exact mk (.op .uni one tA) (.op .uni tA one) h (by first | omega | (simp only [Ex.size, Cnd.size, sA, sB]; omega) | (simp only [Ex.size, Cnd.size, sA, sB]; decide)) (by first | omega | (simp only [Ex.leaves, lA, lB]; omega) | (simp only [Ex.leaves, lA, lB]; decide)) (by first | omega | (simp only [Ex.size, Cnd.size, sA, sB]; omega) | (simp only [Ex.size, Cnd.size, sA, sB]; decide)) (by first | omega | (simp only [Ex.leaves, lA, lB]; omega) | (simp only [Ex.leaves, lA, lB]; decide))
  · exact mk (.flt (.or .p (.not .p)) tA) tA h (by first | omega | (simp only [Ex.size, Cnd.size, sA, sB]; omega) | (simp only [Ex.size, Cnd.size, sA, sB]; decide)) (by first | omega | (simp only [Ex.leaves, lA, lB]; omega) | (simp only [Ex.leaves, lA, lB]; decide)) (by first | omega | (simp only [Ex.size, Cnd.size, sA, sB]; omega) | (simp only [Ex.size, Cnd.size, sA, sB]; decide)) (by first | omega | (simp only [Ex.leaves, lA, lB]; omega) | (simp only [Ex.leaves, lA, lB]; decide))
  · exact mk one one h (by first | omega | (simp only [Ex.size, Cnd.size, sA, sB]; omega) | (simp only [Ex.size, Cnd.size, sA, sB]; decide)) (by first | omega | (simp only [Ex.leaves, lA, lB]; omega) | (simp only [Ex.leaves, lA, lB]; decide)) (by first | omega | (simp only [Ex.size, Cnd.size, sA, sB]; omega) | (simp only [Ex.size, Cnd.size, sA, sB]; decide)) (by first | omega | (simp only [Ex.leaves, lA, lB]; omega) | (simp only [Ex.leaves, lA, lB]; decide))
  · exact mk (.flt (.not .p) tA) (.op .dif tA (.flt .p tA)) h (by first | omega | (simp only [Ex.size, Cnd.size, sA, sB]; omega) | (simp only [Ex.size, Cnd.size, sA, sB]; decide)) (by first | omega | (simp only [Ex.leaves, lA, lB]; omega) | (simp only [Ex.leaves, lA, lB]; decide)) (by first | omega | (simp only [Ex.size, Cnd.size, sA, sB]; omega) | (simp only [Ex.size, Cnd.size, sA, sB]; decide)) (by first | omega | (simp only [Ex.leaves, lA, lB]; omega) | (simp only [Ex.leaves, lA, lB]; decide))
  · exact mk (.op .int one one) one h (by first | omega | (simp only [Ex.size, Cnd.size, sA, sB]; omega) | (simp only [Ex.size, Cnd.size, sA, sB]; decide)) (by first | omega | (simp only [Ex.leaves, lA, lB]; omega) | (simp only [Ex.leaves, lA, lB]; decide)) (by first | omega | (simp only [Ex.size, Cnd.size, sA, sB]; omega) | (simp only [Ex.size, Cnd.size, sA, sB]; decide)) (by first | omega | (simp only [Ex.leaves, lA, lB]; omega) | (simp only [Ex.leaves, lA, lB]; decide))
  · exact mk (.op .uni (.op .dif tA tB) (.op .int tA tB)) tA h (by first | omega | (simp only [Ex.size, Cnd.size, sA, sB]; omega) | (simp only [Ex.size, Cnd.size, sA, sB]; decide)) (by first | omega | (simp only [Ex.leaves, lA, lB]; omega) | (simp only [Ex.leaves, lA, lB]; decide)) (by first | omega | (simp only [Ex.size, Cnd.size, sA, sB]; omega) | (simp only [Ex.size, Cnd.size, sA, sB]; decide)) (by first | omega | (simp only [Ex.leaves, lA, lB]; omega) | (simp only [Ex.leaves, lA, lB]; decide))
  · exact mk (.op .int one tB) (.op .int tB one) h (by first | omega | (simp only [Ex.size, Cnd.size, sA, sB]; omega) | (simp only [Ex.size, Cnd.size, sA, sB]; decide)) (by first | omega | (simp only [Ex.leaves, lA, lB]; omega) | (simp only [Ex.leaves, lA, lB]; decide)) (by first | omega | (simp only [Ex.size, Cnd.size, sA, sB]; omega) | (simp only [Ex.size, Cnd.size, sA, sB]; decide)) (by first | omega | (simp only [Ex.leaves, lA, lB]; omega) | (simp only [Ex.leaves, lA, lB]; decide))
  · exact mk (.op .uni (.op .uni tA tB) one) (.op .uni tA (.op .uni tB one)) h (by first | omega | (simp only [Ex.size, Cnd.size, sA, sB]; omega) | (simp only [Ex.size, Cnd.size, sA, sB]; decide)) (by first | omega | (simp only [Ex.leaves, lA, lB]; omega) | (simp only [Ex.leaves, lA, lB]; decide)) (by first | omega | (simp only [Ex.size, Cnd.size, sA, sB]; omega) | (simp only [Ex.size, Cnd.size, sA, sB]; decide)) (by first | omega | (simp only [Ex.leaves, lA, lB]; omega) | (simp only [Ex.leaves, lA, lB]; decide))
  · exact mk x y h (by first | omega | (simp only [Ex.size, Cnd.size, sA, sB]; omega) | (simp only [Ex.size, Cnd.size, sA, sB]; decide)) (by first | omega | (simp only [Ex.leaves, lA, lB]; omega) | (simp only [Ex.leaves, lA, lB]; decide)) (by first | omega | (simp only [Ex.size, Cnd.size, sA, sB]; omega) | (simp only [Ex.size, Cnd.size, sA, sB]; decide)) (by first | omega | (simp only [Ex.leaves, lA, lB]; omega) | (simp only [Ex.leaves, lA, lB]; decide))
end LW
namespace DL
open PySem PySem.Spec PyProof.Rows L2
abbrev NoX : Value → Shared → Prop := fun _ _ => False
abbrev Go := (Shared → Prop) → Shared → Prop
/-- the loop at the k-th clause; go: the rest of a turn, behind the store and the tests -/
def LoopRule (p : Program) (w : World) (A : Around) (e : Expr) (k : Nat) (tg : Expr) (ifs : List Expr) (env : Env) (acc : Value) (go : Go) : Prop :=
  ∀ (it : Value) (R : Result → Shared → Prop) (I : Nat → Shared → Prop),
    (∀ n s, I n s → wpAny (model p w) A (pyNext it) (fun x s1 => match x with
      | none => R (.ok .next) s1
      | some v => wpAny (model p w) A (letOwnedTupleGo tg it v) (fun _ s2 => wpAny (model p w) A (assign tg env v) (fun _ s3 =>
          wpAny (model p w) A (forIn ifs true fun c b => if b = true then do let ok ← isTrue c env (eval c env); pure (ForInStep.yield ok) else pure (ForInStep.yield b))
            (fun ok s4 => if ok = true then go (fun s5 => ∃ m, m < n ∧ I m s5) s4 else ∃ m, m < n ∧ I m s4) NoX s3) NoX s2) NoX s1) NoX s) →
    ∀ n s, I n s → codeAny (model p w) A (.compLoop e k it acc env) R s
def goIn (p : Program) (w : World) (A : Around) (elt : Expr) (env : Env) (acc : Value) : Go := fun Rr s =>
  wpAny (model p w) A (eval elt env) (fun x s1 => wpAny (model p w) A (call (.builtin "list.append") [acc, x]) (fun _ s2 => Rr s2) NoX s1) NoX s
def goOut (p : Program) (w : World) (A : Around) (e : Expr) (k : Nat) (iter : Expr) (env : Env) (acc : Value) : Go := fun Rr s =>
  wpAny (model p w) A (eval iter env) (fun x s1 => wpAny (model p w) A (pyIter x) (fun it s2 => codeAny (model p w) A (.compStart e k it acc env) (fun y s3 => match y with
    | .ok _ => Rr s3
    | .error _ => False) s2) NoX s1) NoX s
def StartRule (p : Program) (w : World) (A : Around) (e : Expr) (k : Nat) (env : Env) (acc : Value) : Prop :=
  ∀ (it : Value) (R : Result → Shared → Prop) (s : Shared), codeAny (model p w) A (.compLoop e k it acc env) R s →
    wpAny (model p w) A (pyIter it) (fun it2 s2 => codeAny (model p w) A (.compLoop e k it2 acc env) R s2) NoX s → codeAny (model p w) A (.compStart e k it acc env) R s
section
variable {p : Program} {w : World} {A : Around} {elt t0 i0 : Expr} {ifs0 : List Expr} {k : Nat} {env : Env} {acc : Value} {gs : List Comprehension} {scope : Scope} {pos : Pos}
def turnIn (t0 i0 : Expr) (ifs0 : List Expr) (elt e : Expr) (k : Nat) (it acc : Value) (env : Env) : Sem PySem.Fin := do
  standAt i0.pos
  match ← pyNext it with
  | none => pure (.done .next)
  | some v =>
    letOwnedTupleGo t0 it v
    assign t0 env v
    let mut ok := true
    for c in ifs0 do
      if ok then ok ← isTrue c env (eval c env)
    if ok then
      (do let _ ← call (.builtin "list.append") [acc, ← eval elt env])
    again (.compLoop e k it acc env)
def turnOut (t0 i0 i1 : Expr) (ifs0 : List Expr) (e : Expr) (k : Nat) (it acc : Value) (env : Env) : Sem PySem.Fin := do
  standAt i0.pos
  match ← pyNext it with
  | none => pure (.done .next)
  | some v =>
    letOwnedTupleGo t0 it v
    assign t0 env v
    let mut ok := true
    for c in ifs0 do
      if ok then ok ← isTrue c env (eval c env)
    if ok then
      let x ← eval i1 env
      standAt i1.pos
      let x ← foldedSetIterable i1 env x
      let _ ← runOwn (.compStart e (k + 1) (← holding [x] (pyIter x)) acc env) env
    again (.compLoop e k it acc env)
theorem nox_mono {α : Type} {t : Sem α} {Q Q' : α → Shared → Prop} {E : Value → Shared → Prop} {s : Shared} (h : wpAny (model p w) A t Q NoX s) (hQ : ∀ a s, Q a s → Q' a s) : wpAny (model p w) A t Q' E s := wpAny_mono h hQ fun _ _ z => z.elim
theorem rule_in (h : ∀ it, compTurn (.ListComp elt gs scope pos) k it acc env = turnIn t0 i0 ifs0 elt (.ListComp elt gs scope pos) k it acc env) : LoopRule p w A (.ListComp elt gs scope pos) k t0 ifs0 env acc (goIn p w A elt env acc) := by
  intro it R I turn n s hI
  refine codeAny_loop rfl I (fun n s hI => ?_) n hI
  show wpAny _ A ((compTurn (.ListComp elt gs scope pos) k it acc env).onRaise (fun x => do noteFrame x env; theTreesLotGoes x)) _ _ s
  refine wpAny_noted ?_
  rw [h]
  refine wpAny_bind (wpAny_standAt (wpAny_bind (nox_mono (turn n s hI) fun x s1 h1 => ?_)))
  cases x with
  | none => exact wpAny_pure h1
  | some v =>
    refine wpAny_bind (nox_mono h1 fun _ s2 h2 => wpAny_bind (nox_mono h2 fun _ s3 h3 => wpAny_bind (nox_mono h3 fun ok s4 h4 => ?_)))
    cases ok with
    | false => exact wpAny_pure ⟨rfl, h4⟩
    | true => exact wpAny_bind (wpAny_bind (nox_mono h4 fun x s5 h5 => wpAny_bind (nox_mono h5 fun _ s6 h6 => wpAny_pure (wpAny_pure ⟨rfl, h6⟩))))
theorem rule_out {i1 : Expr} (h : ∀ it, compTurn (.ListComp elt gs scope pos) k it acc env = turnOut t0 i0 i1 ifs0 (.ListComp elt gs scope pos) k it acc env) (hs : ∀ x, foldedSetIterable i1 env x = pure x) : LoopRule p w A (.ListComp elt gs scope pos) k t0 ifs0 env acc (goOut p w A (.ListComp elt gs scope pos) (k + 1) i1 env acc) := by
  intro it R I turn n s hI
  refine codeAny_loop rfl I (fun n s hI => ?_) n hI
  show wpAny _ A ((compTurn (.ListComp elt gs scope pos) k it acc env).onRaise (fun x => do noteFrame x env; theTreesLotGoes x)) _ _ s
  refine wpAny_noted ?_
  rw [h]
  refine wpAny_bind (wpAny_standAt (wpAny_bind (nox_mono (turn n s hI) fun x s1 h1 => ?_)))
  cases x with
  | none => exact wpAny_pure h1
  | some v =>
    refine wpAny_bind (nox_mono h1 fun _ s2 h2 => wpAny_bind (nox_mono h2 fun _ s3 h3 => wpAny_bind (nox_mono h3 fun ok s4 h4 => ?_)))
    cases ok with
    | false => exact wpAny_pure ⟨rfl, h4⟩
    | true =>
      refine wpAny_bind (nox_mono h4 fun x s5 h5 => wpAny_bind (wpAny_standAt (wpAny_bind (wpAny_of_eq (hs x) (wpAny_bind (wpAny_holding (nox_mono h5 fun it1 s6 h6 => ?_)))))))
      refine wpAny_bind (wpAny_runOwn ?_)
      rw [Around.mark_none]
      refine codeAny_mono h6 fun y s7 hy => ?_
      cases y with
      | ok f =>
        first
          | exact wpAny_pure ⟨rfl, hy⟩
          | exact wpAny_bind (wpAny_pure (wpAny_pure ⟨rfl, hy⟩))
      | error e => exact hy.elim
end
section
variable {p : Program} {w : World} {A : Around} {elt : Expr} {scope : Scope} {pos : Pos} {env : Env} {acc : Value} {g0 g1 g2 : Comprehension} {t i i' : Expr} {ifs ifs' : List Expr} {t' : Expr} {gs : List Comprehension}
theorem out0 (it : Value) : compTurn (.ListComp elt (⟨t, i, ifs, 0⟩ :: ⟨t', i', ifs', 0⟩ :: gs) scope pos) 0 it acc env = turnOut t i i' ifs (.ListComp elt (⟨t, i, ifs, 0⟩ :: ⟨t', i', ifs', 0⟩ :: gs) scope pos) 0 it acc env := by rfl
theorem out1 (it : Value) : compTurn (.ListComp elt (g0 :: ⟨t, i, ifs, 0⟩ :: ⟨t', i', ifs', 0⟩ :: gs) scope pos) 1 it acc env = turnOut t i i' ifs (.ListComp elt (g0 :: ⟨t, i, ifs, 0⟩ :: ⟨t', i', ifs', 0⟩ :: gs) scope pos) 1 it acc env := by rfl
theorem out2 (it : Value) : compTurn (.ListComp elt (g0 :: g1 :: ⟨t, i, ifs, 0⟩ :: ⟨t', i', ifs', 0⟩ :: gs) scope pos) 2 it acc env = turnOut t i i' ifs (.ListComp elt (g0 :: g1 :: ⟨t, i, ifs, 0⟩ :: ⟨t', i', ifs', 0⟩ :: gs) scope pos) 2 it acc env := by rfl
theorem in1 (it : Value) : compTurn (.ListComp elt [g0, ⟨t, i, ifs, 0⟩] scope pos) 1 it acc env = turnIn t i ifs elt (.ListComp elt [g0, ⟨t, i, ifs, 0⟩] scope pos) 1 it acc env := by rfl
theorem in3 (it : Value) : compTurn (.ListComp elt [g0, g1, g2, ⟨t, i, ifs, 0⟩] scope pos) 3 it acc env = turnIn t i ifs elt (.ListComp elt [g0, g1, g2, ⟨t, i, ifs, 0⟩] scope pos) 3 it acc env := by rfl
theorem start1 : StartRule p w A (.ListComp elt (g0 :: ⟨t, i, ifs, 0⟩ :: gs) scope pos) 1 env acc := by
  intro it R s h0 h
  refine codeAny_of_tree ?_
  show wpAny _ _ ((compStart (.ListComp elt (g0 :: ⟨t, i, ifs, 0⟩ :: gs) scope pos) 1 it acc env).onRaise (fun x => do noteFrame x env; standAt theWindowsPlace)) _ _ s
  refine wpAny_notedAt ?_
  unfold compStart
  show wpAny _ _ (ask >>= _) _ _ s
  refine wpAny_bind (wpAny_askSetting (wpAny_ite ?_))
  split
  · first
      | exact wpAny_bind (wpAny_pure (wpAny_pure ⟨rfl, h0⟩))
      | exact wpAny_pure ⟨rfl, h0⟩
  · refine wpAny_bind (wpAny_rule ?_)
    show wpAny _ _ (standAt i.pos >>= _) _ _ s
    exact wpAny_bind (wpAny_standAt (wpAny_bind (nox_mono h fun it2 s2 h2 => wpAny_pure ⟨rfl, h2⟩)))
theorem start2 : StartRule p w A (.ListComp elt (g0 :: g1 :: ⟨t, i, ifs, 0⟩ :: gs) scope pos) 2 env acc := by
  intro it R s h0 h
  refine codeAny_of_tree ?_
  show wpAny _ _ ((compStart (.ListComp elt (g0 :: g1 :: ⟨t, i, ifs, 0⟩ :: gs) scope pos) 2 it acc env).onRaise (fun x => do noteFrame x env; standAt theWindowsPlace)) _ _ s
  refine wpAny_notedAt ?_
  unfold compStart
  show wpAny _ _ (ask >>= _) _ _ s
  refine wpAny_bind (wpAny_askSetting (wpAny_ite ?_))
  split
  · first
      | exact wpAny_bind (wpAny_pure (wpAny_pure ⟨rfl, h0⟩))
      | exact wpAny_pure ⟨rfl, h0⟩
  · refine wpAny_bind (wpAny_rule ?_)
    show wpAny _ _ (standAt i.pos >>= _) _ _ s
    exact wpAny_bind (wpAny_standAt (wpAny_bind (nox_mono h fun it2 s2 h2 => wpAny_pure ⟨rfl, h2⟩)))
theorem start3 : StartRule p w A (.ListComp elt (g0 :: g1 :: g2 :: ⟨t, i, ifs, 0⟩ :: gs) scope pos) 3 env acc := by
  intro it R s h0 h
  refine codeAny_of_tree ?_
  show wpAny _ _ ((compStart (.ListComp elt (g0 :: g1 :: g2 :: ⟨t, i, ifs, 0⟩ :: gs) scope pos) 3 it acc env).onRaise (fun x => do noteFrame x env; standAt theWindowsPlace)) _ _ s
  refine wpAny_notedAt ?_
  unfold compStart
  show wpAny _ _ (ask >>= _) _ _ s
  refine wpAny_bind (wpAny_askSetting (wpAny_ite ?_))
  split
  · first
      | exact wpAny_bind (wpAny_pure (wpAny_pure ⟨rfl, h0⟩))
      | exact wpAny_pure ⟨rfl, h0⟩
  · refine wpAny_bind (wpAny_rule ?_)
    show wpAny _ _ (standAt i.pos >>= _) _ _ s
    exact wpAny_bind (wpAny_standAt (wpAny_bind (nox_mono h fun it2 s2 h2 => wpAny_pure ⟨rfl, h2⟩)))
end
end DL
namespace DL
open PySem PySem.Spec PyProof.Rows L2
def gnGo (rest : Ev → Mn (List D)) (t : Tgt) (cond : Ev → Mn Bool) (ev : Ev) : List D → Mn (List D)
  | [] => pur []
  | d :: ds => bnd (lft (t.of d)) fun es => bnd (nox (cond (setE ev t.ix es))) fun c =>
      bnd (if c = true then nox (rest (setE ev t.ix es)) else pur []) fun xs => bnd (nox (gnGo rest t cond ev ds)) fun ys => pur (xs ++ ys)
def dLast (elt : Ev → Mn D) (ev : Ev) : Mn (List D) := bnd (nox (elt ev)) fun x => pur [x]
def dMid (src : Ev → Mn (List D)) (vs : List Nat) (rest : Ev → Mn (List D)) (t : Tgt) (cond : Ev → Mn Bool) (ev : Ev) : Mn (List D) := bnd (nox (src ev)) fun ds => gnGo rest t cond (wipeE ev vs) ds
def dCompN (own : List Nat) (src : Ev → Mn (List D)) (rest : Ev → Mn (List D)) (t : Tgt) (cond : Ev → Mn Bool) (ev : Ev) : Mn D :=
  bnd (src ev) fun ds => bnd (gnGo rest t cond (wipeE ev own) ds) fun out => lft (if out.length ≤ sizeLine then some (.list out) else none)
theorem gnGo_val {rest : Ev → Mn (List D)} {t : Tgt} {cond : Ev → Mn Bool} {ev : Ev} : ∀ {ds : List D} {rs rs' : RS} {o : Out (List D)}, gnGo rest t cond ev ds rs = some (o, rs') → ∃ xs, o = .val xs
  | [], _, _, _, h => by cases h; exact ⟨_, rfl⟩
  | d :: ds, rs, rs', o, h => by
    obtain ⟨es, _, h⟩ := bnd_lft h
    obtain ⟨c, rs1, _, h⟩ := bnd_nox h
    have go : ∀ {m : Mn (List D)} {rs1 : RS}, (∀ o r, m rs1 = some (o, r) → ∃ xs, o = .val xs) → bnd m (fun xs => bnd (nox (gnGo rest t cond ev ds)) fun ys => pur (xs ++ ys)) rs1 = some (o, rs') → ∃ xs, o = .val xs := by
      intro m rs1 hm q
      rcases bnd_some q with ⟨a, rs3, e1, e2⟩ | ⟨x, i, e1, _⟩
      · obtain ⟨b, rs4, _, e4⟩ := bnd_nox e2
        cases e4
        exact ⟨_, rfl⟩
      · obtain ⟨xs, e⟩ := hm _ _ e1
        cases e
    refine go (fun o r q => ?_) h
    split at q
    · obtain ⟨a, e, _⟩ := nox_some q
      exact ⟨a, e⟩
    · cases q
      exact ⟨_, rfl⟩
section
variable {G : Gm} {k : Nat} {sc : Sx} {N : List Str}
/-- within the loops: the list that grows stands at P -/
structure Lp (Y : Cx) (G : Gm) (M : Addr → Prop) (r : Rw) (P : Addr) (pins : List (Addr × Obj)) (σ : L2.St) (ev : Ev) (H : Hp) (rs : RS) (got : List D) (s : Shared) : Prop where
  inv : Inv Y pins σ H s
  rel : RelE G.K (And1 M P) r σ H ev rs
  acc : ∃ xs, H P = some (.lst xs) ∧ DaL G.K (And1 M P) H xs got
/-- the rest of a turn keeps to what it gives -/
def Body (Y : Cx) (G : Gm) (M : Addr → Prop) (r : Rw) (P : Addr) (den : Ev → Mn (List D)) (vs : List Nat) (go : Go) : Prop :=
  ∀ pins σ ev H rs got s xs rs' (Rr : Shared → Prop), Lp Y G M r P pins σ ev H rs got s → den ev rs = some (.val xs, rs') → got.length + xs.length ≤ sizeLine →
    (∀ s' H', Lp Y G M r P pins (wipe σ vs) (wipeE ev vs) H' rs' (got ++ xs) s' → Same' r P H H' → Rr s') → go Rr s
theorem same'_refl {r : Rw} {P : Addr} (H : Hp) : Same' r P H H := fun _ _ _ _ h => h
theorem same'_trans {r : Rw} {P : Addr} {H H1 H2 : Hp} (a : Same' r P H H1) (b : Same' r P H1 H2) : Same' r P H H2 := fun c o n m h => b c o n m (a c o n m h)
theorem same'_kp {M : Addr → Prop} {r : Rw} {P : Addr} {H H' : Hp} (mr : M r.a) (a : Same' r P H H') : Kp (And1 M P) H H' := fun b o n h => a b o (fun z => n (.inr z)) (fun z => n (.inl (z ▸ mr))) h
variable {Y : Cx} {M : Addr → Prop} {r : Rw} {P : Addr}
theorem body_in {elt : Expr} {fe : Ev → Mn D} (he : PE Y elt (tE G.K G.mg W0 fe)) (hx : Y.xe = NoX) (hP : P ≠ r.a) (mr : M r.a) : Body Y G M r P (dLast fe) [] (goIn Y.prog Y.w Y.A elt Y.env (.ref P)) := by
  intro pins σ ev H rs got s xs rs' Rr L h hz hR
  obtain ⟨y, rs1, e1, h⟩ := bnd_nox h
  cases h
  obtain ⟨acc, hA, hD⟩ := L.acc
  have z := he.run pins s σ H (fun v H5 => Da G.K (And1 M P) H5 v y ∧ Stp r H H5 ∧ RowAt G.K (And1 M P) H5 r rs') L.inv ⟨_, r, ev, rs, L.rel, .val y, rs', e1, fun H5 s5 w5 v dv => ⟨dv, s5, w5⟩⟩
  rw [hx] at z
  refine nox_mono z fun u s1 q => ?_
  obtain ⟨v, H5, I5, rv, dv, s5, w5⟩ := q
  have m1 : And1 M P r.a := .inl mr
  have ml5 : Ml (And1 M P) H5 := L.rel.ml.stp m1 s5 w5
  have hA5 : H5 P = some (.lst acc) := s5 _ _ hP hA
  have acc5 : DaL G.K (And1 M P) H5 acc got := hD.kp L.rel.ml (s5.kp m1)
  have la : acc.length < sizeLine := by
    rw [acc5.length]
    simp only [List.length_cons, List.length_nil] at hz
    omega
  refine app_ok (X := Y) I5 hA5 la rv fun s6 I6 => ?_
  have k6 : Kp (And1 M P) H5 (upd H5 P (.lst (acc ++ [v]))) := fun b o n e => by rw [upd_ne fun q => n (.inr q)]; exact e
  have t6 : ∀ b o, b ≠ P → H5 b = some o → (upd H5 P (.lst (acc ++ [v]))) b = some o := fun b o n e => by rw [upd_ne n]; exact e
  have row6 : RowAt G.K (And1 M P) (upd H5 P (.lst (acc ++ [v]))) r rs' := by
    obtain ⟨⟨e1, e1'⟩, e2⟩ := w5
    exact ⟨⟨t6 _ _ hP.symm e1, e1'⟩, sqlm_kp e2 k6⟩
  refine hR s6 _ ⟨I6, ?_, acc ++ [v], upd_same, ?_⟩ fun b o n m e => t6 b o n (s5 b o m e)
  · have R5 : RelE G.K (And1 M P) r σ H5 ev rs' := L.rel.stp s5 w5
    refine ⟨R5.mr, fun b q => ?_, row6, fun j t e => (R5.slots j t e).kp ml5 k6, R5.len⟩
    by_cases hb : b = P
    · exact ⟨_, by rw [hb]; exact upd_same⟩
    · obtain ⟨ys, e⟩ := R5.ml b q
      exact ⟨ys, t6 _ _ hb e⟩
  · exact DaL.kp ml5 k6 (acc5.append (.cons dv .nil))
/-- the loop at a clause -/
theorem loop_go {tg e : Expr} {ifs : List Expr} {lv : Nat} {t : Tgt} {cond : Ev → Mn Bool} {den : Ev → Mn (List D)} {vs vs1 : List Nat} {go : Go} {u : TG} (hc : Y.calm = true) (rule : LoopRule Y.prog Y.w Y.A e lv tg ifs Y.env (.ref P) go) (hx : Y.xe = NoX) (mr : M r.a) (hPr : P ≠ r.a)
    (pg : PG Y tg u) (hu : ∀ M (σ : L2.St) H v d ds Q, Da G.K M H v d → t.of d = some ds → (∀ vs, DaL G.K M H vs ds → Q (setV σ t.ix vs) H) → u v σ H Q) (pt : PTs Y ifs (tT G.K G.mg W0 cond)) (body : Body Y G M r P den vs1 go) (hvs : ∀ i ∈ vs1, i ∈ vs) (hix : ∀ i ∈ t.ix, i ∈ vs)
    {pins : List (Addr × Obj)} {σ : L2.St} {ev : Ev} {H1 H : Hp} {rs rs' : RS} {got out : List D} {s : Shared} {ds : List D} {J : It} {it : Addr} {fp : List Addr} {tn : Nat → Heap → Prop} {R : Result → Shared → Prop} {MJ : Addr → Prop}
    (L : Lp Y G M r P pins σ ev H rs got s) (T : Turn Y.prog Y.w Y.K tg J fp it tn) (st : tn 0 s.heap) (ff : ∀ (H' : Hp) (s' : Shared) (σ' : L2.St), Inv Y pins σ' H' s' → (∀ b ∈ fp, H' b = none) → ∀ b ∈ fp, FpOk Y pins H' b) (nf : ∀ b ∈ fp, H b = none) (jok : JOk G.K MJ J H1 ds)
    (hm : ∀ b, And1 M P b → MJ b ∨ H1 b = none) (hk : ∀ H', Same' r P H H' → Kp MJ H1 H')
    (h : gnGo den t cond (wipeE ev vs) ds rs = some (.val out, rs')) (hz : got.length + out.length ≤ sizeLine) (hR : ∀ s' H', Lp Y G M r P pins (wipe σ vs) (wipeE ev vs) H' rs' (got ++ out) s' → Same' r P H H' → R (.ok .next) s') :
    codeAny (model Y.prog Y.w) Y.A (.compLoop e lv (.ref it) (.ref P) Y.env) R s := by
  refine rule (.ref it) R (fun n s' => ∃ i H' rsi gi rest, n = ds.length - i ∧ i ≤ ds.length ∧ Lp Y G M r P pins (wipe σ vs) (wipeE ev vs) H' rsi gi s' ∧ tn i s'.heap ∧ (∀ b ∈ fp, H' b = none) ∧ Same' r P H H' ∧ gnGo den t cond (wipeE ev vs) (ds.drop i) rsi = some (.val rest, rs') ∧ gi ++ rest = got ++ out) ?_ ds.length s
    ⟨0, H, rs, got, out, rfl, Nat.zero_le _, ⟨L.inv.weak (wipe_length _ _) fun j v e => (wipe_some e).1, L.rel.wiped vs, L.acc⟩, st, nf, same'_refl H, h, rfl⟩
  rintro n s5 ⟨i, H5, rsi, gi, rest, rfl, hil, L5, st5, n5, sm5, h5, hap⟩
  have kp5 : Kp MJ H1 H5 := hk H5 sm5
  have f5 := ff H5 s5 _ L5.inv n5
  by_cases hlt : i < ds.length
  · have hd := List.getElem?_eq_getElem hlt
    have ti := T.item Y rfl rfl rfl hc i pins s5 _ H5 NoX L5.inv f5 st5 (jok.go H5 kp5 i _ hd)
    refine nox_mono ti fun x s6 ⟨v, hv, h6⟩ => ?_
    subst hv
    refine nox_mono h6 fun _ s7 ⟨x, H7, I7, r7, y7, st7, n7⟩ => ?_
    obtain ⟨sm7, dx⟩ := jok.yld (And1 M P) H5 kp5 hm i _ x H7 hd y7
    rw [List.drop_eq_getElem_cons hlt] at h5
    obtain ⟨es, ht1, h5⟩ := bnd_lft h5
    obtain ⟨c, rs2, hc1, h5⟩ := bnd_nox h5
    have f7 := ff H7 s7 _ I7 n7
    have I7' := I7.pinned f7 (T.obj _ _ st7)
    have z := pg.run (pins ++ pinsAt fp s7.heap) s7 (wipe σ vs) H7 x v (fun σ8 H8 => ∃ vs', DaL G.K (And1 M P) H7 vs' es ∧ σ8 = setV (wipe σ vs) t.ix vs' ∧ H8 = H7) I7' r7 (hu _ _ _ _ _ _ _ dx ht1 fun vs' hvs' => ⟨vs', hvs', rfl, rfl⟩)
    rw [hx] at z
    refine nox_mono z fun _ s8 ⟨σ8, H8, I8, vs', hvs', e8, e8'⟩ => ?_
    subst e8 e8'
    have R7 : RelE G.K (And1 M P) r (wipe σ vs) H8 (wipeE ev vs) rsi := L5.rel.stp (.of_same sm7) (row_same L5.rel.row sm7)
    have R8 := R7.setL (is := t.ix) hvs'
    have z9 := pt.run (pins ++ pinsAt fp s7.heap) s8 _ H8 (fun b H9 => b = c ∧ Stp r H8 H9 ∧ RowAt G.K (And1 M P) H9 r rs2) I8 ⟨_, _, _, rsi, R8, .val c, rs2, hc1, fun H9 q9 w9 => ⟨rfl, q9, w9⟩⟩
    rw [hx] at z9
    refine nox_mono z9 fun b s9 ⟨H9, I9, hb, q9, w9⟩ => ?_
    subst hb
    have R9 := R8.stp q9 w9
    obtain ⟨acc, hA, hD⟩ := L5.acc
    have m1 : And1 M P r.a := .inl mr
    have hA9 : H9 P = some (.lst acc) := q9 _ _ hPr (sm7 _ _ hA)
    have hD9 : DaL G.K (And1 M P) H9 acc gi := (hD.kp L5.rel.ml (.of_same sm7)).kp R7.ml (q9.kp m1)
    have L9 : Lp Y G M r P (pins ++ pinsAt fp s7.heap) (setV (wipe σ vs) t.ix vs') (setE (wipeE ev vs) t.ix es) H9 rs2 gi s9 := ⟨I9, R9, acc, hA9, hD9⟩
    have sm9 : Same' r P H H9 := fun b o n m e => q9 b o m (sm7 b o (sm5 b o n m e))
    have sm59 : Same' r P H5 H9 := fun b o n m e => q9 b o m (sm7 b o e)
    have fin : ∀ {σ' : L2.St} {ev' : Ev} {s' : Shared} {H' : Hp} {rs3 : RS} {g' ys : List D}, Lp Y G M r P (pins ++ pinsAt fp s7.heap) σ' ev' H' rs3 g' s' → (wipe σ vs).length = σ'.length → (∀ (j : Nat) v, (wipe σ vs)[j]? = some (some v) → σ'[j]? = some (some v)) → Same' r P H9 H' →
        gnGo den t cond (wipeE ev vs) (ds.drop (i + 1)) rs3 = some (.val ys, rs') → g' ++ ys = got ++ out →
        ∃ m, m < ds.length - i ∧ ∃ i H' rsi gi rest, m = ds.length - i ∧ i ≤ ds.length ∧ Lp Y G M r P pins (wipe σ vs) (wipeE ev vs) H' rsi gi s' ∧ tn i s'.heap ∧ (∀ b ∈ fp, H' b = none) ∧ Same' r P H H' ∧ gnGo den t cond (wipeE ev vs) (ds.drop i) rsi = some (.val rest, rs') ∧ gi ++ rest = got ++ out := by
      intro σ' ev' s' H' rs3 g' ys L' hl hkn sm' hg hgo
      have pin' : ∀ b ∈ fp, ∀ o, s7.heap.get? b = some o → s'.heap.get? b = some o ∧ H' b = none := fun b hb o e =>
        let z := L'.inv.pin (b, o) (List.mem_append_right _ (List.mem_append_right _ (mem_pinsAt hb e)))
        ⟨z.1, z.2.1⟩
      refine ⟨ds.length - (i + 1), by omega, i + 1, H', rs3, g', ys, rfl, hlt, ⟨L'.inv.unpinned.weak hl hkn, ⟨L'.rel.mr, L'.rel.ml, L'.rel.row, fun j s e => (L5.rel.slots j s e).kp L5.rel.ml (same'_kp mr (same'_trans sm59 sm')), L5.rel.len⟩, L'.acc⟩,
        T.keep _ _ _ st7 fun b hb o e => (pin' b hb o e).1, fun b hb => ?_, same'_trans sm9 sm', hg, hgo⟩
      obtain ⟨o, e, _⟩ := T.obj _ _ st7 b hb
      exact (pin' b hb o e).2
    have hl9 : (wipe σ vs).length = (setV (wipe σ vs) t.ix vs').length := by rw [setV_length]
    have hk9 : ∀ (j : Nat) v, (wipe σ vs)[j]? = some (some v) → (setV (wipe σ vs) t.ix vs')[j]? = some (some v) := fun j v e => by
      rw [setV_out fun q => (wipe_some e).2 (hix j q)]
      exact e
    cases b with
    | false =>
      rw [if_neg (by decide)] at h5
      have h5 : bnd (nox (gnGo den t cond (wipeE ev vs) (ds.drop (i + 1)))) (fun ys => pur ([] ++ ys)) rs2 = some (.val rest, rs') := h5
      obtain ⟨ys, rs3, e3, h5⟩ := bnd_nox h5
      cases h5
      rw [if_neg (by decide)]
      exact fin L9 hl9 hk9 (same'_refl H9) e3 hap
    | true =>
      rw [if_pos rfl] at h5
      obtain ⟨xs, rs3, e3, h5⟩ := bnd_nox h5
      obtain ⟨ys, rs4, e4, h5⟩ := bnd_nox h5
      cases h5
      rw [if_pos rfl]
      have hz' : gi.length + xs.length ≤ sizeLine := by
        have e := congrArg List.length hap
        simp only [List.length_append] at e
        omega
      refine body _ _ _ _ _ _ _ _ _ _ L9 e3 hz' fun s10 H10 L10 sm10 => ?_
      refine fin L10 (hl9.trans (wipe_length _ _).symm) (fun j v e => ?_) sm10 e4 (by rw [List.append_assoc]; exact hap)
      have nj : j ∉ vs := (wipe_some e).2
      rw [wipe_get fun q => nj (hvs j q)]
      exact hk9 j v e
  · have ei : i = ds.length := by omega
    subst ei
    have td := T.done Y rfl rfl rfl hc ds.length pins s5 _ H5 NoX L5.inv f5 st5 (jok.stop H5 kp5)
    refine nox_mono td fun x s6 ⟨hx6, I6⟩ => ?_
    subst hx6
    rw [List.drop_length] at h5
    cases h5
    rw [List.append_nil] at hap
    subst hap
    exact hR s6 H5 ⟨I6, L5.rel, L5.acc⟩ sm5
/-- a clause within: its source, then its loop -/
theorem body_out {tg iter elt : Expr} {gs : List Comprehension} {scope : Scope} {pos : Pos} {ifs : List Expr} {lv : Nat} {t : Tgt} {src : Ev → Mn (List D)} {cond : Ev → Mn Bool} {den : Ev → Mn (List D)} {vs vs1 : List Nat} {go : Go} {u : TG} (hc : Y.calm = true) (start : StartRule Y.prog Y.w Y.A (.ListComp elt gs scope pos) lv Y.env (.ref P)) (rule : LoopRule Y.prog Y.w Y.A (.ListComp elt gs scope pos) lv tg ifs Y.env (.ref P) go) (hx : Y.xe = NoX) (mr : M r.a)
    (hPr : P ≠ r.a) (pi : PI Y tg iter (tI G.K G.mg W0 src)) (pg : PG Y tg u) (hu : ∀ M (σ : L2.St) H v d ds Q, Da G.K M H v d → t.of d = some ds → (∀ vs, DaL G.K M H vs ds → Q (setV σ t.ix vs) H) → u v σ H Q) (pt : PTs Y ifs (tT G.K G.mg W0 cond)) (body : Body Y G M r P den vs1 go)
    (hvs : ∀ i ∈ vs1, i ∈ vs) (hix : ∀ i ∈ t.ix, i ∈ vs) : Body Y G M r P (dMid src vs den t cond) vs (goOut Y.prog Y.w Y.A (.ListComp elt gs scope pos) lv iter Y.env (.ref P)) := by
  intro pins σ ev H rs got s xs rs' Rr L h hz hR
  obtain ⟨ds, rs1, e1, h⟩ := bnd_nox h
  obtain ⟨acc, hA, hD⟩ := L.acc
  have m1 : And1 M P r.a := .inl mr
  have z := pi.run pins s σ H (fun J H2 => JOk G.K (And1 M P) J H2 ds ∧ Stp r H H2 ∧ RowAt G.K (And1 M P) H2 r rs1) L.inv ⟨_, r, ev, rs, L.rel, .val ds, rs1, e1, fun H2 s2 w2 _ J j => ⟨j, s2, w2⟩⟩
  rw [hx] at z
  refine nox_mono z fun x s1 h1 => nox_mono h1 fun itv s2 h2 => ?_
  obtain ⟨it, fp, tn, J, H2, ei, I2, T, st2, f2, j2, q2, w2⟩ := h2
  subst ei
  have ml2 : Ml (And1 M P) H2 := L.rel.ml.stp m1 q2 w2
  have L2' : Lp Y G M r P pins σ ev H2 rs1 got s2 := ⟨I2, L.rel.stp q2 w2, acc, q2 _ _ hPr hA, hD.kp L.rel.ml (q2.kp m1)⟩
  have stat : ∀ (H' : Hp) (s' : Shared) (σ' : L2.St), Inv Y pins σ' H' s' → (∀ b ∈ fp, H' b = none) → ∀ b ∈ fp, FpOk Y pins H' b := fun H' s' σ' _ hn b hb => ⟨hn b hb, (f2 b hb).2⟩
  have loop : codeAny (model Y.prog Y.w) Y.A (.compLoop (.ListComp elt gs scope pos) lv (.ref it) (.ref P) Y.env) (fun y s3 => match y with
      | .ok _ => Rr s3
      | .error _ => False) s2 :=
    loop_go hc rule hx mr hPr pg hu pt body hvs hix (H1 := H2) (MJ := And1 M P) L2' T st2 stat (fun b hb => (f2 b hb).1) j2 (fun b z => .inl z) (fun H' sm => same'_kp mr sm) h hz fun s' H' L' sm' => hR s' H' L' fun b o n m e => sm' b o n m (q2 b o m e)
  exact start _ _ _ loop (T.self Y.A 0 _ _ _ st2 loop)
end
end DL
namespace DL
open PySem PySem.Spec PyProof.Rows L2
theorem wipeE_len (ev : Ev) : ∀ vs : List Nat, (wipeE ev vs).length = ev.length
  | [] => rfl
  | v :: vs => by
    show ((wipeE ev vs).set v .hid).length = _
    rw [List.length_set, wipeE_len ev vs]
theorem wipeE_out {ev : Ev} {j : Nat} : ∀ {vs : List Nat}, j ∉ vs → (wipeE ev vs)[j]? = ev[j]?
  | [], _ => rfl
  | v :: vs, h => by
    simp only [List.mem_cons, not_or] at h
    show ((wipeE ev vs).set v .hid)[j]? = _
    rw [List.getElem?_set_ne (Ne.symm h.1), wipeE_out h.2]
theorem wipeE_in {ev : Ev} {j : Nat} : ∀ {vs : List Nat}, j ∈ vs → j < ev.length → (wipeE ev vs)[j]? = some .hid
  | v :: vs, h, hl => by
    show ((wipeE ev vs).set v .hid)[j]? = _
    by_cases e : v = j
    · subst e
      exact List.getElem?_set_self (by rw [wipeE_len]; exact hl)
    · rw [List.getElem?_set_ne e]
      refine wipeE_in ?_ hl
      rcases List.mem_cons.mp h with q | q
      · exact absurd q.symm e
      · exact q
theorem wipeE_twice (ev : Ev) (vs : List Nat) : wipeE (wipeE ev vs) vs = wipeE ev vs := by
  apply List.ext_getElem?
  intro j
  by_cases hj : j ∈ vs
  · by_cases hlt : j < ev.length
    · rw [wipeE_in hj (by rw [wipeE_len]; exact hlt), wipeE_in hj hlt]
    · rw [List.getElem?_eq_none (by rw [wipeE_len, wipeE_len]; omega), List.getElem?_eq_none (by rw [wipeE_len]; omega)]
  · rw [wipeE_out hj]
section
variable {G : Gm} {k : Nat} {sc : Sx} {N : List Str}
theorem lcN {tg iter elt : Expr} {ifs : List Expr} {gs : List Comprehension} {scope : Scope} {pos : Pos} {fi : Ev → Mn (List D)} {t : Tgt} {fc : Ev → Mn Bool} {den : Ev → Mn (List D)} {vs1 : List Nat} (own : List (Str × Nat)) (go : Cx → Addr → Go) (hi : SI G k sc N tg iter fi) (ht : PGt G k (sc.blk scope) N tg t) (hc : SP1 G k (sc.blk scope) N ifs fc)
    (rule : ∀ (Y : Cx) (P : Addr), LoopRule Y.prog Y.w Y.A (.ListComp elt (⟨tg, iter, ifs, 0⟩ :: gs) scope pos) 0 tg ifs Y.env (.ref P) (go Y P))
    (body : ∀ (Y : Cx) (M : Addr → Prop) (r : Rw) (P : Addr), Gd G k (sc.blk scope) N Y → Y.xe = NoX → M r.a → P ≠ r.a → Body Y G M r P den vs1 (go Y P))
    (hb : blkC N sc.sc scope own = true := by decide +kernel) (hix : ∀ i ∈ t.ix, i ∈ own.map (·.2) := by decide) (hv1 : ∀ i ∈ vs1, i ∈ own.map (·.2) := by decide) (hs : ∀ env x, foldedSetIterable iter env x = pure x := by intro _ _; rfl) :
    SE G k sc N (.ListComp elt (⟨tg, iter, ifs, 0⟩ :: gs) scope pos) (dCompN (own.map (·.2)) fi den t fc) := fun X W g tk => by
  have ok : BlkOk X.N X.env.scope scope own := by
    rw [g.hN, g.hsc]
    exact blkOk_by hb
  have nd : X.N.Nodup := by rw [g.hN]; exact g.nd
  obtain ⟨u, hu1, hu2⟩ := ht
  refine ⟨fun pins s σ H Q I h => ?_⟩
  rw [eval_ListComp]
  have hfree : ∀ y ∈ scope.names, y.2 = .free → ∃ c, X.env.cells.lookup y.1 = some c := fun y hy e => (ok.free y hy e).elim (fun q => I.ok.has _ (.inl q)) fun q => I.ok.has _ (.inr q)
  obtain ⟨M, r, ev, rs, R, o, rs', e, w⟩ := h
  -- the source's way
  have src : tI G.K G.mg W fi σ H fun J H1 => ∃ ds rs1, RelE G.K M r σ H1 ev rs1 ∧ Stp r H H1 ∧ JOk G.K M J H1 ds ∧ ∃ out, gnGo den t fc (wipeE ev (own.map (·.2))) ds rs1 = some (.val out, rs') ∧ o = .val (.list out) ∧ out.length ≤ sizeLine ∧ Wan G.K G.mg M r H1 rs' (fun cls dd H' => W cls dd σ H') (fun d H' => ∀ v, Da G.K M H' v d → Q v H') o := by
    refine tI_bnd R e w fun ds rs1 H1 J R1 s1 jok e1 w1 => ⟨ds, rs1, R1, s1, jok, ?_⟩
    rcases bnd_some e1 with ⟨a, rs2, q1, q2⟩ | ⟨x, i, q1, _⟩
    · obtain ⟨d, q3, rfl, rfl⟩ := lft_some q2
      split at q3
      · rename_i hl
        cases q3
        exact ⟨a, q1, rfl, hl, w1⟩
      · cases q3
    · obtain ⟨xs, q⟩ := gnGo_val q1
      cases q
  refine wpAny_comprehension_free (use := none) rfl (hs _) (closure_ok hfree) ok.kind (fun y hy e => by rw [ok.uniq y hy, e]) (thn ((hi X W g tk).run pins s σ H _ I src) fun xv s1 hx => thn hx fun itv s2 h2 => ?_)
  obtain ⟨it, fp, tn, J, H2, ei, I2, T, st2, f2, ds, rs1, R1, sp1, jok, out, hgo, rfl, hlen, w1⟩ := h2
  subst ei
  refine wpAny_newObj_type (newEnv_comp ?_) (by show 0 ≤ sizeLine; decide)
  generalize hD : s2.heap.objs.size = P
  have hPn : H2 P = none := I2.hok.fresh (Nat.le_of_eq hD)
  generalize hs3 : ({ s2 with heap := s2.heap.push { cls := .type "list", data := .seq ([] : List Value).toArray } } : Shared) = s3
  have I3 : Inv X pins σ (upd H2 P (.lst [])) s3 := by
    rw [← hs3]
    refine I2.laid (t' := s2.toks) (fun b o e => Heap.get?_push_of_some _ e) (Nat.le_of_eq hD) ⟨Nat.zero_le _, [], 0, .nil, ?_⟩
    rw [← hD]
    exact Heap.get?_push_size _ rfl
  have h3 : s3.heap = s2.heap.push { cls := .type "list", data := .seq ([] : List Value).toArray } := by rw [← hs3]
  have f3 : ∀ b ∈ fp, FpOk X pins (upd H2 P (.lst [])) b ∧ b < s3.heap.objs.size := fun b hb => by
    have hlt : b < s2.heap.objs.size := let ⟨o, e, _⟩ := T.obj _ _ st2 b hb; Heap.lt_size e
    refine ⟨⟨?_, (f2 b hb).2⟩, by rw [h3, Heap.size_push]; exact Nat.lt_succ_of_lt hlt⟩
    rw [upd_ne (by rw [← hD]; exact Nat.ne_of_lt hlt)]
    exact (f2 b hb).1
  have st3 : tn 0 s3.heap := T.keep _ _ _ st2 fun b _ o e => by rw [h3]; exact Heap.get?_push_of_some _ e
  have I4 := block_start I3 ok nd f3
  generalize hce : compEnvC scope (cellsFrom (s3.heap.objs.size + 1) scope.names (cloFrom X.env.cells scope.names [])) s3.heap.objs.size X.env = ce at I4
  have gY : Gd G k (sc.blk scope) N (X.blk s3 (upd H2 P (.lst [])) scope ce fp) := by
    rw [← hce]
    exact g.blk s3 _ scope _ _ fp
  have cL : ce.locals = s3.heap.objs.size := by subst hce; rfl
  show codeAny _ _ (.compStart (.ListComp elt (⟨tg, iter, ifs, 0⟩ :: gs) scope pos) 0 (.ref it) (.ref P) (compEnvC scope (cellsFrom (s3.heap.objs.size + 1) scope.names (cloFrom X.env.cells scope.names [])) s3.heap.objs.size X.env)) (compPost (model X.prog X.w) X.A X.xe none (EP X pins σ Q) (.ref P) s3.heap.objs.size) { s3 with heap := pushCells (s3.heap.push { cls := .type "dict", data := .dict #[] }) scope.names }
  rw [hce]
  generalize hs4 : ({ s3 with heap := pushCells (s3.heap.push { cls := .type "dict", data := .dict #[] }) scope.names } : Shared) = s4 at I4
  have st4 : tn 0 s4.heap := T.keep _ _ _ st3 fun b _ o e => by rw [← hs4]; exact pushCells_keeps _ _ _ _ (Heap.get?_push_of_some _ e)
  generalize hH3 : upd H2 P (.lst []) = H3 at I3 I4 gY f3
  have hP3 : H3 P = some (.lst []) := by rw [← hH3]; exact upd_same
  have sm3 : Same H2 H3 := by rw [← hH3]; exact same_upd hPn
  have mr : M r.a := R1.mr
  have hPr : P ≠ r.a := fun z => by
    obtain ⟨⟨e1, _⟩, _⟩ := R1.row
    rw [← z, hPn] at e1
    cases e1
  have R3 : RelE G.K (And1 M P) r σ H3 ev rs1 := by
    refine ⟨.inl mr, fun b q => ?_, ?_, fun i s e => ?_, R1.len⟩
    · rcases q with q | q
      · obtain ⟨ys, e⟩ := R1.ml b q
        exact ⟨ys, sm3 _ _ e⟩
      · exact ⟨[], by rw [q]; exact hP3⟩
    · obtain ⟨⟨e1, e1'⟩, e2⟩ := R1.row
      refine ⟨⟨sm3 _ _ e1, e1'⟩, ?_⟩
      rcases e2 with ⟨q, n⟩ | q
      · refine .inl ⟨?_, fun z => ?_⟩
        · rcases q with q | ⟨o, q⟩
          · exact .inl (sm3 _ _ q)
          · exact .inr ⟨o, sm3 _ _ q⟩
        · rcases z with z | z
          · exact n z
          · rcases q with q | ⟨o, q⟩
            · rw [z, hPn] at q; cases q
            · rw [z, hPn] at q; cases q
      · exact .inr q
    · have q := (R1.slots i s e).kp R1.ml (.of_same sm3)
      cases s with
      | hid => trivial
      | own _ => trivial
      | row => exact q
      | dat d =>
        obtain ⟨v, e1, dv⟩ := R1.slots i _ e
        exact ⟨v, e1, dv.on R1.ml (fun b z => z.elim .inl fun e => .inr (by rw [e]; exact hPn)) (.of_same sm3)⟩
  have nfp : ∀ b ∈ fp, H3 b = none := fun b hb => (f3 b hb).1.1
  have stat : ∀ (H' : Hp) (s' : Shared) (σ' : L2.St), Inv (X.blk s3 H3 scope ce fp) [] σ' H' s' → (∀ b ∈ fp, H' b = none) → ∀ b ∈ fp, FpOk (X.blk s3 H3 scope ce fp) [] H' b := fun H' s' σ' I' hn b hb =>
    ⟨hn b hb, (I'.ok.exf b hb).1, I'.ok.exfs b hb, .inl hb, fun x c e => (I'.ok.exf b hb).2 x c e, fun p hp => absurd (show p ∈ ([] : List (Addr × Obj)) ++ [] from hp) (by simp)⟩
  have hb3 := body (X.blk s3 H3 scope ce fp) M r P gY rfl mr hPr
  have loop := loop_go (Y := X.blk s3 H3 scope ce fp) (R := compPost (model X.prog X.w) X.A X.xe none (EP X pins σ Q) (.ref P) s3.heap.objs.size) g.calm (rule (X.blk s3 H3 scope ce fp) P) rfl mr hPr (hu1 _ gY) hu2 (hc _ W0 gY L2.takes0) hb3 hv1 hix (H1 := H2) (MJ := M)
    (rs' := rs') (pins := []) (σ := wipe σ (own.map (·.2))) (ev := wipeE ev (own.map (·.2))) (got := []) (out := out) (ds := ds) (it := it) (fp := fp) (tn := tn) (J := J)
    ⟨I4, R3.wiped _, [], hP3, .nil⟩ T st4 stat nfp jok (fun b z => z.elim .inl fun e => .inr (by rw [e]; exact hPn)) (fun H' sm => ?_) ?_ (by simpa using hlen) fun s' H' L' sm' => ?_
  · exact codeAny_compStart_list loop (T.self X.A 0 _ _ _ st4 loop)
  · intro b o nb e
    have hbP : b ≠ P := fun z => by rw [z, hPn] at e; cases e
    exact sm b o hbP (fun z => nb (z ▸ mr)) (sm3 b o e)
  · rw [wipeE_twice]
    exact hgo
  · have I6 := L'.inv
    have I7 : Inv X pins σ H' s' := I3.call' (ch := fp) I6.os I6.base I6.hok I6.bare fun b hb => ⟨(f3 b hb).1.2.2.2.1, (f3 b hb).1.2.1, (f3 b hb).1.2.2.2.2.1, (f3 b hb).1.2.2.2.2.2⟩
    have nC : H' s3.heap.objs.size = none := by
      have z : H' ce.locals = none := I6.free
      rw [cL] at z
      exact z
    obtain ⟨m, hn, _⟩ := I6.loc
    have hn : s'.heap.Ns ce.locals m := hn
    rw [cL] at hn
    refine ⟨m, hn, fun h'' sb => ?_⟩
    obtain ⟨f0, f1, f2', f3', f4, f5⟩ := I3.fpOk (Nat.le_refl _) nC
    obtain ⟨xs, hX, dX⟩ := L'.acc
    refine ⟨.ref P, H', I7.turned (t' := s'.toks) (fun b o hb e => (sb.2 b hb).trans e) f0 f1 f3' f4 f5, rfl, ?_⟩
    have s12 : Stp r H2 H' := fun b o n e => by
      have hbP : b ≠ P := fun z => by rw [z, hPn] at e; cases e
      exact sm' b o hbP n (sm3 b o e)
    exact w1 H' s12 (row_sub L'.rel.row fun b m => .inl m) _ (.lst hX (R1.ml.fresh hPn) (dX.sub fun b m => .inl m))
end
end DL
namespace DL
open PySem PySem.Spec PyProof.Rows L2
section
variable {G : Gm} {k : Nat} {sc : Sx} {N : List Str}
theorem e_lc4 {tg iter tg1 iter1 tg2 iter2 tg3 iter3 elt : Expr} {ifs ifs1 ifs2 ifs3 : List Expr} {scope : Scope} {pos : Pos} {fi fi1 fi2 fi3 : Ev → Mn (List D)} {t t1 t2 t3 : Tgt} {fc fc1 fc2 fc3 : Ev → Mn Bool} {fe : Ev → Mn D} (own : List (Str × Nat)) (vs1 vs2 vs3 : List Nat)
    (hi : SI G k sc N tg iter fi) (ht : PGt G k (sc.blk scope) N tg t) (hc : SP1 G k (sc.blk scope) N ifs fc) (hi1 : SI G k (sc.blk scope) N tg1 iter1 fi1) (ht1 : PGt G k (sc.blk scope) N tg1 t1) (hc1 : SP1 G k (sc.blk scope) N ifs1 fc1)
    (hi2 : SI G k (sc.blk scope) N tg2 iter2 fi2) (ht2 : PGt G k (sc.blk scope) N tg2 t2) (hc2 : SP1 G k (sc.blk scope) N ifs2 fc2) (hi3 : SI G k (sc.blk scope) N tg3 iter3 fi3) (ht3 : PGt G k (sc.blk scope) N tg3 t3) (hc3 : SP1 G k (sc.blk scope) N ifs3 fc3) (he : SE G k (sc.blk scope) N elt fe)
    (hb : blkC N sc.sc scope own = true := by decide +kernel) (hix : ∀ i ∈ t.ix, i ∈ own.map (·.2) := by decide) (hv1 : ∀ i ∈ vs1, i ∈ own.map (·.2) := by decide) (hix1 : ∀ i ∈ t1.ix, i ∈ vs1 := by decide) (hv2 : ∀ i ∈ vs2, i ∈ vs1 := by decide) (hix2 : ∀ i ∈ t2.ix, i ∈ vs2 := by decide)
    (hv3 : ∀ i ∈ vs3, i ∈ vs2 := by decide) (hix3 : ∀ i ∈ t3.ix, i ∈ vs3 := by decide) (hs : ∀ env x, foldedSetIterable iter env x = pure x := by intro _ _; rfl) (hs1 : ∀ env x, foldedSetIterable iter1 env x = pure x := by intro _ _; rfl)
    (hs2 : ∀ env x, foldedSetIterable iter2 env x = pure x := by intro _ _; rfl) (hs3 : ∀ env x, foldedSetIterable iter3 env x = pure x := by intro _ _; rfl) :
    SE G k sc N (.ListComp elt [⟨tg, iter, ifs, 0⟩, ⟨tg1, iter1, ifs1, 0⟩, ⟨tg2, iter2, ifs2, 0⟩, ⟨tg3, iter3, ifs3, 0⟩] scope pos)
      (dCompN (own.map (·.2)) fi (dMid fi1 vs1 (dMid fi2 vs2 (dMid fi3 vs3 (dLast fe) t3 fc3) t2 fc2) t1 fc1) t fc) := by
  obtain ⟨u1, hu1, hu1'⟩ := ht1
  obtain ⟨u2, hu2, hu2'⟩ := ht2
  obtain ⟨u3, hu3, hu3'⟩ := ht3
  refine lcN own (fun Y P => goOut Y.prog Y.w Y.A _ 1 iter1 Y.env (.ref P)) hi ht hc (fun Y P => rule_out out0 (hs1 _)) (fun Y M r P g hx mr hP => ?_) hb hix hv1 hs
  refine body_out g.calm start1 (rule_out out1 (hs2 _)) hx mr hP (hi1 Y W0 g L2.takes0) (hu1 Y g) hu1' (hc1 Y W0 g L2.takes0) ?_ hv2 hix1
  refine body_out g.calm start2 (rule_out out2 (hs3 _)) hx mr hP (hi2 Y W0 g L2.takes0) (hu2 Y g) hu2' (hc2 Y W0 g L2.takes0) ?_ hv3 hix2
  exact body_out g.calm start3 (rule_in in3) hx mr hP (hi3 Y W0 g L2.takes0) (hu3 Y g) hu3' (hc3 Y W0 g L2.takes0) (body_in (he Y W0 g L2.takes0) hx hP mr) (fun i m => (nomatch m)) hix3
end
end DL
noncomputable section
namespace HM
open PySem PySem.W PySem.Calls PyProof.Rows HandSHeadRun
abbrev Fr : Type := Ctx × (Result → Sem Fin) × Pos
def mk (den : Code → Sem Fin) (stg : Setting) : Nat → List Fr → Ctx → Sem Fin → SharedT → Pos → Option (Flow × SharedT × Pos)
  | 0, _, _, _, _, _ => none
  | n + 1, fs, Γ, t, s, p => match t with
    | .pure (.done f) => (match fs with
      | [] => some (f, s, p)
      | g :: r => mk den stg n r g.1 (g.2.1 (.ok f)) s g.2.2)
    | .pure (.again c) => (match fs with
      | [] => none
      | _ :: _ => (match c.quiet with
        | true => mk den stg n fs (Γ.goto c) (den c) s p
        | false => none))
    | .raise e => (match fs with
      | [] => none
      | g :: r => mk den stg n r g.1 (g.2.1 (.error e)) s g.2.2)
    | .rule _ k => mk den stg n fs Γ (k ()) s p
    | .at p' k => mk den stg n fs Γ (k ()) s p'
    | .load a _ k => (match getT s a with
      | some o => mk den stg n fs Γ (k o) s p
      | none => none)
    | .update a _ f k => (match Nat.blt a s.n with
      | true => (match s.tree.get a with
        | some o => (match alive o with
          | some _ => mk den stg n fs Γ (k ()) ⟨s.tree.set a f, s.n, s.life, s.gens, s.drawn, s.toks, s.os⟩ p
          | none => none)
        | none => none)
      | false => none)
    | .loadIfAlive a k => mk den stg n fs Γ (k (getT s a)) s p
    | .point _ k => mk den stg n fs Γ (k ()) s p
    | .alloc o k => (match ((s.tree.ins s.n o).get s.n).isSome with
      | true => frS ⟨s.tree.ins s.n o, s.n + 1, s.life, s.gens, s.drawn, s.toks, s.os⟩ fun s' => mk den stg n fs Γ (k s.n) s' p
      | false => none)
    | .fresh k => frS ⟨s.tree, s.n, s.life, s.gens, s.drawn, s.toks + 1, s.os⟩ fun s' => mk den stg n fs Γ (k s.toks) s' p
    | .ask k => mk den stg n fs Γ (k stg) s p
    | .call c h _ _ k => mk den stg n ((Γ, k, p) :: fs) (Γ.enter c h p) (den c) s p
    | .handled own k => mk den stg n fs Γ (k (match own with
      | true => Γ.own
      | false => Γ.handled)) s p
    | .stack k => mk den stg n fs Γ (k ((Γ.code, p) :: Γ.below)) s p
    | .thread k => mk den stg n fs Γ (k 0) s p
    | _ => none
section
variable {M : Model} {Q : Fin → Pos → Shared → Prop} {E : Value → Pos → Shared → Prop}
/-- what the tree and the calls on the list come to -/
def Wf (M : Model) (Q : Fin → Pos → Shared → Prop) (E : Value → Pos → Shared → Prop) : List Fr → Ctx → Sem Fin → Pos → Shared → Prop
  | [], Γ, t, p, s => Sem.wp M Γ t Q E p s
  | g :: r, Γ, t, p, s => Sem.wp M Γ t (Sem.finPost M Γ fun x s' => Wf M Q E r g.1 (g.2.1 x) g.2.2 s') (fun e _ s' => Wf M Q E r g.1 (g.2.1 (.error e)) g.2.2 s') p s
theorem Wf.lift {fs : List Fr} {Γ : Ctx} {t t' : Sem Fin} {p p' : Pos} {s s' : Shared}
    (h : ∀ (Q : Fin → Pos → Shared → Prop) (E : Value → Pos → Shared → Prop), Sem.wp M Γ t' Q E p' s' → Sem.wp M Γ t Q E p s) (x : Wf M Q E fs Γ t' p' s') : Wf M Q E fs Γ t p s := by
  cases fs with
  | nil => exact h _ _ x
  | cons g r => exact h _ _ x
theorem Wf.call {fs : List Fr} {Γ : Ctx} {c : Code} {hd : Option Value} {gd : Bool} {l : List Value} {k : Result → Sem Fin} {p : Pos} {s : Shared}
    (x : Wf M Q E ((Γ, k, p) :: fs) (Γ.enter c hd p) (M.den c) p s) : Wf M Q E fs Γ (.call c hd gd l k) p s := by
  cases fs with
  | nil =>
    show Sem.wp M Γ (.call c hd gd l k) Q E p s
    rw [Sem.wp_call, wpCode_iff_wp]
    exact x
  | cons g r =>
    show Sem.wp M Γ (.call c hd gd l k) _ _ p s
    rw [Sem.wp_call, wpCode_iff_wp]
    exact x
theorem mk_ok : ∀ {n : Nat} {fs : List Fr} {Γ : Ctx} {t : Sem Fin} {s s' : SharedT} {p p' : Pos} {f : Flow},
    mk M.den ⟨M.prog, M.w.params⟩ n fs Γ t s p = some (f, s', p') → Q (.done f) p' s'.abs → Wf M Q E fs Γ t p s.abs
  | 0, _, _, _, _, _, _, _, _, h, _ => by cases h
  | n + 1, fs, Γ, t, s, s', p, p', f, h, q => by
    unfold mk at h
    cases t with
    | pure x =>
      cases x with
      | done g =>
        cases fs with
        | nil =>
          cases h
          show Sem.wp M Γ (.pure (.done f)) Q E p s.abs
          rw [Sem.wp_pure]
          exact q
        | cons y r =>
          show Sem.wp M Γ (Sem.pure (PySem.Fin.done g)) _ _ p s.abs
          rw [Sem.wp_pure]
          exact mk_ok (n := n) h q
      | again c =>
        cases fs with
        | nil => cases h
        | cons y r =>
          cases hc : c.quiet with
          | false => simp only [hc] at h; cases h
          | true =>
            simp only [hc] at h
            show Sem.wp M Γ (Sem.pure (PySem.Fin.again c)) _ _ p s.abs
            rw [Sem.wp_pure]
            refine ⟨hc, ?_⟩
            rw [wpCode_iff_wp]
            exact mk_ok (n := n) (fs := y :: r) (Γ := Γ.goto c) h q
    | raise e =>
      cases fs with
      | nil => cases h
      | cons y r =>
        show Sem.wp M Γ (Sem.raise e : Sem PySem.Fin) _ _ p s.abs
        rw [Sem.wp_raise]
        exact mk_ok (n := n) h q
    | rule tag k => exact Wf.lift (fun Q E z => by rw [Sem.wp_rule]; exact z) (mk_ok (n := n) h q)
    | «at» p1 k => exact Wf.lift (fun Q E z => by rw [Sem.wp_at]; exact z) (mk_ok (n := n) h q)
    | load a part k =>
      cases g : getT s a with
      | none => simp only [g] at h; cases h
      | some o =>
        simp only [g] at h
        exact Wf.lift (fun Q E z => by rw [Sem.wp_load]; exact ⟨o, (getT_eq s a).symm.trans g, z⟩) (mk_ok (n := n) h q)
    | update a part u k =>
      cases b : Nat.blt a s.n with
      | false => simp only [b] at h; cases h
      | true =>
        have lt : a < s.n := Nat.le_of_ble_eq_true b
        cases g : s.tree.get a with
        | none => simp only [b, g] at h; cases h
        | some o =>
          cases al : alive o with
          | none => simp only [b, g, al] at h; cases h
          | some o' =>
            simp only [b, g, al] at h
            refine Wf.lift (fun Q E z => ?_) (mk_ok (n := n) h q)
            rw [Sem.wp_update]
            refine ⟨by rw [show s.abs.heap.get? a = alive o from abs_get lt g, al]; rfl, ?_⟩
            have e : (SharedT.abs ⟨s.tree.set a u, s.n, s.life, s.gens, s.drawn, s.toks, s.os⟩) = { s.abs with heap := s.abs.heap.update a u } := by
              show (⟨absHeap (s.tree.set a u) s.n s.life, _, _, _, _⟩ : Shared) = _
              rw [absHeap_set g]
              rfl
            rw [e] at z
            exact z
    | loadIfAlive a k => exact Wf.lift (fun Q E z => by rw [Sem.wp_loadIfAlive, ← getT_eq s a]; exact z) (mk_ok (n := n) h q)
    | point l k => exact Wf.lift (fun Q E z => by rw [Sem.wp_point]; exact z) (mk_ok (n := n) h q)
    | alloc o k =>
      cases g : ((s.tree.ins s.n o).get s.n).isSome with
      | false => simp only [g] at h; cases h
      | true =>
        simp only [g, frS_eq] at h
        refine Wf.lift (fun Q E z => ?_) (mk_ok (n := n) h q)
        rw [Sem.wp_alloc]
        have e : (SharedT.abs ⟨s.tree.ins s.n o, s.n + 1, s.life, s.gens, s.drawn, s.toks, s.os⟩) = { s.abs with heap := s.abs.heap.push o } := by
          show (⟨absHeap (s.tree.ins s.n o) (s.n + 1) s.life, _, _, _, _⟩ : Shared) = _
          rw [absHeap_ins g]
          rfl
        have e2 : s.abs.heap.objs.size = s.n := absHeap_size s.tree s.n s.life
        rw [e] at z
        rw [e2]
        exact z
    | fresh k =>
      simp only [frS_eq] at h
      exact Wf.lift (fun Q E z => by rw [Sem.wp_fresh]; exact z) (mk_ok (n := n) h q)
    | ask k => exact Wf.lift (fun Q E z => by rw [Sem.wp_ask]; exact z) (mk_ok (n := n) h q)
    | call c hd gd l k => exact Wf.call (mk_ok (n := n) h q)
    | handled own k =>
      refine Wf.lift (fun Q E z => ?_) (mk_ok (n := n) h q)
      rw [Sem.wp_handled]
      cases own with
      | true => exact z
      | false => exact z
    | stack k => exact Wf.lift (fun Q E z => by rw [Sem.wp_stack]; exact z) (mk_ok (n := n) h q)
    | thread k => exact Wf.lift (fun Q E z => by rw [Sem.wp_thread]; exact z) (mk_ok (n := n) h q)
    | _ => cases h
/-- a tree of values, of flows as a tree of ends -/
def asV (t : Sem Value) : Sem Fin := t.bind fun v => .pure (.done (.ret v))
def asF (t : Sem Flow) : Sem Fin := t.bind fun f => .pure (.done f)
theorem run_F {n : Nat} {Γ : Ctx} {t : Sem Flow} {s s' : SharedT} {p p' : Pos} {f : Flow} {Q : Flow → Pos → Shared → Prop} (h : mk M.den ⟨M.prog, M.w.params⟩ n [] Γ (asF t) s p = some (f, s', p')) (q : Q f p' s'.abs) : Sem.wp M Γ t Q E p s.abs := by
  have z : Sem.wp M Γ (asF t) (fun x p' s' => ∃ f, x = .done f ∧ Q f p' s') E p s.abs := mk_ok (fs := []) h ⟨f, rfl, q⟩
  unfold asF at z
  rw [show t.bind (fun f => (.pure (.done f) : Sem Fin)) = (t >>= fun f => (.pure (.done f) : Sem Fin)) from rfl, Sem.wp_bind'] at z
  refine Sem.wp_mono M Γ t (fun a p2 s2 x => ?_) (fun _ _ _ x => x) p s.abs z
  rw [Sem.wp_pure] at x
  obtain ⟨g, e, x⟩ := x
  cases e
  exact x
theorem run_V {n : Nat} {Γ : Ctx} {t : Sem Value} {s s' : SharedT} {p p' : Pos} {v : Value} {Q : Value → Pos → Shared → Prop} (h : mk M.den ⟨M.prog, M.w.params⟩ n [] Γ (asV t) s p = some (.ret v, s', p')) (q : Q v p' s'.abs) : Sem.wp M Γ t Q E p s.abs := by
  have z : Sem.wp M Γ (asV t) (fun x p' s' => ∃ v, x = .done (.ret v) ∧ Q v p' s') E p s.abs := mk_ok (fs := []) h ⟨v, rfl, q⟩
  unfold asV at z
  rw [show t.bind (fun f => (.pure (.done (.ret f)) : Sem Fin)) = (t >>= fun f => (.pure (.done (.ret f)) : Sem Fin)) from rfl, Sem.wp_bind'] at z
  refine Sem.wp_mono M Γ t (fun a p2 s2 x => ?_) (fun _ _ _ x => x) p s.abs z
  rw [Sem.wp_pure] at x
  obtain ⟨g, e, x⟩ := x
  cases e
  exact x
end
end HM
noncomputable section
namespace HM
open PySem PySem.W PySem.Calls PyProof.Rows HandSHeadRun
abbrev Γ0 : Ctx := ⟨.builtin "claim.caller" {}, none, none, [], none⟩
theorem forget_nil {a b : Shared} (h : a.forget = b.forget) (g : b.gens = #[]) : a = b := by
  obtain ⟨h1, g1, d1, t1, o1⟩ := a
  obtain ⟨h2, g2, d2, t2, o2⟩ := b
  have g' : g2 = #[] := g
  subst g'
  simp only [Shared.forget, Shared.mk.injEq] at h
  obtain ⟨e1, e2, e3, e4, e5⟩ := h
  have e : g1 = #[] := by
    have z : (g1.map GenState.forget).size = 0 := by rw [e2]; simp
    rw [Array.size_map] at z
    exact Array.eq_empty_of_size_eq_zero z
  subst e1 e3 e4 e5 e
  rfl
/-- a tree of the caller's that comes to an end: the thread is run so far -/
theorem ran_of {p : Program} {w : World} {t : Sem PySem.Fin} {s0 : Shared} {G : Shared → Prop} (hz : s0.asleep) (hg : ∀ s', G s' → s'.gens = #[])
    (h : Sem.wp (model p w) Γ0 t (fun a _ s' => (∃ f, a = .done f) ∧ G s') (fun _ _ _ => False) default s0) :
    ∃ s1, G s1 ∧ ∃ n t1, schedN (denote table) p w n (.single s0 ⟨t, .builtin "claim.caller" {}, default, []⟩) = .running (.single s1 t1) ∧ through t1 = true := by
  have h1 := wp_reaches_first (M := model p w) (c := .builtin "claim.caller" {}) (t := t) (p := default) (s := s0) h
  obtain ⟨n, s', σ, p', leaf, hr, hσ, hl, _⟩ := h1
  have h2 : Sem.wp (model p w) Γ0 t (Sem.finPost (model p w) Γ0 fun r s' => True ∧ leftWithCleanup s'.gens = false) (fun e _ s' => True ∧ leftWithCleanup s'.gens = false) default s0 := by
    refine Sem.wp_mono _ _ t (fun a p2 s2 x => ?_) (fun _ _ _ x => x.elim) default s0 h
    obtain ⟨⟨f, rfl⟩, x⟩ := x
    exact ⟨trivial, by rw [hg _ x]; first | decide | simp [leftWithCleanup]⟩
  obtain ⟨m, r, s2, hm, _⟩ := (wp_iff_halts (M := model p w) t (fun _ _ => True) default s0).mp h2
  obtain ⟨s3, hn, hf, hc⟩ := runNI_real (denote table) p w hm (outcomeOf_ends r)
  have quiet : ∀ k s4, PySem.runN (denote table) p w k s0 ⟨t, .builtin "claim.caller" {}, default, []⟩ ≠ .halted (.unsupported "lifetime:generator-with-cleanup-left-suspended") s4 := by
    intro k s4 hk
    have a := runN_mono (denote table) p w m k _ _ _ _ hn
    have b := runN_mono (denote table) p w k m _ _ _ _ hk
    rw [Nat.add_comm, b] at a
    injection a with a1 _
    have o := outcomeOf_ends r
    rw [← a1] at o
    cases o
  have sq := schedN_eq_runN (denote table) p w s0 ⟨t, .builtin "claim.caller" {}, default, []⟩ hz ⟨hc, quiet⟩ n
  rcases hl with ⟨a, rfl, ⟨f, rfl⟩, x⟩ | ⟨e, _, x⟩
  · obtain rfl := forget_nil hσ (hg _ x)
    exact ⟨σ, x, n, _, sq.trans (congrArg Run.lift hr), rfl⟩
  · exact x.elim
/-- what the top's end must show -/
structure Shows (p q : Program) (loose : List Str) (Xt : Shared → Bool) (H : Hook) (w : World) (os : OsState) (s : Shared) : Prop where
  looks : looksF p (boot_heap w.params) s = true
  seen : openSeen q loose (importedModules p.main.body) Xt true s = openGood q loose
  obs : H.obs s = H.val w
  life : s.heap.life = (boot_heap w.params).life
  os : s.os = os
  kept : ∀ b o, b ≠ mainNs → b ≠ cStatics → bootAnn w ≠ some (.ref b) → (boot_heap w.params).get? b = some o → s.heap.get? b = some o
abbrev bootS (w : World) (os : OsState) : Shared := ⟨boot_heap w.params, #[], boot_drawn, boot_toks, os⟩
theorem behind_of {p q : Program} {loose : List Str} {Xt : Shared → Bool} {XP : (Str → Option Value) → Heap → Prop} {H : Hook} {w : World} (e : opening p = plainProg p.main.scope.names) (f : ∀ s, fenceModules? p s = some s)
    (hX : ∀ s, Xt s = true → XP (s.heap.nsMap mainGlobals) s.heap) (hch : chainsOk q = true)
    (run : ∀ os, Sem.wp (model p w) Γ0 (topStub p).cur (fun a _ s' => (∃ f, a = .done f) ∧ Shows p q loose Xt H w os s') (fun _ _ _ => False) default (bootS w os)) :
    (∃ s, AfterRun (opening p) w s) ∧ ∀ s, AfterRun (opening p) w s → ∃ s0, fenceModules? p s = some s0 ∧ s0.gens = #[] ∧ ∃ s1, TopRan p w s0 s1 ∧ s1.asleep ∧ s1.gens = #[] ∧ s1.heap.isNs mainGlobals = true ∧
      Ground q loose [] XP w s1 (s1.heap.nsMap mainGlobals) (s1.heap.nsMap builtinsNs) s1.heap ∧ H.says w s1.heap := by
  obtain ⟨⟨h, gs, d, k, os⟩, a, a'⟩ := Option.map_eq_some_iff.mp (boot_open (N := 600) e rfl f w)
  obtain ⟨rfl, rfl, rfl, rfl⟩ : h = boot_heap w.params ∧ gs = Array.mk [] ∧ d = boot_drawn ∧ k = boot_toks := by simpa using a'
  rw [← table_eq_tree] at a
  obtain ⟨s, b, c⟩ := Option.bind_eq_some_iff.mp a
  have A := AfterImport.of_importEnds b
  refine ⟨⟨s, A⟩, fun s' hs' => ?_⟩
  obtain rfl : s' = s := AfterImport.unique hs' A
  have z : (bootS w os).asleep := Shared.asleep_of_life (fence_lifeW c) A.life
  have gn : ∀ s1, Shows p q loose Xt H w os s1 → s1.gens = #[] := fun s1 x => by
    obtain ⟨_, g, _⟩ := ground_of_open (w := w) hX hch x.seen
    exact Array.eq_empty_of_size_eq_zero (beq_iff_eq.mp g)
  obtain ⟨s1, x, ran⟩ := ran_of (t := (topStub p).cur) z gn (run os)
  obtain ⟨G, _, g1, g2, g3, g4, g5⟩ := ground_of_open (w := w) hX hch x.seen
  obtain ⟨l1, l4⟩ := Bool.and_eq_true_iff.mp (show (staticsOk (importedModules p.main.body) (boot_heap w.params) s1.heap && namesBound p s1.heap && gensDone s1 && laidKept (boot_heap w.params) s1.heap) = true from x.looks)
  obtain ⟨l1, l3⟩ := Bool.and_eq_true_iff.mp l1
  obtain ⟨l1, l2⟩ := Bool.and_eq_true_iff.mp l1
  refine ⟨bootS w os, c, rfl, s1, ⟨ran, x.life, Shared.rest_eq x.os, fun b o hb hn => ?_, g2, statics_of_ok l1, g3, g4, g5, gens_of_done l3, names_of_bound l2, laid_of_kept l4⟩, Shared.asleep_of_life x.life z, gn _ x, g1, G, H.of w s1 x.obs⟩
  exact x.kept b o (fun y => hn (.inl y)) (fun y => hn (.inr (.inl y))) (fun y => hn (.inr (.inr ((Pin.globalOf_eq (boot_ns w.params) _).trans y)))) hb
/-- the law, over what stands behind the top -/
theorem holds_behind {r : OpenRow} {q : Program} {loose : List Str} {H : Hook} {d : DefRec} {kwd : List (Str × PySem.Expr)}
    (beh : ∀ w, (∃ s, AfterRun (opening r.prog) w s) ∧ ∀ s, AfterRun (opening r.prog) w s → ∃ s0, fenceModules? r.prog s = some s0 ∧ s0.gens = #[] ∧ ∃ s1, TopRan r.prog w s0 s1 ∧ s1.asleep ∧ s1.gens = #[] ∧
      s1.heap.isNs mainGlobals = true ∧ Ground q loose [] (fun m h => XL q [] m h ∧ RecFacts r.toRowW.records h) w s1 (s1.heap.nsMap mainGlobals) (s1.heap.nsMap builtinsNs) s1.heap ∧ H.says w s1.heap)
    (hdef : defOf q r.name = some (d, kwd)) (hp : r.prog.theDef r.name = some (d.params, d.body, d.scope)) (hk : kwWritten? d.params.kwonlyargs d.params.kw_defaults = some kwd)
    (hwr : (!r.writes || r.records.isEmpty) = true) (k1 : r.wellSaid = true) (ok : (chainsOk q && opensWell r.prog && (frees r.toRowW && r.within.isEmpty)) = true) (hb : r.prog.bare) (hw : r.toRowW.promised)
    (call : WalkO q loose (XL q []) H.says r.toRowW d kwd fun f vs => PySem.call f vs) : r.Holds := by
  refine ⟨k1, hw, ?_⟩
  obtain ⟨ok1, within⟩ := Bool.and_eq_true_iff.mp ok
  obtain ⟨_, well⟩ := Bool.and_eq_true_iff.mp ok1
  obtain ⟨within, noin⟩ := Bool.and_eq_true_iff.mp within
  obtain ⟨hsame, hu, ha, hap, hm⟩ := frees_parts within
  refine ⟨⟨hb, well, by show r.makers.map _ = []; rw [hm]; rfl⟩, hw.witness, fun w => ⟨(beh w).1, fun s' hs' => ?_⟩⟩
  obtain ⟨s0, hf, g0, s, T, z, gens, ns, G1, Y⟩ := (beh w).2 s' hs'
  have RF := G1.X.2
  have GX : Ground q loose [] (XL q []) w s (s.heap.nsMap mainGlobals) (s.heap.nsMap builtinsNs) s.heap := ⟨G1.T, G1.B, G1.D, G1.TE, G1.TD, G1.W, G1.X.1, G1.cls, G1.has, G1.apart, G1.once, G1.K⟩
  have GR : Ground q loose r.toRowW.records (XL q []) w s _ _ s.heap := RF.ground GX
  refine ⟨s0, hf, g0, s, T, fun n hn => ?_, RF.1, RF.2.1, ?_⟩
  · have en : n = r.name := by
      split at hn <;> simp_all
    subst en
    exact pinned_of_view ns GX hdef hp hk
  refine ClaimW.callFrom_of_specG (c := r.toRowW.claim) (tree := fun vs => do match ← nsGet mainNs r.name with
      | some f => do ret (← PySem.call f vs)
      | none => unsupported "claim.caller:no-such-global") z gens fun args pre lay ord hord => ?_
  obtain ⟨⟨vs, s1⟩, laid⟩ := Option.isSome_iff_exists.mp (layAllW_isSome (P := w.params) (ord := ord) GR.has args r.toRowW.args s (pre_splitW pre).1)
  have keeps := layAllW_keeps _ _ _ laid
  have rest := layAllW_rest _ _ _ laid
  obtain ⟨as, reads, inn, old⟩ := reads_layAllW hord _ _ _ laid lay s1.heap (fun _ _ e => e)
  have L : Laid r.toRowW.records w s s1 args vs as := ⟨⟨ord, hord, laid⟩, reads, inn, old, keeps, rest.1.trans gens, rest.2.2.1⟩
  have G2 := GR.keeps XL.keeps keeps
  obtain ⟨a, o, pm, cd, doc, dV, kV, h1, h2, h3, h4, h5⟩ := G2.fn hdef
  have W := call w s s1 _ _ G2 (H.keeps w _ _ Y keeps) a o pm cd doc dV kV h2 h3 h4 h5 (defOf_name hdef ▸ h1) L.gens args vs as pre lay L.reads L.well (L.low G1.low)
  have ids := ident_freeW hu ha hap
  have none_in : r.toRowW.claim.within = [] := List.isEmpty_iff.mp noin
  have fin : ∀ x s', GoodWG r.toRowW.claim (classAt s.heap) (ExcName.means s.heap) args s1 x s' → _ := fun x s' g => g.laid (c := r.toRowW.claim) hsame none_in ids L
  refine ⟨vs, s1, laid, wpAny_bind (wpAny_nsGet G2.T.g ?_)⟩
  have hr : s1.heap.nsMap mainGlobals = s1.heap.nsMap mainGlobals := rfl
  rw [h1]
  refine wpAny_bind (wpAny_mono W (fun v s' g => wpAny_pure ⟨_, rfl, ?_⟩) fun e s' g => ?_)
  · have y := fin _ _ g
    exact ⟨y.1, y.2.1, y.2.2, fun _ => ⟨namesKept_of T ns _ keeps g.2.1.old, noTable hwr ‹_›⟩⟩
  · have y := fin _ _ g
    exact ⟨y.1, y.2.1, y.2.2, fun _ => ⟨namesKept_of T ns _ keeps g.2.1.old, noTable hwr ‹_›⟩⟩
end HM
noncomputable section
namespace HM
open PySem PySem.W PySem.Calls PyProof.Rows HandSHeadRun
abbrev tk (p : Program) (w : World) : HeapKind p w (List L2.Key) := tupleKind (L2.mixKind p w)
abbrev sks (ks : List Str) : List L2.Key := ks.map Sum.inr
section
variable {p : Program} {w : World} {A : Around} {E : Value → Shared → Prop} {s : Shared}
theorem dictSet_new {d a : Addr} {o : Obj} {es : Array DictEntry} {ep : Nat} {xs : List (List L2.Key × Addr × Value)} {k : List L2.Key} {v : Value} {Q : Unit → Shared → Prop} (hu : (tk p w).room A) (hkey : (tk p w).is s.heap k a)
    (ho : s.heap.get? d = some o) (hd : o.data = .dict es ep) (he : es.toList = xs.map (entryOfKey (tk p w))) (his : ∀ x ∈ xs, (tk p w).is s.heap x.1 x.2.1) (hn : (xs.map (·.1)).Nodup) (hno : ¬ k ∈ xs.map (·.1)) (hz : xs.length ≤ 1000)
    (h : Q () { s with heap := s.heap.update d (Obj.mapDictKeys fun l => l.push ⟨(tk p w).hash k, .ref a, v⟩), toks := s.toks + (tk p w).draws k }) :
    wpAny (model p w) A (dictSet d (.ref a) v) Q E s := by
  have hes : es.size ≤ sizeLine := by
    have e := size_of_entries he
    rw [sizeLine_eq]
    omega
  unfold dictSet
  refine wpAny_holding ?_
  refine wpAny_bind ((tk p w).pyHash hu hkey ?_)
  unfold dictSetHashed
  refine wpAny_holding ?_
  refine wpAny_bind (wpAny_dictFind_heap (s := { s with toks := s.toks + (tk p w).draws k }) hu hkey ho hd he his hn ?_ ?_)
  · intro _
    exact wpAny_bind (wpAny_rule (wpAny_updateDictKeys (hz := hes) (s := { s with toks := s.toks + (tk p w).draws k }) ho hd h))
  · intro j y hj
    exact absurd (List.mem_map.mpr ⟨_, List.mem_of_getElem? hj, rfl⟩) hno
end
def strsB : List Str → List Value → Bool
  | [], [] => true
  | x :: xs, .str y _ :: vs => decide (x = y) && strsB xs vs
  | _, _ => false
theorem strsB_ok {p : Program} {w : World} : ∀ {ks : List Str} {vs : List Value}, strsB ks vs = true → PySem.ItemsAre (L2.mixKind p w) (sks ks) vs
  | [], [], _ => .nil
  | x :: xs, v :: vs, h => by
    cases v with
    | str y t =>
      obtain ⟨h1, h2⟩ := Bool.and_eq_true_iff.mp (show (decide (x = y) && strsB xs vs) = true from h)
      have e : x = y := of_decide_eq_true h1
      subst e
      exact .cons (L2.kV_is (P := p) (w := w) (k := Sum.inr x) (u := .str x t) ⟨t, rfl⟩) (strsB_ok h2)
    | _ => cases h
  | [], _ :: _, h => by cases h
  | _ :: _, [], h => by cases h
def keyB (s : SharedT) (ks : List Str) (a : Addr) : Bool := match getT s a with
  | some ⟨.type T, _, .seq its _, _⟩ => (match decide (T = "tuple") with
    | true => strsB ks its.toList
    | false => false)
  | _ => false
theorem keyB_ok {p : Program} {w : World} {s : SharedT} {ks : List Str} {a : Addr} (h : keyB s ks a = true) : (tk p w).is s.abs.heap (sks ks) a := by
  unfold keyB at h
  cases g : getT s a with
  | none => rw [g] at h; cases h
  | some o =>
    rw [g] at h
    obtain ⟨c, d, dt, sl⟩ := o
    cases c with
    | type T =>
      cases dt with
      | seq its n =>
        cases e : decide (T = "tuple") with
        | false => simp only [e] at h; cases h
        | true =>
          simp only [e] at h
          have eT : T = "tuple" := of_decide_eq_true e
          subst eT
          exact ⟨_, its, n, (getT_eq s a).symm.trans g, rfl, rfl, strsB_ok h⟩
      | _ => cases h
    | _ => cases h
def put (s : SharedT) (d : Addr) (e : DictEntry) (n : Nat) : SharedT := ⟨s.tree.set d (Obj.mapDictKeys fun l => l.push e), s.n, s.life, s.gens, s.drawn, s.toks + n, s.os⟩
theorem put_abs {s : SharedT} {d : Addr} {e : DictEntry} {n : Nat} {o : Obj} (g : s.tree.get d = some o) : (put s d e n).abs = { s.abs with heap := s.abs.heap.update d (Obj.mapDictKeys fun l => l.push e), toks := s.abs.toks + n } := by
  show (⟨absHeap (s.tree.set d _) s.n s.life, _, _, _, _⟩ : Shared) = _
  rw [absHeap_set g]
  rfl
abbrev Xs : Type := List (List Str × Addr × Value)
abbrev Ob2 : Type := Option Obj × Option Obj
def dicO (hh : List L2.Key → Int) (xs : Xs) (ep : Nat) : Obj := ⟨.type "dict", none, .dict (xs.map fun x => (⟨hh (sks x.1), .ref x.2.1, x.2.2⟩ : DictEntry)).toArray ep, #[]⟩
/-- what the rounds do; on the way what they lean on: the dict as it stands beside what it should be, the keys' tuples, a new key -/
def rounds (den : Code → Sem PySem.Fin) (stg : Setting) (Γ : Ctx) (hh : List L2.Key → Int) (d : Addr) : List (Sem Value × Sem Value × List Str) → Xs → SharedT → List Ob2 → Bool → Option (SharedT × Xs × List Ob2 × Bool)
  | [], xs, s, ob, b => some (s, xs, ob, b)
  | x :: r, xs, s, ob, b => (match mk den stg 200 [] Γ (asV x.1) s default with
    | some (.ret (.ref a), s1, p1) => (match mk den stg 200 [] Γ (asV x.2.1) s1 p1 with
      | some (.ret v, s2, _) => frS (put s2 d ⟨hh (sks x.2.2), .ref a, v⟩ (x.2.2.length + 1)) fun s3 =>
          rounds den stg Γ hh d r (xs ++ [(x.2.2, a, v)]) s3 ((s2.tree.get d, some (dicO hh xs xs.length)) :: ob)
            (b && (keyB s2 x.2.2 a && ((xs.all fun y => keyB s2 y.1 y.2.1) && (Nat.blt d s2.n && !(xs.any fun y => decide (y.1 = x.2.2))))))
      | _ => none)
    | _ => none)
/-- the position is of no matter to a tree that begins by standing somewhere -/
def Stands (t : Sem Value) : Prop := ∃ q k, t = .at q k
theorem Stands.wp {t : Sem Value} (h : Stands t) {M : Model} {Γ : Ctx} {Q : Value → Pos → Shared → Prop} {E : Value → Pos → Shared → Prop} {p p' : Pos} {s : Shared} (x : Sem.wp M Γ t Q E p' s) : Sem.wp M Γ t Q E p s := by
  obtain ⟨q, k, rfl⟩ := h
  rw [Sem.wp_at] at x ⊢
  exact x
section
variable {p : Program} {w : World} {Γ : Ctx} {A : Around} {d : Addr}
theorem inj_sks : ∀ {a b : List Str}, sks a = sks b → a = b
  | [], [], _ => rfl
  | [], _ :: _, h => by cases h
  | _ :: _, [], h => by cases h
  | x :: a, y :: b, h => by
    injection h with h1 h2
    injection h1 with h1
    rw [h1, inj_sks h2]
theorem rounds_b {den : Code → Sem PySem.Fin} {stg : Setting} {hh : List L2.Key → Int} : ∀ {l : List (Sem Value × Sem Value × List Str)} {xs xs' : Xs} {s s' : SharedT} {ob ob' : List Ob2} {b : Bool},
    rounds den stg Γ hh d l xs s ob b = some (s', xs', ob', true) → b = true ∧ ∀ y ∈ ob, y ∈ ob'
  | [], xs, xs', s, s', ob, ob', b, h => by
    cases h
    exact ⟨rfl, fun _ z => z⟩
  | x :: r, xs, xs', s, s', ob, ob', b, h => by
    unfold rounds at h
    split at h
    · split at h
      · rw [frS_eq] at h
        obtain ⟨h1, h2⟩ := rounds_b h
        exact ⟨(Bool.and_eq_true_iff.mp h1).1, fun y z => h2 y (List.mem_cons_of_mem _ z)⟩
      · cases h
    · cases h
theorem rounds_ok (hu : (tk p w).room A) (hΓ : Γ.In A) {C : PUnit → Pos → Shared → Prop} {E : Value → Pos → Shared → Prop} :
    ∀ {l : List (Sem Value × Sem Value × List Str)} {xs xs' : Xs} {s s' : SharedT} {ob ob' : List Ob2} {b : Bool}, rounds (denote table) ⟨p, w.params⟩ Γ (tk p w).hash d l xs s ob b = some (s', xs', ob', true) →
      (∀ y ∈ ob', y.1 = y.2) → (∀ x ∈ l, Stands x.1) → (xs.map (·.1)).Nodup → xs.length + l.length ≤ 1000 → (∀ pp, C PUnit.unit pp s'.abs) → ∀ pp,
      Sem.wp (model p w) Γ (forIn (l.map fun x => (x.1, x.2.1)) PUnit.unit fun (x : Sem Value × Sem Value) (_ : PUnit) => (do
        let kv ← x.1
        let vv ← holding [kv] x.2
        holding [kv, vv] (dictSet d kv vv)
        pure (ForInStep.yield PUnit.unit) : Sem (ForInStep PUnit))) C E pp s.abs
  | [], xs, xs', s, s', ob, ob', b, h, _, _, _, _, hC, pp => by
    cases h
    rw [List.map_nil, List.forIn_nil, Sem.wp_pure']
    exact hC pp
  | x :: r, xs, xs', s, s', ob, ob', b, h, hob, hst, hn, hz, hC, pp => by
    unfold rounds at h
    split at h
    · rename_i a s1 p1 h1
      split at h
      · rename_i v s2 p2 h2
        rw [frS_eq] at h
        obtain ⟨hb, hmem⟩ := rounds_b h
        obtain ⟨_, hb⟩ := Bool.and_eq_true_iff.mp hb
        obtain ⟨k1, hb⟩ := Bool.and_eq_true_iff.mp hb
        obtain ⟨k2, hb⟩ := Bool.and_eq_true_iff.mp hb
        obtain ⟨k3, k4⟩ := Bool.and_eq_true_iff.mp hb
        have lt : d < s2.n := Nat.le_of_ble_eq_true k3
        have hg : s2.tree.get d = some (dicO (tk p w).hash xs xs.length) := hob _ (hmem _ (List.mem_cons_self))
        have hget : s2.abs.heap.get? d = some (dicO (tk p w).hash xs xs.length) := abs_get lt hg
        have hnew : ¬ x.2.2 ∈ xs.map (·.1) := fun m => by
          obtain ⟨y, hy, e⟩ := List.mem_map.mp m
          have z : (xs.any fun y => decide (y.1 = x.2.2)) = true := List.any_eq_true.mpr ⟨y, hy, by rw [e]; exact decide_eq_true rfl⟩
          rw [z] at k4
          cases k4
        rw [List.map_cons, List.forIn_cons]
        refine (Sem.wp_bind' ..).mpr ?_
        refine (Sem.wp_bind' ..).mpr ?_
        refine (hst x (List.mem_cons_self)).wp (p' := default) (run_V (M := model p w) h1 ?_)
        refine (Sem.wp_bind' ..).mpr ?_
        rw [Sem.wp_holding]
        refine run_V (M := model p w) h2 ?_
        refine (Sem.wp_bind' ..).mpr ?_
        rw [Sem.wp_holding]
        have key : wpAny (model p w) A (dictSet d (.ref a) v) (fun _ t => t = (put s2 d ⟨(tk p w).hash (sks x.2.2), .ref a, v⟩ (x.2.2.length + 1)).abs) (fun _ _ => False) s2.abs := by
          refine dictSet_new (xs := xs.map fun y => (sks y.1, y.2.1, y.2.2)) hu (keyB_ok k1) hget rfl ?_ ?_ ?_ ?_ (by rw [List.length_map]; omega) ?_
          · show (xs.map _).toArray.toList = _
            rw [List.map_map]
            rfl
          · intro y hy
            obtain ⟨z, hz, rfl⟩ := List.mem_map.mp hy
            exact keyB_ok (List.all_eq_true.mp k2 z hz)
          · have e : (xs.map fun y => (sks y.1, y.2.1, y.2.2)).map (·.1) = (xs.map (·.1)).map sks := by rw [List.map_map, List.map_map]; rfl
            rw [e]
            exact List.Pairwise.map _ (fun a b hab e => hab (inj_sks e)) hn
          · intro m
            obtain ⟨y, hy, e⟩ := List.mem_map.mp m
            obtain ⟨z, hz, rfl⟩ := List.mem_map.mp hy
            exact hnew (List.mem_map.mpr ⟨z, hz, inj_sks e⟩)
          · rw [put_abs hg]
            have e : (tk p w).draws (sks x.2.2) = x.2.2.length + 1 := by
              show (sks x.2.2).length + 1 = _
              rw [List.length_map]
            rw [e]
        refine Sem.wp_mono _ _ _ (fun _ p3 t ht => ?_) (fun _ _ _ z => z.elim) p2 s2.abs (key Γ p2 hΓ)
        subst ht
        rw [Sem.wp_pure']
        show Sem.wp _ _ _ _ _ _ _
        refine rounds_ok hu hΓ h hob (fun y hy => hst y (List.mem_cons_of_mem _ hy)) ?_ (by simp only [List.length_append, List.length_cons, List.length_nil] at hz ⊢; omega) hC p3
        rw [List.map_append, List.nodup_append]
        refine ⟨hn, by simp, fun a ha b hb e => ?_⟩
        rw [List.map_cons, List.map_nil, List.mem_singleton] at hb
        rw [e, hb] at ha
        exact hnew ha
      · cases h
    · cases h
end
end HM
noncomputable section
namespace HM
open PySem PySem.W PySem.Calls PyProof.Rows HandSHeadRun
abbrev Pr2 : Type := Sem Value × Sem Value
theorem gather (f : (Option (Sem Value) × Sem Value) → (Option Addr × List Pr2) → Sem (ForInStep (Option Addr × List Pr2))) (hf : ∀ (p : Pr2) (run : List Pr2), run.length + 1 < 17 → f (some p.1, p.2) (none, run) = pure (.yield (none, run ++ [p])))
    (tail : List (Option (Sem Value) × Sem Value)) : ∀ (items run : List Pr2), run.length + items.length < 17 → forIn ((items.map fun p => (some p.1, p.2)) ++ tail) ((none : Option Addr), run) f = forIn tail ((none : Option Addr), run ++ items) f
  | [], run, _ => by simp
  | p :: rest, run, h => by
    rw [List.map_cons, List.cons_append, List.forIn_cons, hf p run (by simp at h; omega), pure_bind]
    have e := gather f hf tail rest (run ++ [p]) (by simp at h ⊢; omega)
    simpa using e
theorem display17 {M : Model} {Γ : Ctx} {Q : Value → Pos → Shared → Prop} {E : Value → Pos → Shared → Prop} {pp : Pos} {s : Shared} (ps : List Pr2) (x : Pr2) (h16 : ps.length = 16)
    (h : Sem.wp M Γ (subDict (ps ++ [x])) (fun d p' s' => Q (.ref d) p' s') E pp s) : Sem.wp M Γ (dictDisplay ((ps ++ [x]).map fun p => (some p.1, p.2))) Q E pp s := by
  unfold dictDisplay
  dsimp only
  rw [List.map_append, gather _ (fun p run h => by
    have hne : ((run ++ [(p.1, p.2)]).length == 17) = false := by simp; omega
    simp only [hne, Bool.false_eq_true, if_false]) _ ps [] (by simp; omega)]
  have e17 : ((ps ++ [(x.1, x.2)]).length == 17) = true := by simp; omega
  have ne : (ps ++ [(x.1, x.2)]).isEmpty = false := by simp
  rw [List.map_cons, List.map_nil, List.forIn_cons]
  simp only [e17, ne, if_true, Bool.false_eq_true, if_false, List.forIn_nil, Sem.wp_bind', Sem.wp_pure', List.isEmpty_nil, List.nil_append]
  exact h
/-- the dict made and filled, more than fifteen pairs -/
theorem subDict_long {p : Program} {w : World} {Γ : Ctx} {A : Around} {E : Value → Pos → Shared → Prop} {Q : Addr → Pos → Shared → Prop} {l : List (Sem Value × Sem Value × List Str)} {s s' : SharedT} {xs' : Xs} {ob' : List Ob2} (hu : (tk p w).room A) (hΓ : Γ.In A)
    (g : ((s.tree.ins s.n ⟨.type "dict", none, .dict #[] 0, #[]⟩).get s.n).isSome = true)
    (h : rounds (denote table) ⟨p, w.params⟩ Γ (tk p w).hash s.n l [] ⟨s.tree.ins s.n ⟨.type "dict", none, .dict #[] 0, #[]⟩, s.n + 1, s.life, s.gens, s.drawn, s.toks, s.os⟩ [] true = some (s', xs', ob', true))
    (hob : ∀ y ∈ ob', y.1 = y.2) (hst : ∀ x ∈ l, Stands x.1) (h15 : 15 < l.length) (hz : l.length ≤ 1000) (hQ : ∀ pp, Q s.n pp s'.abs) (pp : Pos) : Sem.wp (model p w) Γ (subDict (l.map fun x => (x.1, x.2.1))) Q E pp s.abs := by
  unfold subDict
  refine (Sem.wp_bind' ..).mpr ?_
  show Sem.wp _ _ (.alloc _ .pure) _ _ _ _
  rw [Sem.wp_alloc, Sem.wp_pure]
  have e2 : s.abs.heap.objs.size = s.n := absHeap_size s.tree s.n s.life
  rw [e2]
  have e : ({ s.abs with heap := s.abs.heap.push { cls := .type "dict", data := .dict #[] } } : Shared) = SharedT.abs ⟨s.tree.ins s.n ⟨.type "dict", none, .dict #[] 0, #[]⟩, s.n + 1, s.life, s.gens, s.drawn, s.toks, s.os⟩ := by
    show _ = (⟨absHeap (s.tree.ins s.n _) (s.n + 1) s.life, _, _, _, _⟩ : Shared)
    rw [absHeap_ins g]
    rfl
  rw [e]
  refine (Sem.wp_bind' ..).mpr ?_
  rw [Sem.wp_holding, if_neg (by rw [List.length_map]; omega)]
  refine (Sem.wp_bind' ..).mpr ?_
  show Sem.wp _ _ (.rule _ .pure) _ _ _ _
  rw [Sem.wp_rule, Sem.wp_pure]
  refine (Sem.wp_bind' ..).mpr ?_
  refine rounds_ok hu hΓ h hob hst List.nodup_nil (by simpa using hz) (fun p2 => ?_) pp
  rw [Sem.wp_pure', Sem.wp_pure']
  exact hQ p2
/-- a display of seventeen pairs, given a name -/
theorem exec_dict {p : Program} {w : World} {Γ : Ctx} {A : Around} {env : Env} {tg : PySem.Expr} {keys : List (Option PySem.Expr)} {values : List PySem.Expr} {pos pos2 : Pos} {E : Value → Pos → Shared → Prop} {Q : Flow → Pos → Shared → Prop} {l : List (Sem Value × Sem Value × List Str)} {s s' : SharedT} {xs' : Xs}
    {ob' : List Ob2} (hu : (tk p w).room A) (hΓ : Γ.In A) (hshape : (evalEachOpt keys env).zip ((evalEach values env).map fun v => do let x ← v; standAt pos2; pure x) = l.map fun x => (some x.1, x.2.1))
    (hsw : swapsWithSole [tg] (.Dict keys values pos2) pos.line env = pure false) (g : ((s.tree.ins s.n ⟨.type "dict", none, .dict #[] 0, #[]⟩).get s.n).isSome = true)
    (h : rounds (denote table) ⟨p, w.params⟩ Γ (tk p w).hash s.n l [] ⟨s.tree.ins s.n ⟨.type "dict", none, .dict #[] 0, #[]⟩, s.n + 1, s.life, s.gens, s.drawn, s.toks, s.os⟩ [] true = some (s', xs', ob', true))
    (hob : ∀ y ∈ ob', y.1 = y.2) (hst : ∀ x ∈ l, Stands x.1) (h17 : l.length = 17)
    (hQ : ∀ pp, Sem.wp (model p w) Γ (do assignStores env (.ref s.n) (← swappedStores [tg] (.Dict keys values pos2) env) ((assignEach [tg] env).map (·.2))) Q E pp s'.abs) (pp : Pos) :
    Sem.wp (model p w) Γ (exec (.Assign [tg] (.Dict keys values pos2) pos) env) Q E pp s.abs := by
  rw [arm_exec_Assign]
  refine (Sem.wp_bind' ..).mpr ?_
  show Sem.wp _ _ (.at _ .pure) _ _ _ _
  rw [Sem.wp_at, Sem.wp_pure, hsw]
  refine (Sem.wp_bind' ..).mpr ?_
  rw [Sem.wp_pure', if_neg (by decide)]
  refine (Sem.wp_bind' ..).mpr ?_
  rw [arm_eval_Dict]
  refine (Sem.wp_bind' ..).mpr ?_
  show Sem.wp _ _ (.at _ .pure) _ _ _ _
  rw [Sem.wp_at, Sem.wp_pure, hshape]
  obtain ⟨ps, x, e, h16⟩ : ∃ ps x, l = ps ++ [x] ∧ ps.length = 16 := by
    have ne : l ≠ [] := fun z => by rw [z] at h17; cases h17
    refine ⟨l.dropLast, l.getLast ne, (List.dropLast_concat_getLast ne).symm, ?_⟩
    rw [List.length_dropLast, h17]
  have z : (l.map fun x => (some x.1, x.2.1)) = ((ps.map fun x => (x.1, x.2.1)) ++ [(x.1, x.2.1)]).map fun (p : Pr2) => (some p.1, p.2) := by
    rw [e]
    simp
  have z2 : (ps.map fun x => (x.1, x.2.1)) ++ [(x.1, x.2.1)] = l.map fun x => (x.1, x.2.1) := by
    rw [e]
    simp
  rw [z]
  refine display17 _ _ (by rw [List.length_map]; exact h16) ?_
  rw [z2]
  exact subDict_long hu hΓ g h hob hst (by omega) (by omega) (fun p2 => hQ p2) pos2
end HM
noncomputable section
namespace HM
open PySem PySem.W PySem.Calls PyProof.Rows HandSHeadRun
section
variable {M : Model} {Γ : Ctx} {env : Env}
theorem execs_app : ∀ {l r : List Stmt} {Q : Flow → Pos → Shared → Prop} {E : Value → Pos → Shared → Prop} {p : Pos} {s : Shared},
    Sem.wp M Γ (execs l env) (fun f p' s' => f = .next ∧ Sem.wp M Γ (execs r env) Q E p' s') E p s → Sem.wp M Γ (execs (l ++ r) env) Q E p s
  | [], r, Q, E, p, s, h => by
    rw [show execs [] env = (Sem.pure Flow.next : Sem Flow) from rfl, Sem.wp_pure] at h
    exact h.2
  | x :: l, r, Q, E, p, s, h => by
    have e : ∀ m : List Stmt, execs (x :: m) env = (exec x env >>= fun f => match f with
      | .next => execs m env
      | f => pure f) := fun _ => rfl
    rw [List.cons_append, e, Sem.wp_bind']
    rw [e, Sem.wp_bind'] at h
    refine Sem.wp_mono M Γ _ (fun f p' s' z => ?_) (fun _ _ _ z => z) p s h
    cases f with
    | next => exact execs_app z
    | _ =>
      have z2 := (Sem.wp_pure' ..).mp z
      cases z2.1
end
abbrev envOf (p : Program) (cv : Value) (fa : Addr) : Env := { scope := p.main.scope, locals := mainNs, globals := mainNs, cells := [], code := cv, frame := some fa }
abbrev dNew : Obj := ⟨.type "dict", none, .dict #[] 0, #[]⟩
/-- the top's pieces as trees -/
structure Parts where
  code : Sem Value
  frame : Value → Sem Value
  start : Env → Sem Flow
  ahead : Env → Sem Flow
  pairs : Env → List (Sem Value × Sem Value × List Str)
  behind : Env → Addr → Sem Flow
def full (den : Code → Sem PySem.Fin) (p : Program) (w : World) (hh : List L2.Key → Int) (T : Parts) (N : Nat) (s0 : SharedT) (pX : Pos) : Option (SharedT × List Ob2 × Bool) :=
  match mk den ⟨p, w.params⟩ N [] Γ0 (asV T.code) s0 default with
  | some (.ret cv, s1, p1) => (match mk den ⟨p, w.params⟩ N [] Γ0 (asV (T.frame cv)) s1 p1 with
    | some (.ret (.ref fa), s2, p2) => (match mk den ⟨p, w.params⟩ N [] (Γ0.enter (.body (behindTheImports p) (envOf p cv fa)) none p2) (asF (T.start (envOf p cv fa))) s2 p2 with
      | some (.next, s3, p3) => (match mk den ⟨p, w.params⟩ N [] (Γ0.enter (.body (behindTheImports p) (envOf p cv fa)) none p2) (asF (T.ahead (envOf p cv fa))) s3 p3 with
        | some (.next, s4, p4) => (match ((s4.tree.ins s4.n dNew).get s4.n).isSome with
          | true => frS ⟨s4.tree.ins s4.n dNew, s4.n + 1, s4.life, s4.gens, s4.drawn, s4.toks, s4.os⟩ fun s5 =>
            (match rounds den ⟨p, w.params⟩ (Γ0.enter (.body (behindTheImports p) (envOf p cv fa)) none p2) hh s4.n (T.pairs (envOf p cv fa)) [] s5 [] true with
            | some (s6, xs, ob, b) => (match mk den ⟨p, w.params⟩ N [] (Γ0.enter (.body (behindTheImports p) (envOf p cv fa)) none p2) (asF (T.behind (envOf p cv fa) s4.n)) s6 pX with
              | some (.next, s7, _) => some (s7, ob, b)
              | _ => none)
            | none => none)
          | false => none)
        | _ => none)
      | _ => none)
    | _ => none)
  | _ => none
abbrev A1 : Around := { handled := none, depth := 100000, frames := none, guards := none, units := 1000 }
/-- the pieces are those of the program: l1, a display of seventeen pairs with a name, l2 -/
structure PartsOk (p : Program) (T : Parts) (l1 l2 : List Stmt) (tg : PySem.Expr) (keys : List (Option PySem.Expr)) (values : List PySem.Expr) (pos pos2 : Pos) : Prop where
  body : behindTheImports p = l1 ++ .Assign [tg] (.Dict keys values pos2) pos :: l2
  code : T.code = moduleCode p.main
  frame : ∀ cv, T.frame cv = (newBodyFrame cv mainNs mainNs).bind fun a => .pure (.ref a)
  start : ∀ env, T.start env = (blockStart (behindTheImports p) env).bind fun _ => .pure .next
  ahead : ∀ env, T.ahead env = execs l1 env
  shape : ∀ env, (evalEachOpt keys env).zip ((evalEach values env).map fun v => do let x ← v; standAt pos2; pure x) = (T.pairs env).map fun x => (some x.1, x.2.1)
  stands : ∀ env, ∀ x ∈ T.pairs env, Stands x.1
  len : ∀ env, (T.pairs env).length = 17
  behind : ∀ env d, T.behind env d = ((do assignStores env (.ref d) (← swappedStores [tg] (.Dict keys values pos2) env) ((assignEach [tg] env).map (·.2))) : Sem Flow).bind fun f => match f with
    | .next => execs l2 env
    | f => .pure f
  sole : ∀ env, swapsWithSole [tg] (.Dict keys values pos2) pos.line env = pure false
theorem top_wp {p : Program} {w : World} {T : Parts} {l1 l2 : List Stmt} {tg : PySem.Expr} {keys : List (Option PySem.Expr)} {values : List PySem.Expr} {pos pos2 : Pos} {N : Nat} {s0 : SharedT} {G : Shared → Prop} (ok : PartsOk p T l1 l2 tg keys values pos pos2)
    (hin : ∀ cv fa p2, (Γ0.enter (.body (behindTheImports p) (envOf p cv fa)) none p2).In A1) (hu : A1.units < cLine)
    (h : ∀ pX, ∃ s7 ob, full (denote table) p w (tk p w).hash T N s0 pX = some (s7, ob, true) ∧ (∀ y ∈ ob, y.1 = y.2) ∧ G s7.abs) :
    Sem.wp (model p w) Γ0 (topStub p).cur (fun a _ s' => (∃ f, a = .done f) ∧ G s') (fun _ _ _ => False) default s0.abs := by
  obtain ⟨s7, ob, hf, _⟩ := h default
  unfold full at hf
  split at hf
  case h_2 => cases hf
  case h_1 =>
  rename_i cv s1 p1 h1
  split at hf
  case h_2 => cases hf
  case h_1 =>
  rename_i fa s2 p2 h2
  split at hf
  case h_2 => cases hf
  case h_1 =>
  rename_i s3 p3 h3
  split at hf
  case h_2 => cases hf
  case h_1 =>
  rename_i s4 p4 h4
  split at hf
  case h_2 => cases hf
  case h_1 =>
  rename_i h5
  rw [frS_eq] at hf
  split at hf
  case h_2 => cases hf
  case h_1 =>
  rename_i s6 xs ob0 b h6
  have all : ∀ pX, ∃ s7 p8, mk (denote table) ⟨p, w.params⟩ N [] (Γ0.enter (.body (behindTheImports p) (envOf p cv fa)) none p2) (asF (T.behind (envOf p cv fa) s4.n)) s6 pX = some (.next, s7, p8) ∧ (∀ y ∈ ob0, y.1 = y.2) ∧ b = true ∧ G s7.abs := by
    intro pX
    obtain ⟨s8, ob8, g1, g2, g3⟩ := h pX
    unfold full at g1
    simp only [h1, h2, h3, h4, h5, frS_eq, h6] at g1
    split at g1
    case h_2 => cases g1
    case h_1 =>
    rename_i s9 p9 h9
    cases g1
    exact ⟨_, _, h9, g2, rfl, g3⟩
  show Sem.wp (model p w) Γ0 (moduleCode p.main >>= fun code => newBodyFrame code mainNs mainNs >>= fun frame => run (.body (behindTheImports p) (envOf p code frame)) >>= fun _ => (ret .none : Sem PySem.Fin)) _ _ default s0.abs
  rw [ok.code] at h1
  refine (Sem.wp_bind' ..).mpr (run_V (M := model p w) h1 ?_)
  rw [ok.frame] at h2
  refine (Sem.wp_bind' ..).mpr ?_
  have fr : Sem.wp (model p w) Γ0 ((newBodyFrame cv mainNs mainNs).bind fun a => .pure (.ref a) : Sem Value) (fun v p' s' => v = .ref fa ∧ p' = p2 ∧ s' = s2.abs) (fun _ _ _ => False) p1 s1.abs := run_V (M := model p w) h2 ⟨rfl, rfl, rfl⟩
  have fr2 : Sem.wp (model p w) Γ0 (newBodyFrame cv mainNs mainNs >>= fun a => (.pure (.ref a) : Sem Value)) (fun v p' s' => v = .ref fa ∧ p' = p2 ∧ s' = s2.abs) (fun _ _ _ => False) p1 s1.abs := fr
  rw [Sem.wp_bind'] at fr2
  refine Sem.wp_mono _ _ _ (fun a p' s' z => ?_) (fun _ _ _ z => z) p1 s1.abs fr2
  rw [Sem.wp_pure] at z
  obtain ⟨za, rfl, rfl⟩ := z
  cases za
  refine (Sem.wp_bind' ..).mpr ?_
  show Sem.wp _ _ (.call _ _ _ _ _) _ _ _ _
  rw [Sem.wp_call, wpCode_iff_wp]
  show Sem.wp (model p w) (Γ0.enter (.body (behindTheImports p) (envOf p cv fa)) none p') (((blockStart (behindTheImports p) (envOf p cv fa)) >>= fun _ => ((execs (behindTheImports p) (envOf p cv fa)).onRaise (leaving (envOf p cv fa))) >>= fun f => (Sem.pure (PySem.Fin.done f) : Sem PySem.Fin))) _ _ p' s2.abs
  rw [ok.start] at h3
  have st : Sem.wp (model p w) (Γ0.enter (.body (behindTheImports p) (envOf p cv fa)) none p') ((blockStart (behindTheImports p) (envOf p cv fa)) >>= fun _ => (Sem.pure Flow.next : Sem Flow)) (fun f pp s' => pp = p3 ∧ s' = s3.abs) (fun _ _ _ => False) p' s2.abs := run_F (M := model p w) h3 ⟨rfl, rfl⟩
  rw [Sem.wp_bind'] at st
  refine (Sem.wp_bind' ..).mpr (Sem.wp_mono _ _ _ (fun a pp s' z => ?_) (fun _ _ _ z => z.elim) _ _ st)
  rw [Sem.wp_pure] at z
  obtain ⟨rfl, rfl⟩ := z
  refine (Sem.wp_bind' ..).mpr ?_
  have eb : execs (behindTheImports p) (envOf p cv fa) = execs (l1 ++ .Assign [tg] (.Dict keys values pos2) pos :: l2) (envOf p cv fa) := by rw [ok.body]
  rw [Sem.wp_onRaise, eb]
  rw [ok.ahead] at h4
  refine execs_app (run_F (M := model p w) h4 ⟨rfl, ?_⟩)
  have e : ∀ (x : Stmt) (m : List Stmt), execs (x :: m) (envOf p cv fa) = (exec x (envOf p cv fa) >>= fun f => match f with
      | .next => execs m (envOf p cv fa)
      | f => pure f) := fun _ _ => rfl
  rw [e]
  refine (Sem.wp_bind' ..).mpr ?_
  obtain ⟨_, _, _, hob, hb, _⟩ := all default
  subst hb
  refine exec_dict (A := A1) hu (hin cv fa p') (ok.shape _) (ok.sole _) h5 h6 hob (ok.stands _) (ok.len _) (fun pX => ?_) p4
  obtain ⟨s8, p8, h8, _, _, hG⟩ := all pX
  rw [ok.behind] at h8
  have bh : Sem.wp (model p w) (Γ0.enter (.body (behindTheImports p) (envOf p cv fa)) none p') (((do assignStores (envOf p cv fa) (.ref s4.n) (← swappedStores [tg] (.Dict keys values pos2) (envOf p cv fa)) ((assignEach [tg] (envOf p cv fa)).map (·.2))) : Sem Flow) >>= fun f => match f with
    | .next => execs l2 (envOf p cv fa)
    | f => .pure f) (fun f _ s' => f = .next ∧ s' = s8.abs) (fun _ _ _ => False) pX s6.abs := run_F (M := model p w) h8 ⟨rfl, rfl⟩
  rw [Sem.wp_bind'] at bh
  refine Sem.wp_mono _ _ _ (fun f pp s' z => ?_) (fun _ _ _ z => z.elim) pX s6.abs bh
  have fin : ∀ (f : Flow) (pp : Pos) (s' : Shared), (f = .next ∧ s' = s8.abs) → Sem.wp (model p w) (Γ0.enter (.body (behindTheImports p) (envOf p cv fa)) none p') (Sem.pure (PySem.Fin.done f)) (Sem.finPost (model p w) (Γ0.enter (.body (behindTheImports p) (envOf p cv fa)) none p') fun x s' => Sem.wp (model p w) Γ0 ((match x with
      | .ok f => .pure f
      | .error e => .raise e : Sem Flow)) (fun _ p3 s3 => Sem.wp (model p w) Γ0 (ret .none : Sem PySem.Fin) (fun a _ s' => (∃ f, a = .done f) ∧ G s') (fun _ _ _ => False) p3 s3) (fun _ _ _ => False) p' s') (fun e _ s' => False) pp s' := by
    rintro f pp s' ⟨rfl, rfl⟩
    rw [Sem.wp_pure]
    simp only [Sem.finPost]
    rw [Sem.wp_pure]
    unfold ret
    rw [Sem.wp_pure']
    exact ⟨⟨_, rfl⟩, hG⟩
  cases f with
  | next =>
    refine Sem.wp_mono _ _ _ (fun f pp s' y => ?_) (fun _ _ _ y => y.elim) pp s' z
    exact Sem.wp_mono _ _ _ (fun _ _ _ q => q) (fun _ _ _ q => q.elim) pp s' (fin f pp s' y)
  | _ =>
    have z2 := (Sem.wp_pure' ..).mp z
    cases z2.1
end HM
noncomputable section
namespace HM
open PySem PySem.W PySem.Calls PyProof.Rows HandSHeadRun
/-- the texts of a tuple that is written out -/
def strsOf : PySem.Expr → List Str
  | .Tuple es _ _ => es.filterMap fun e => match e with
    | .Constant (.str x) _ _ => some x
    | _ => none
  | _ => []
def isTup : PySem.Expr → Bool
  | .Tuple _ _ _ => true
  | _ => false
/-- the pairs of a display, by any reading of expressions -/
def pairsBy (ev : PySem.Expr → Env → Sem Value) (pos2 : Pos) (env : Env) : List (Option PySem.Expr) → List PySem.Expr → List (Sem Value × Sem Value × List Str)
  | some k :: ks, v :: vs => (ev k env, (ev v env).bind (fun x => (standAt pos2).bind fun _ => .pure x), strsOf k) :: pairsBy ev pos2 env ks vs
  | _, _ => []
theorem pairs_cons {ev : PySem.Expr → Env → Sem Value} {pos2 : Pos} {env : Env} {k v : PySem.Expr} {ks : List (Option PySem.Expr)} {vs : List PySem.Expr} :
    pairsBy ev pos2 env (some k :: ks) (v :: vs) = (ev k env, (ev v env).bind (fun x => (standAt pos2).bind fun _ => .pure x), strsOf k) :: pairsBy ev pos2 env ks vs := by
  rw [pairsBy]
theorem pairs_shape {env : Env} {pos2 : Pos} : ∀ {ks : List (Option PySem.Expr)} {vs : List PySem.Expr}, ks.all (fun k => match k with
      | some k => isTup k
      | none => false) = true → ks.length = vs.length →
    (evalEachOpt ks env).zip ((evalEach vs env).map fun v => do let x ← v; standAt pos2; pure x) = (pairsBy eval pos2 env ks vs).map (fun x => (some x.1, x.2.1)) ∧ (∀ x ∈ pairsBy eval pos2 env ks vs, Stands x.1) ∧ (pairsBy eval pos2 env ks vs).length = ks.length
  | [], [], _, _ => ⟨rfl, fun _ m => (nomatch m), rfl⟩
  | [], _ :: _, _, h => by cases h
  | k :: ks, [], _, h => by cases h
  | none :: ks, v :: vs, h, _ => by simp at h
  | some k :: ks, v :: vs, h, hl => by
    simp only [List.all_cons, Bool.and_eq_true] at h
    obtain ⟨h1, h2⟩ := h
    obtain ⟨i1, i2, i3⟩ := pairs_shape (env := env) (pos2 := pos2) h2 (by simpa using hl)
    refine ⟨?_, fun x m => ?_, ?_⟩
    · rw [show evalEachOpt (some k :: ks) env = some (eval k env) :: evalEachOpt ks env from rfl, show evalEach (v :: vs) env = eval v env :: evalEach vs env from rfl, List.map_cons, List.zip_cons_cons, i1, pairs_cons, List.map_cons]
      rfl
    · rw [pairs_cons] at m
      rcases List.mem_cons.mp m with e | m
      · subst e
        cases k with
        | Tuple es c q => exact ⟨q, _, rfl⟩
        | _ => cases h1
      · exact i2 x m
    · rw [pairs_cons, List.length_cons, List.length_cons, i3]
/-- the pieces of a program, by any reading -/
structure Rd1 where
  mc : Module → Sem Value
  nb : Value → Addr → Addr → Sem Addr
  bs : List Stmt → Env → Sem Unit
  ex : List Stmt → Env → Sem Flow
  ev : PySem.Expr → Env → Sem Value
  sw : List PySem.Expr → PySem.Expr → Env → Sem (Option (List Str))
  as : Env → Value → Option (List Str) → List (Value → Sem Unit) → Sem Flow
  ae : List PySem.Expr → Env → List (Bool × (Value → Sem Unit))
def partsBy (r : Rd1) (p : Program) (l1 l2 : List Stmt) (tg : PySem.Expr) (keys : List (Option PySem.Expr)) (values : List PySem.Expr) (pos2 : Pos) : Parts where
  code := r.mc p.main
  frame := fun cv => (r.nb cv mainNs mainNs).bind fun a => .pure (.ref a)
  start := fun env => (r.bs (behindTheImports p) env).bind fun _ => .pure .next
  ahead := fun env => r.ex l1 env
  pairs := fun env => pairsBy r.ev pos2 env keys values
  behind := fun env d => ((r.sw [tg] (.Dict keys values pos2) env).bind fun sw => r.as env (.ref d) sw ((r.ae [tg] env).map (·.2))).bind fun f => match f with
    | .next => r.ex l2 env
    | f => .pure f
/-- the model's own readings; the library's twins of them -/
def rd0 : Rd1 := ⟨fun m => moduleCode m, fun c a b => newBodyFrame c a b, blockStart, execs, eval, swappedStores, assignStores, assignEach⟩
def rdQ : Rd1 := ⟨fun m => PySem.W.Fast.tw17154629097778926822 m m.file none, fun c a b => PySem.W.Fast.tw12822647523644345616 c a b builtinsNs, PySem.W.Fast.tw1066825118222455980, PySem.W.Fast.tw12563942051412417395, PySem.W.Fast.tw14044960220447912780, PySem.W.Fast.tw4016559146275205325,
  PySem.W.Fast.tw2470068587113613483, PySem.W.Fast.tw15628205474173192105⟩
theorem rd_eq : rd0 = rdQ := by
  unfold rd0 rdQ
  rw [← PySem.W.Fast.te17154629097778926822, ← PySem.W.Fast.te12822647523644345616, ← PySem.W.Fast.te1066825118222455980, ← PySem.W.Fast.te12563942051412417395, ← PySem.W.Fast.te14044960220447912780, ← PySem.W.Fast.te4016559146275205325, ← PySem.W.Fast.te2470068587113613483,
    ← PySem.W.Fast.te15628205474173192105]
theorem parts_ok {p : Program} {l1 l2 : List Stmt} {tg : PySem.Expr} {keys : List (Option PySem.Expr)} {values : List PySem.Expr} {pos pos2 : Pos} (body : behindTheImports p = l1 ++ .Assign [tg] (.Dict keys values pos2) pos :: l2)
    (hk : keys.all (fun k => match k with
      | some k => isTup k
      | none => false) = true) (hl : keys.length = 17) (hv : keys.length = values.length) (sole : ∀ env, swapsWithSole [tg] (.Dict keys values pos2) pos.line env = pure false) : PartsOk p (partsBy rd0 p l1 l2 tg keys values pos2) l1 l2 tg keys values pos pos2 where
  body := body
  code := rfl
  frame := fun _ => rfl
  start := fun _ => rfl
  ahead := fun _ => rfl
  shape := fun env => (pairs_shape hk hv).1
  stands := fun env => (pairs_shape hk hv).2.1
  len := fun env => (pairs_shape hk hv).2.2.trans hl
  behind := fun _ _ => rfl
  sole := sole
theorem full_eq {p : Program} {w : World} {hh : List L2.Key → Int} {l1 l2 : List Stmt} {tg : PySem.Expr} {keys : List (Option PySem.Expr)} {values : List PySem.Expr} {pos2 : Pos} {N : Nat} {s0 : SharedT} {pX : Pos} :
    full (denote table) p w hh (partsBy rd0 p l1 l2 tg keys values pos2) N s0 pX = full (denQ tabQ) p w hh (partsBy rdQ p l1 l2 tg keys values pos2) N s0 pX := by
  rw [rd_eq, table_eq_tree, denQ_eq, tabQ_eq]
/-- from the boot -/
def fromBoot {α : Type} (w : World) (os : OsState) (k : SharedT → Option α) : Option α := match putAll (boot_heap w.params).objs.toList .nil 0 with
  | some (t, n) => frNat n fun n0 => k (bootT w os (t, n0))
  | none => none
theorem fromBoot_ok {α : Type} {w : World} {os : OsState} {k : SharedT → Option α} {x : α} (h : fromBoot w os k = some x) : ∃ s0 : SharedT, s0.abs = bootS w os ∧ k s0 = some x ∧ (∀ k2 : SharedT → Option α, fromBoot w os k2 = k2 s0) ∧ ∀ {β : Type} (k2 : SharedT → Option β), fromBoot w os k2 = k2 s0 := by
  unfold fromBoot at h ⊢
  cases e : putAll (boot_heap w.params).objs.toList .nil 0 with
  | none =>
    rw [e] at h
    cases h
  | some r =>
    obtain ⟨t, n⟩ := r
    rw [e] at h
    have h1 : (frNat n fun n0 => k (bootT w os (t, n0))) = some x := h
    rw [frNat_eq] at h1
    refine ⟨bootT w os (t, n), ?_, h1, fun k2 => ?_, fun k2 => ?_⟩
    · have eh := putAll_heap e
      show (⟨absHeap t n (boot_heap w.params).life, #[], boot_drawn, boot_toks, os⟩ : Shared) = _
      rw [eh]
    · show (frNat n fun n0 => k2 (bootT w os (t, n0))) = _
      rw [frNat_eq]
    · show (frNat n fun n0 => k2 (bootT w os (t, n0))) = _
      rw [frNat_eq]
end HM
noncomputable section
namespace HM
open PySem PySem.W PySem.Calls PyProof.Rows HandSHeadRun DL
inductive Fc where
  | no (x : Str)
  | ex (x : Str)
  | con (x : Str) (d : D)
  | fn (x : Str)
def all2 {α β : Type} (f : α → β → Bool) : List α → List β → Bool
  | [], [] => true
  | a :: r, b :: t => f a b && all2 f r t
  | _, _ => false
def kdaB (K : PySem.W.Frag) : Nat → Value → D → Bool
  | 0, _, _ => false
  | n + 1, u, d => match u, d with
    | .none, .none => true
    | .bool b, .bool c => decide (b = c)
    | .int i _, .int j => decide (i = j)
    | .str x _, .str y => decide (x = y)
    | .ref a, .tuple ds => (match K.lookup a with
      | some ⟨.type T, _, .seq its _, _⟩ => decide (T = "tuple") && (Nat.ble its.size 1000 && all2 (kdaB K n) its.toList ds)
      | _ => false)
    | _, _ => false
theorem kda_ok {K : PySem.W.Frag} : ∀ {n : Nat} {u : Value} {d : D}, kdaB K n u d = true → KDa K u d
  | 0, _, _, h => by cases h
  | n + 1, u, d, h => by
    have all : ∀ {us : List Value} {ds : List D}, all2 (kdaB K n) us ds = true → KDaL K us ds := by
      intro us
      induction us with
      | nil =>
        intro ds q
        cases ds with
        | nil => exact .nil
        | cons _ _ => cases q
      | cons u us ih =>
        intro ds q
        cases ds with
        | nil => cases q
        | cons d ds =>
          obtain ⟨q1, q2⟩ := Bool.and_eq_true_iff.mp (show (kdaB K n u d && all2 (kdaB K n) us ds) = true from q)
          exact .cons (kda_ok q1) (ih q2)
    unfold kdaB at h
    split at h
    · exact .non
    · have e := of_decide_eq_true h
      subst e
      exact .bl _
    · have e := of_decide_eq_true h
      subst e
      exact .int _ _
    · have e := of_decide_eq_true h
      subst e
      exact .str _ _
    · split at h
      · rename_i T dd its m sl e
        obtain ⟨h1, h2⟩ := Bool.and_eq_true_iff.mp h
        obtain ⟨h2, h3⟩ := Bool.and_eq_true_iff.mp h2
        have eT : T = "tuple" := of_decide_eq_true h1
        subst eT
        have hz : its.size ≤ sizeLine := by
          have := Nat.le_of_ble_eq_true h2
          rw [sizeLine_eq]
          omega
        exact .tup e hz (all h3)
      · cases h
    · cases h
def Fc.ok (K : PySem.W.Frag) : Fc → Bool
  | .no x => He.eqO (PySem.W.nsIn K mainGlobals x) (some none)
  | .ex x => (He.Fa.glo x).ok K && (He.Fa.exc x).ok K
  | .con x d => (match PySem.W.nsIn K mainGlobals x with
    | some (some u) => kdaB K 9 u d
    | _ => false)
  | .fn x => (He.Fa.glo x).ok K && ((He.Fa.keep x).ok K && (He.Fa.code (x, none) x).ok K)
/-- a dict whose keys are tuples of texts, as it was written -/
def KTab2 : Type := List (List Str × D)
def ketB (K : PySem.W.Frag) : List DictEntry → KTab2 → Bool := all2 fun e q => (match e.key with
  | .ref a => (match K.lookup a with
    | some ⟨.type T, _, .seq its _, _⟩ => decide (T = "tuple") && (Nat.ble its.size 1000 && (strsB q.1 its.toList && kdaB K 9 e.val q.2))
    | _ => false)
  | _ => false)
def kesB (K : PySem.W.Frag) : List DictEntry → KTab → Bool := all2 fun e q => (match e.key with
  | .str x _ => decide (x = q.1) && kdaB K 9 e.val q.2
  | _ => false)
theorem kes_ok {K : PySem.W.Frag} : ∀ {es : List DictEntry} {tb : KTab}, kesB K es tb = true → KEs K es tb
  | [], [], _ => .nil
  | [], _ :: _, h => by cases h
  | _ :: _, [], h => by cases h
  | ⟨hh, key, v⟩ :: es, (y, d) :: tb, h => by
    obtain ⟨h1, h2⟩ := Bool.and_eq_true_iff.mp h
    cases key with
    | str x t =>
      obtain ⟨h3, h4⟩ := Bool.and_eq_true_iff.mp h1
      have e : x = y := of_decide_eq_true h3
      subst e
      exact .cons (kda_ok h4) (kes_ok h2)
    | _ => cases h1
def dicAt (K : PySem.W.Frag) (x : Str) : Option (Array DictEntry) := match K.lookup (He.ga K x) with
  | some ⟨.type T, none, .dict es _, sl⟩ => (match decide (T = "dict") && (sl.isEmpty && !((He.ga K x) == sysModules)) with
    | true => some es
    | false => none)
  | _ => none
/-- what is looked at -/
structure Spec1 where
  facts : List Fc
  fns : List He.FnD
  tds : List (Str × KTab)
  tts : List (Str × KTab2)
abbrev Al1 : Type := Bool × List He.FnV × List (Option (List (Option (Str × Int)))) × List (Option (List Int))
def obsK (F : Spec1) (K : PySem.W.Frag) : Al1 :=
  (F.facts.all (Fc.ok K) && (F.tds.all (fun q => (He.Fa.glo q.1).ok K && (match dicAt K q.1 with
    | some es => kesB K es.toList q.2
    | none => false)) && F.tts.all (fun q => (He.Fa.glo q.1).ok K && (match dicAt K q.1 with
    | some es => ketB K es.toList q.2
    | none => false))),
   F.fns.map (fun d => He.fnObs K d.at_), F.tds.map (fun q => (dicAt K q.1).map fun es => es.toList.map He.keyOf), F.tts.map fun q => (dicAt K q.1).map fun es => es.toList.map (·.hash))
def valK (F : Spec1) (p : Program) (w : World) : Al1 :=
  (true, F.fns.map He.FnD.val, F.tds.map (fun q => some (He.keysIn w.params (q.2.map (·.1)))), F.tts.map fun q => some (q.2.map fun z => (tk p w).hash (sks z.1)))
def addrs (n0 n : Nat) : List Addr := mainGlobals :: List.range' n0 (n - n0)
def hookK (F : Spec1) (p : Program) (n0 : Nat) : Hook where
  α := Al1
  obs := fun s => obsK F (He.frG s.heap.get? (addrs n0 s.heap.objs.size))
  val := fun w => valK F p w
  says := fun w h => ∃ K : PySem.W.Frag, K.In h ∧ obsK F K = valK F p w
  of := fun _ _ e => ⟨_, He.frG_in, e⟩
  keeps := fun _ _ _ ⟨K, hK, c⟩ k => ⟨K, PySem.W.Frag.In.keeps hK k, c⟩
def obT (F : Spec1) (n0 : Nat) (s : SharedT) : Al1 := obsK F (He.frG (getT s) (addrs n0 s.n))
theorem obT_eq {F : Spec1} {p : Program} {n0 : Nat} (s : SharedT) : obT F n0 s = (hookK F p n0).obs s.abs := by
  have e : getT s = s.abs.heap.get? := funext (getT_eq s)
  have e2 : s.abs.heap.objs.size = s.n := absHeap_size s.tree s.n s.life
  show obsK F (He.frG (getT s) (addrs n0 s.n)) = obsK F (He.frG s.abs.heap.get? (addrs n0 s.abs.heap.objs.size))
  rw [e, e2]
/-- the boot's objects that must stay -/
def keptL (n0 : Nat) (g : Addr → Option Obj) : List (Option Obj) := (List.range n0).map fun b => match b == mainNs || b == cStatics with
  | true => none
  | false => g b
theorem kept_ok {n0 : Nat} {g g' : Addr → Option Obj} (e : keptL n0 g = keptL n0 g') {b : Addr} (hb : b < n0) (h1 : b ≠ mainNs) (h2 : b ≠ cStatics) : g b = g' b := by
  have q := congrArg (fun l => l[b]?) e
  simp only [keptL, List.getElem?_map, List.getElem?_range hb, Option.map_some, Option.some.injEq] at q
  have z : (b == mainNs || b == cStatics) = false := by simp [h1, h2]
  rw [z] at q
  exact q
end HM
noncomputable section
namespace HM
open PySem PySem.W PySem.Calls PyProof.Rows HandSHeadRun DL
theorem body_in (b : List Stmt) (p : Program) (cv : Value) (fa : Addr) (p2 : Pos) : (Γ0.enter (.body b (envOf p cv fa)) none p2).In A1 := by
  refine ⟨rfl, ?_, (fun l h => nomatch h), (fun g h => nomatch h), ?_⟩
  · show frameCount [(Code.builtin "claim.caller" {}, p2)] + (Code.body b (envOf p cv fa)).weight ≤ 100000
    have e : frameCount [(Code.builtin "claim.caller" {}, p2)] = frameCount [(Code.builtin "claim.caller" {}, default)] := rfl
    have e3 : (Code.body b (envOf p cv fa)).weight ≤ 900 := by
      unfold Code.weight Code.frames Code.isFrame Code.isCreation Code.isCaller
      simp
      split <;> omega
    have e4 : frameCount [(Code.builtin "claim.caller" {}, default)] ≤ 99000 := by decide +kernel
    rw [e]
    omega
  · show (Code.body b (envOf p cv fa)).cUnits + unitsOf [(Code.builtin "claim.caller" {}, p2)] ≤ 1000
    have e : unitsOf [(Code.builtin "claim.caller" {}, p2)] = unitsOf [(Code.builtin "claim.caller" {}, default)] := rfl
    have e4 : unitsOf [(Code.builtin "claim.caller" {}, default)] ≤ 100 := by decide +kernel
    have e3 : (Code.body b (envOf p cv fa)).cUnits ≤ 100 := by
      unfold Code.cUnits Code.frames Code.isFrame
      simp
    rw [e]
    omega
/-- the two runs of the top in the kernel -/
structure Runs1 (r : OpenRow) (q : Program) (loose : List Str) (F : Spec1) (n0 N : Nat) (l1 l2 : List Stmt) (tg : PySem.Expr) (keys : List (Option PySem.Expr)) (values : List PySem.Expr) (pos2 : Pos) (w : World) : Prop where
  size : (boot_heap w.params).objs.size = n0
  main : ∀ os pX, (fromBoot w os fun s0 => (full (denQ tabQ) r.prog w (tk r.prog w).hash (partsBy rdQ r.prog l1 l2 tg keys values pos2) N s0 pX).map fun x =>
      (x.2.2, looksF r.prog (boot_heap w.params) x.1.abs, seenQ q loose (importedModules r.prog.main.body) (fun s => xlAt q [] s && recOk r.toRowW.records s) x.1.abs, obT F n0 x.1, x.1.life, x.1.os, keptL n0 (getT x.1))) =
    some (true, true, openGood q loose, valK F r.prog w, (boot_heap w.params).life, os, keptL n0 (boot_heap w.params).get?)
  dict : ∀ os pX, (fromBoot w os fun s0 => (full (denQ tabQ) r.prog w (tk r.prog w).hash (partsBy rdQ r.prog l1 l2 tg keys values pos2) N s0 pX).map fun x => x.2.1.map (·.1)) =
    (fromBoot w os fun s0 => (full (denQ tabQ) r.prog w (tk r.prog w).hash (partsBy rdQ r.prog l1 l2 tg keys values pos2) N s0 pX).map fun x => x.2.1.map (·.2))
theorem pairs_eq {α : Type} : ∀ {l : List (α × α)}, l.map (·.1) = l.map (·.2) → ∀ y ∈ l, y.1 = y.2
  | [], _, _, m => (nomatch m)
  | x :: l, h, y, m => by
    rw [List.map_cons, List.map_cons] at h
    injection h with h1 h2
    rcases List.mem_cons.mp m with e | m
    · rw [e]
      exact h1
    · exact pairs_eq h2 y m
theorem behind_run {r : OpenRow} {q : Program} {loose : List Str} {F : Spec1} {n0 N : Nat} {l1 l2 : List Stmt} {tg : PySem.Expr} {keys : List (Option PySem.Expr)} {values : List PySem.Expr} {pos pos2 : Pos} {w : World} (R : Runs1 r q loose F n0 N l1 l2 tg keys values pos2 w)
    (ok : PartsOk r.prog (partsBy rd0 r.prog l1 l2 tg keys values pos2) l1 l2 tg keys values pos pos2) (e : opening r.prog = plainProg r.prog.main.scope.names) (f : ∀ s, fenceModules? r.prog s = some s) (hch : chainsOk q = true) :
    (∃ s, AfterRun (opening r.prog) w s) ∧ ∀ s, AfterRun (opening r.prog) w s → ∃ s0, fenceModules? r.prog s = some s0 ∧ s0.gens = #[] ∧ ∃ s1, TopRan r.prog w s0 s1 ∧ s1.asleep ∧ s1.gens = #[] ∧ s1.heap.isNs mainGlobals = true ∧
      Ground q loose [] (fun m h => XL q [] m h ∧ RecFacts r.toRowW.records h) w s1 (s1.heap.nsMap mainGlobals) (s1.heap.nsMap builtinsNs) s1.heap ∧ (hookK F r.prog n0).says w s1.heap := by
  refine behind_of (Xt := fun s => xlAt q [] s && recOk r.toRowW.records s) e f (fun s z => ?_) hch fun os => ?_
  · obtain ⟨z1, z2⟩ := Bool.and_eq_true_iff.mp z
    exact ⟨xl_of s z1, recFacts_of z2⟩
  · obtain ⟨s0, hs, _, _, all⟩ := fromBoot_ok (R.main os default)
    rw [← hs]
    refine top_wp (N := N) ok (body_in _ _) (by show 1000 < cLine; decide) fun pX => ?_
    have a := R.main os pX
    have b := R.dict os pX
    rw [all] at a b
    rw [all] at b
    rw [full_eq]
    obtain ⟨x, hx, hv⟩ := Option.map_eq_some_iff.mp a
    obtain ⟨s7, ob, bb⟩ := x
    rw [hx] at b
    have b' := pairs_eq (Option.some.inj b)
    simp only [Prod.mk.injEq] at hv
    obtain ⟨rfl, v2, v3, v4, v5, v6, v7⟩ := hv
    refine ⟨s7, ob, hx, b', ⟨v2, by rw [seenQ_eq]; exact v3, ?_, v5, v6, fun bd o h1 h2 _ hb => ?_⟩⟩
    · rw [← obT_eq]
      exact v4
    · have lt : bd < n0 := by
        rw [← R.size]
        exact Heap.lt_size hb
      have k := kept_ok v7 lt h1 h2
      rw [getT_eq, hb] at k
      exact k
end HM
noncomputable section
namespace DL
open PySem PySem.Spec PyProof.Rows L2
abbrev KTab3 : Type := List (List Str × D)
structure KE2 (G : Gm) (e : DictEntry) (q : List Str × D) : Prop where
  ex : ∃ (a : Addr) (dd : Option Addr) (its : Array Value) (n : Nat) (sl : Array (Option Value)), e.key = .ref a ∧ G.K.lookup a = some ⟨.type "tuple", dd, .seq its n, sl⟩ ∧ HM.strsB q.1 its.toList = true
  val : KDa G.K e.val q.2
  hash : e.hash = (HM.tk G.P G.w).hash (HM.sks q.1)
inductive KEs2 (G : Gm) : List DictEntry → KTab3 → Prop
  | nil : KEs2 G [] []
  | cons {e : DictEntry} {q : List Str × D} {es : List DictEntry} {t : KTab3} (h : KE2 G e q) (r : KEs2 G es t) : KEs2 G (e :: es) (q :: t)
structure GlT (G : Gm) (x : Str) (t : KTab3) : Prop where
  ex : ∃ (d : Addr) (es : Array DictEntry) (n : Nat), G.mg x = some (.ref d) ∧ G.K.lookup d = some ⟨.type "dict", none, .dict es n, #[]⟩ ∧ (d == sysModules) = false ∧ KEs2 G es.toList t
  nd : (t.map (·.1)).Nodup
def strsOf : List D → Option (List Str)
  | [] => some []
  | .str x :: r => (strsOf r).map (x :: ·)
  | _ => none
def tgetD (t : KTab3) : D → Option D
  | .tuple ds => (strsOf ds).bind fun ks => t.lookup ks
  | _ => none
def tninD (t : KTab3) : D → Option Bool
  | .tuple ds => (strsOf ds).map fun ks => !(t.lookup ks).isSome
  | _ => none
def dTget (t : KTab3) (fb : Ev → Mn D) (ev : Ev) : Mn D := bnd (fb ev) fun y => lft (tgetD t y)
def dTnin (t : KTab3) (fb : Ev → Mn D) (ev : Ev) : Mn Bool := bnd (fb ev) fun y => lft (tninD t y)
/-- the entries as the dict's rule wants them -/
theorem KEs2.rows {G : Gm} {h : Heap} (kin : G.K.In h) : ∀ {es : List DictEntry} {t : KTab3}, KEs2 G es t → ∃ xs : List (List Key × Addr × Value), es = xs.map (entryOfKey (HM.tk G.P G.w)) ∧ (∀ x ∈ xs, (HM.tk G.P G.w).is h x.1 x.2.1) ∧ xs.map (·.1) = t.map (fun q => HM.sks q.1) ∧
      ∀ ks : List Str, (match List.lookup ks t with
        | some dd => ∃ p : Addr × Value, atKey xs (HM.sks ks) = some p ∧ KDa G.K p.2 dd
        | none => atKey xs (HM.sks ks) = none)
  | _, _, .nil => ⟨[], rfl, (fun _ m => by cases m), rfl, fun ks => rfl⟩
  | _, _, .cons (e := e) (q := q) (t := t) he r => by
    obtain ⟨xs, h1, h2, h3, h4⟩ := r.rows kin
    obtain ⟨⟨a, dd, its, n, sl, k1, k2, k3⟩, kv, kh⟩ := he
    refine ⟨(HM.sks q.1, a, e.val) :: xs, ?_, ?_, ?_, ?_⟩
    · rw [List.map_cons, h1]
      congr 1
      obtain ⟨eh, ek, ev⟩ := e
      cases k1
      cases kh
      rfl
    · intro x hx
      rcases List.mem_cons.mp hx with rfl | hx
      · exact ⟨_, its, n, kin _ _ k2, rfl, rfl, HM.strsB_ok k3⟩
      · exact h2 x hx
    · rw [List.map_cons, List.map_cons, h3]
    · intro ks
      by_cases hk : ks = q.1
      · subst hk
        have e1 : List.lookup q.1 (q :: t) = some q.2 := by
          obtain ⟨q1, q2⟩ := q
          simp [List.lookup]
        rw [e1]
        exact ⟨(a, e.val), by simp [atKey], kv⟩
      · have e1 : List.lookup ks (q :: t) = List.lookup ks t := by
          obtain ⟨q1, q2⟩ := q
          have b1 : (ks == q1) = false := by simpa using hk
          simp [List.lookup, b1]
        have e2 : atKey ((HM.sks q.1, a, e.val) :: xs) (HM.sks ks) = atKey xs (HM.sks ks) := by
          have ne : ¬ HM.sks q.1 = HM.sks ks := fun z => hk (HM.inj_sks z).symm
          simp [atKey, List.find?_cons, ne]
        rw [e1]
        have q' := h4 ks
        cases hl : List.lookup ks t with
        | some dd => rw [hl] at q'; rw [e2]; exact q'
        | none => rw [hl] at q'; rw [e2]; exact q'
theorem nodup_sks : ∀ {l : List (List Str)}, l.Nodup → (l.map HM.sks).Nodup := fun h => List.Pairwise.map _ (fun a b hab e => hab (HM.inj_sks e)) h
variable {G : Gm} {k : Nat} {sc : Sx} {N : List Str}
/-- the key that stands in the heap -/
theorem strs_items {P : Program} {w : World} {K : PySem.W.Frag} {M : Addr → Prop} {H : Hp} : ∀ {xs : List V} {ds : List D} {its : List Value} {ks : List Str}, DaL K M H xs ds → Vals xs its → strsOf ds = some ks → ItemsAre (mixKind P w) (HM.sks ks) its
  | _, _, _, ks, .nil, .nil, e => by cases e; exact .nil
  | _, _, _, ks, .cons h t, .cons r rs, e => by
    cases h with
    | str x =>
      replace e : (strsOf _).map (x :: ·) = some ks := e
      obtain ⟨ks', e1, rfl⟩ := Option.map_eq_some_iff.mp e
      exact .cons (kV_is (k := Sum.inr x) r) (strs_items t rs e1)
    | _ => cases e
theorem key_at {X : Cx} {pins : List (Addr × Obj)} {σ : L2.St} {H : Hp} {s : Shared} {M : Addr → Prop} {b : Addr} {xs : List V} {ds : List D} {ks : List Str} (I : Inv X pins σ H s) (h : SqT X.K H b xs) (t : DaL X.K M H xs ds) (e : strsOf ds = some ks) : (HM.tk X.prog X.w).is s.heap (HM.sks ks) b := by
  obtain ⟨its, rv, ⟨o, h1, h2, n, h3⟩, hz⟩ := I.tuple h
  refine ⟨o, its.toArray, n, h1, h2, h3, ?_⟩
  simpa using strs_items (P := X.prog) (w := X.w) t rv e
theorem dict_at {X : Cx} {pins : List (Addr × Obj)} {σ : L2.St} {H : Hp} {s : Shared} {x : Str} {t : KTab3} (g : Gd G k sc N X) (h : GlT G x t) (I : Inv X pins σ H s) : ∃ (d : Addr) (xs : List (List Key × Addr × Value)), G.mg x = some (.ref d) ∧ (d == sysModules) = false ∧ s.heap.DictOfH (HM.tk X.prog X.w) d xs ∧ ∀ ks : List Str, (match List.lookup ks t with
        | some dd => ∃ p : Addr × Value, atKey xs (HM.sks ks) = some p ∧ KDa G.K p.2 dd
        | none => atKey xs (HM.sks ks) = none) := by
  obtain ⟨d, es, n, h1, h2, h3, h4⟩ := h.ex
  have kin : G.K.In s.heap := by rw [← g.hK]; exact I.kIn
  obtain ⟨xs, a1, a2, a3, a4⟩ := h4.rows kin
  refine ⟨d, xs, h1, h3, ?_, a4⟩
  rw [g.hP, g.hw]
  refine ⟨_, es, n, kin _ _ h2, ⟨rfl, rfl, rfl⟩, rfl, a1, a2, ?_⟩
  rw [a3]
  have := nodup_sks h.nd
  rwa [List.map_map] at this
def rTget (G : Gm) (d : Addr) (t : KTab3) (M : Addr → Prop) : R2 := fun x y H Q => x = .ref d ∧ ∃ b xs ds ks dd, y = .ref b ∧ SqT G.K H b xs ∧ DaL G.K M H xs ds ∧ strsOf ds = some ks ∧ List.lookup ks t = some dd ∧ ∀ v, (∀ M H, Da G.K M H v dd) → Q v H
theorem E_tget {x : Str} {t : KTab3} {b : Expr} {fb : Ev → Mn D} {p p2 : Pos} (h : GlT G x t) (hb : SE G k sc N b fb) (hg : glB sc x = true := by rfl) (hdb : (x == ("__debug__" : Str)) = false := by decide) (hs : ∀ o i, subscripted b false o i = operate [o, i] (getItem o i) := by intro _ _; rfl) :
    SE G k sc N (.Subscript (.Name x p) b p2) (dTget t fb) := by
  obtain ⟨d, _, _, hd, _⟩ := h.ex
  refine e_one (rl := fun X y H Q => ∃ M, rTget G d t M (.ref d) y H Q) hb (fun X ta g hta => pe_imp (pe_ix (r := fun x y H Q => ∃ M, rTget G d t M x y H Q) ?_ (pe_glob (v := .ref d) (gl_of g hg) (by rw [g.hmg]; exact hd) rfl hdb) hta hs) fun σ H Q q => q) fun X M H y dy dd Q g ml hy e hq => ?_
  · intro value slice pins s σ H x y v u Q I rx ry ⟨M, e1, b, xs, ds, ks, dd, e2, q1, q2, q3, q4, q5⟩ hs'
    subst e1
    subst e2
    cases (show v = Value.ref d from rx)
    cases (show u = Value.ref b from ry)
    obtain ⟨d', zs, h1, h2, h3, h4⟩ := dict_at g h I
    rw [hd] at h1
    cases h1
    have z := h4 ks
    rw [q4] at z
    obtain ⟨p, z1, z2⟩ := z
    obtain ⟨v, r, a⟩ := z2.all
    refine tail_any h3.typeIs slot_dict_getitem.lookup (wpAny_getItem_heap (tupleKind_room_in1 (by have := g.room.un; omega)) (key_at I (by rw [g.hK]; exact q1) (by rw [g.hK]; exact q2) q3) h3 z1 ?_) hs'
    exact ⟨v, H, I.tok _, r, q5 v a⟩
  · cases hy with
    | tup h1 h2 =>
      obtain ⟨ks, e1, e2⟩ := Option.bind_eq_some_iff.mp (show (strsOf _).bind (fun ks => List.lookup ks t) = some dd from e)
      exact ⟨M, rfl, _, _, _, ks, dd, rfl, h1, h2, e1, e2, fun v a => hq v H (.refl _) (a M H)⟩
    | _ => cases e
def rTnin (G : Gm) (d : Addr) (t : KTab3) (M : Addr → Prop) : R2 := fun x y H Q => y = .ref d ∧ ∃ b xs ds ks, x = .ref b ∧ SqT G.K H b xs ∧ DaL G.K M H xs ds ∧ strsOf ds = some ks ∧ Q (.bl (!(List.lookup ks t).isSome)) H
theorem T_tnin {x : Str} {t : KTab3} {b : Expr} {fb : Ev → Mn D} {p p2 : Pos} (h : GlT G x t) (hb : SE G k sc N b fb) (hg : glB sc x = true := by rfl) (hdb : (x == ("__debug__" : Str)) = false := by decide) (hm : behindInMarks .NotIn (.Name x p) = false := by rfl) :
    ST G k sc N (.Compare b [.NotIn] [.Name x p] p2) (dTnin t fb) := fun X W g tk => by
  obtain ⟨d, _, _, hd, _⟩ := h.ex
  have op : OpR X (compareOp .NotIn) (fun x y H Q => ∃ M, rTnin G d t M x y H Q) := by
    intro pins s σ H x y v u Q I rx ry ⟨M, e1, b, xs, ds, ks, e2, q1, q2, q3, q5⟩
    subst e1
    subst e2
    cases (show u = Value.ref d from ry)
    cases (show v = Value.ref b from rx)
    obtain ⟨d', zs, h1, h2, h3, h4⟩ := dict_at g h I
    rw [hd] at h1
    cases h1
    have z := h4 ks
    refine wpAny_notIn_heap (tupleKind_room_in1 (by have := g.room.un; omega)) (key_at I (by rw [g.hK]; exact q1) (by rw [g.hK]; exact q2) q3) h2 h3 ?_
    have e : (atKey zs (HM.sks ks)).isSome = (List.lookup ks t).isSome := by
      cases hl : List.lookup ks t with
      | some dd => rw [hl] at z; obtain ⟨p, z1, z2⟩ := z; rw [z1]; rfl
      | none => rw [hl] at z; rw [z]; rfl
    rw [e]
    exact ⟨.bl (!(List.lookup ks t).isSome), H, I.tok _, rfl, q5⟩
  refine pt_imp (pt_cmpR op (hb X W g tk) (pe_glob (v := .ref d) (gl_of g hg) (by rw [g.hmg]; exact hd) rfl hdb) hm) fun σ H Q h => ?_
  obtain ⟨M, r, ev, rs, R, o, rs', e, w⟩ := h
  refine tE_bnd R e w fun y rs1 H1 v R1 s1 d1 e1 w1 => ?_
  obtain ⟨c, e3, rfl, rfl⟩ := lft_some e1
  cases d1 with
  | tup h1 h2 =>
    obtain ⟨ks, e1, e2⟩ := Option.map_eq_some_iff.mp (show (strsOf _).map (fun ks => !(List.lookup ks t).isSome) = some c from e3)
    exact ⟨M, rfl, _, _, _, ks, rfl, h1, h2, e1, _, rfl, by rw [e2]; exact w1 H1 (.refl _) R1.row⟩
  | _ => cases e3
end DL
noncomputable section
namespace DL
open PySem PySem.Spec PyProof.Rows L2
variable {G : Gm} {k : Nat} {sc : Sx} {N : List Str}
/-- a, b = x.pop(): the last item, a tuple, in two names -/
def popT (t : Tgt) (i : Nat) (ev : Ev) : Option (List D × List D) := (getO ev i).bind fun ds => (ds[ds.length - 1]?).bind fun d => (t.of d).map fun es => (ds.dropLast, es)
def sPopT (t : Tgt) (i : Nat) (ev : Ev) : Ms := bnS (lft (popT t i ev)) fun q rs => some (.nx (setE (ev.set i (.own q.1)) t.ix q.2), rs)
theorem s_popT (t : Tgt) (i : Nat) {x : Str} {tg : Expr} {p1 p2 p3 p4 : Pos} (ht : PGt G k sc N tg t) (hi : N[i]? = some x := by rfl) (hv : visB sc x = true := by rfl) (hd : (x == ("__debug__" : Str)) = false := by decide) (hcd : (x == ("__classdict__" : Str)) = false := by decide)
    (hs : ∀ env, swapsWithSole [tg] (.Call (.Attribute (.Name x p1) "pop" p2) [] [] p3) p4.line env = pure false := by intro _; rfl) (hw : ∀ env, env.scope = sc.sc → swappedStores [tg] (.Call (.Attribute (.Name x p1) "pop" p2) [] [] p3) env = pure none := by intro env h; first | rfl | (cases env; cases h; rfl))
    (h1 : ∀ env, (assignEach [tg] env).map (·.2) = [assign tg env] := by intro _; rfl) (hl : (p2.endLine == p3.line) = true := by rfl) :
    SS G k sc N (.Assign [tg] (.Call (.Attribute (.Name x p1) "pop" p2) [] [] p3) p4) (sPopT t i) := fun X W g tk po => by
  obtain ⟨u, hu1, hu2⟩ := ht
  refine ps_imp (ps_asg (pe_bm0 PySem.F.plainAttrs_list PySem.F.slot_list_pop PySem.F.type_list_pop mt_pop (pe_at g hi hv hd hcd) (by rfl) hl) (hu1 X g) (hs _) (hw _ g.hsc) (h1 _)) fun D σ H h => ?_
  obtain ⟨M, r, Pr, ev, rs, oa, R, o, rs', e, w⟩ := h
  rcases bnS_some e with ⟨q, rs1, e1, e2⟩ | ⟨_, _, e1, rfl⟩
  · cases e2
    obtain ⟨q', e3, e4, rfl⟩ := lft_some e1
    cases e4
    obtain ⟨ds, hg, e5⟩ := Option.bind_eq_some_iff.mp e3
    obtain ⟨d, hz, e6⟩ := Option.bind_eq_some_iff.mp e5
    obtain ⟨es, he, e7⟩ := Option.map_eq_some_iff.mp e6
    cases e7
    obtain ⟨xs, a1, a2, a3, a5⟩ := R.at1 hg
    obtain ⟨v, hv, dv⟩ := a3.get_last hz
    refine ⟨_, a1, .inl ⟨rfl, _, .of a2⟩, _, xs, v, rfl, rfl, a2, hv, ?_⟩
    have R' := R.mut (getO_some hg) a3.dropLast
    have io : isOwn ev i := ⟨ds, getO_some hg⟩
    have kp : Kp (Av M ev oa) H (upd H (oa i) (.lst xs.dropLast)) := fun b o n e => by rw [upd_ne fun z => n (.inr ⟨i, io, z⟩)]; exact e
    have sub : ∀ b, Av M (ev.set i (.own ds.dropLast)) oa b → Av M ev oa b := fun b m => m.elim .inl fun ⟨j', ⟨fs, o⟩, e⟩ => by
      by_cases hj : i = j'
      · subst hj; exact .inr ⟨i, io, e⟩
      · rw [List.getElem?_set_ne hj] at o; exact .inr ⟨j', ⟨fs, o⟩, e⟩
    exact hu2 _ _ _ _ _ _ _ ((dv.kp R.e.ml kp).sub sub) he fun vs hvs => w _ _ oa (R'.setL hvs)
  · obtain ⟨_, _, e4, _⟩ := lft_some e1
    cases e4
end DL
namespace DL
open PySem PySem.Spec PyProof.Rows L2
theorem meets_enumT {v : Value} {o : Obj} {Hh : Heap → Prop} (B : Begins v o Hh) :
    Meets (Builtin.«enumerate.__new__» ⟨[.type "enumerate", v], []⟩) (fun _ Rr s => Hh s.heap ∧ Rr (.ok (.ret (.ref (s.heap.push o).objs.size))) { s with heap := (s.heap.push o).push { cls := .type "enumerate", data := .fields #[.none, .bool false, .ref s.heap.objs.size, rawInt 0, .none, .none] } }) :=
  .of_wp fun prog w A Rr s h => by
    obtain ⟨hp, g0, d0, tk0, os0⟩ := s
    obtain ⟨b1, h⟩ := h
    have hsub0 := sub_enumerate
    have itr : ∀ {A' : Around} {E' : Value → Shared → Prop} {Q' : Value → Shared → Prop}, Q' (.ref hp.objs.size) ⟨hp.push o, g0, d0, tk0, os0⟩ → wpAny (model prog w) A' (pyIter v) Q' E' ⟨hp, g0, d0, tk0, os0⟩ := fun q => B.iter prog w _ _ ⟨hp, g0, d0, tk0, os0⟩ _ b1 q
    wp_walk using itr
    refine wpAny_stack_any fun st0 => wpAny_pure ?_
    split
    · rename_i c0 _ _ _ _ _
      cases (c0 == Value.type "enumerate")
      · wp_walk using itr
        exact ⟨_, rfl, h⟩
      · wp_walk using itr
        exact ⟨_, rfl, h⟩
    · wp_walk using itr
      exact ⟨_, rfl, h⟩
theorem call_enumT {prog : Program} {w : World} {A : Around} {E : Value → Shared → Prop} {s : Shared} {v : Value} {o : Obj} {Hh : Heap → Prop} {Q : Value → Shared → Prop} (B : Begins v o Hh) (b1 : Hh s.heap)
    (h : ∀ h', IsEnum h' (s.heap.objs.size + 1) s.heap.objs.size 0 .none → h'.get? s.heap.objs.size = some o → (∀ b ob, s.heap.get? b = some ob → h'.get? b = some ob) → Q (.ref (s.heap.objs.size + 1)) { s with heap := h' }) :
    wpAny (model prog w) A (call (.type "enumerate") [v]) Q E s := by
  refine callType_new F.called_enumerate (by decide) (F.typeCall_enumerate_1 _) (F.newCall_enumerate_1 _) (fun ob => F.args_object_init_2 ob _) F.entry_enumerate_new (meets_enumT B) ⟨b1, ?_⟩
  have sz1 : (s.heap.push o).objs.size = s.heap.objs.size + 1 := Heap.size_push ..
  show _ ∧ _
  rw [sz1]
  generalize hE : ({ cls := .type "enumerate", data := .fields #[.none, .bool false, .ref s.heap.objs.size, rawInt 0, .none, .none] } : Obj) = oE
  have fE : oE.isFreed = false := by rw [← hE]; rfl
  have he0 := Heap.get?_push_size (s.heap.push o) (o := oE) fE
  rw [sz1] at he0
  have he : IsEnum ((s.heap.push o).push oE) (s.heap.objs.size + 1) s.heap.objs.size 0 .none := by rw [IsEnum, he0, ← hE]
  exact ⟨⟨_, he, rfl⟩, h _ he (Heap.get?_push_of_some _ (Heap.get?_push_size _ B.free)) fun b ob x => Heap.get?_push_of_some _ (Heap.get?_push_of_some _ x)⟩
/-- the tuple at a, each item in a new pair with its number -/
def IteT (K : PySem.W.Frag) (a : Addr) : It :=
  ⟨fun i H => ∃ (ys : List V) (y : V), SqT K H a ys ∧ ys[i]? = some y,
   fun i H v H' => ∃ T y, v = .ref T ∧ H T = none ∧ H' = upd H T (.tup [.int (i : Nat), y]) ∧ ∀ ys, SqT K H a ys → ys[i]? = some y,
   fun i H => ∃ ys : List V, SqT K H a ys ∧ ys.length = i⟩
theorem turn_enumT {P : Program} {w : World} {K : PySem.W.Frag} {elts : List Expr} {kk : Nat} {tpos : Pos} (a e it : Addr) :
    Turn P w K (.Tuple elts kk tpos) (IteT K a) [e, it] e (fun i h => (∃ old, IsEnum h e it ((i : Nat) : Int) old) ∧ h.IsTupleIter it a i ∧ e ≠ it ∧ e ≠ a ∧ a ≠ it) where
  mem := by simp
  obj := fun i h st b hb => by
    obtain ⟨⟨old, en⟩, ⟨o, ho, hc, hd⟩, _⟩ := st
    rcases (show b = e ∨ b = it by simpa using hb) with z | z
    · rw [z]; exact ⟨_, en, fun v q => nomatch q⟩
    · rw [z]; exact ⟨o, ho, fun v q => by rw [hd] at q; cases q⟩
  keep := fun i h h' st kp => let ⟨⟨old, en⟩, ti, ne⟩ := st; ⟨⟨old, kp e (by simp) _ en⟩, ti.at fun o q => kp it (by simp) o q, ne⟩
  item := by
    intro X hP hw hK hc i pins s σ H E I hf st hg
    subst hP hw hK
    obtain ⟨⟨old, en⟩, ti, n1, n2, n3⟩ := st
    obtain ⟨ys, y, hq, hy⟩ := hg
    obtain ⟨its, rv, p, hz⟩ := I.tuple hq
    obtain ⟨u, hu, ru⟩ := rv.get hy
    have el : e < s.heap.objs.size := Heap.lt_size en
    have il : it < s.heap.objs.size := by obtain ⟨_, q, _⟩ := ti; exact Heap.lt_size q
    have lt : i < its.toArray.size := by
      have := (List.getElem?_eq_some_iff.mp hu).1
      simpa using this
    have pt : s.heap.IsTuple a its.toArray := p
    have DD : Draws X.prog X.w X.A.in1 it [it, a] its.toArray.size (fun i v => its.toArray[i]? = some v) (fun i h => h.IsTupleIter it a i ∧ h.IsTuple a its.toArray) := Draws.tuple (show X.A.in1.handled = none from I.ok.hd hc) it a n3 its.toArray
    refine wpAny_pyNext_enum_itemD DD en ⟨ti, pt⟩ lt n1 (by simp [n1, n2]) fun x h' tk hx ho st' hT hsz hk => ?_
    have ex : x = u := by
      have hx' : its.toArray[i]? = some x := hx
      have hu' : its.toArray[i]? = some u := by simpa using hu
      rw [hx'] at hu'; cases hu'; rfl
    subst ex
    refine ⟨_, rfl, wpAny_letOwnedTupleGo_enum (s := { s with heap := h', toks := tk + 1 }) ho fun h'' en' sb => ?_⟩
    have hT2 : h''.get? s.heap.objs.size = some { cls := .type "tuple", data := .seq #[.int i tk, x] } := (sb.2 _ (Nat.ne_of_gt el)).trans hT
    have new : ObjOk X.prog X.w (upd H s.heap.objs.size (.tup [.int (i : Nat), y])) h'' s.heap.objs.size (.tup [.int (i : Nat), y]) := ⟨by show 2 ≤ sizeLine; decide, [.int i tk, x], .cons ⟨_, rfl⟩ (.cons ru .nil), ⟨_, hT2, rfl, _, rfl⟩⟩
    have I1 : Inv X pins σ (upd H s.heap.objs.size (.tup [.int (i : Nat), y])) { s with heap := h'', toks := tk + 1 } :=
      I.turnedNew (ch := [e, it]) (fun b ob hb q => (sb.2 b (fun z => hb (by simp [z]))).trans (hk b ob (fun z => hb (by simp [z])) (fun z => hb (by simp [z])) q)) hf (Nat.le_refl _) new
    refine ⟨.ref s.heap.objs.size, _, I1, rfl, ⟨_, y, rfl, I.hok.fresh (Nat.le_refl _), rfl, fun zs hzs => by rw [I.tuple_inj hzs hq]; exact hy⟩, ⟨⟨x, ?_⟩, st'.1.at fun o q => (sb.2 it (Ne.symm n1)).trans q, n1, n2, n3⟩, fun b hb => ?_⟩
    · rw [show ((i + 1 : Nat) : Int) = (i : Int) + 1 by omega]; exact en'
    · have lb : b < s.heap.objs.size := by
        rcases (show b = e ∨ b = it by simpa using hb) with z | z
        · rw [z]; exact el
        · rw [z]; exact il
      rw [upd_ne (Nat.ne_of_lt lb)]
      exact (hf b hb).1
  done := by
    intro X hP hw hK hc i pins s σ H E I hf st hg
    subst hP hw hK
    obtain ⟨⟨old, en⟩, ti, n1, n2, n3⟩ := st
    obtain ⟨ys, hq, hy⟩ := hg
    obtain ⟨its, rv, p, hz⟩ := I.tuple hq
    obtain ⟨f0, f1, f2, f3, f4, f5⟩ := hf it (by simp)
    have pt : s.heap.IsTuple a its.toArray := p
    have ln : i = its.toArray.size := by
      have := rv.length
      simp; omega
    subst ln
    have DD : Draws X.prog X.w X.A.in1 it [it, a] its.toArray.size (fun i v => its.toArray[i]? = some v) (fun i h => h.IsTupleIter it a i ∧ h.IsTuple a its.toArray) := Draws.tuple (show X.A.in1.handled = none from I.ok.hd hc) it a n3 its.toArray
    exact wpAny_pyNext_enum_endD DD en ⟨ti, pt⟩ fun h' eb => ⟨rfl, I.turned (t' := s.toks) (fun b o hb q => eb b o hb q) f0 f1 f3 f4 f5⟩
  self := fun A i s Q E st h => let ⟨⟨_, en⟩, _⟩ := st; wpAny_pyIter_enum en h
def iEnumT (K : PySem.W.Frag) (ta : TA) : TI := fun σ H R => ta σ H fun vs H1 => ∃ a ys, vs = [.ref a] ∧ SqT K H1 a ys ∧ R (IteT K a) H1
theorem pi_enumT {X : Cx} {e : Expr} {ta : TA} {p pos tpos : Pos} {elts : List Expr} {kk : Nat} (hg : Gl X "enumerate") (hm : X.mg "enumerate" = none) (ha : PA X [e] ta) (hs : starEach [e] X.env = [(false, eval e X.env)] := by rfl) :
    PI X (.Tuple elts kk tpos) (.Call (.Name "enumerate" p) [e] [] pos) (iEnumT X.K ta) := by
  refine ⟨fun pins s σ H R I h => ?_⟩
  refine Call_ (ld_blt I hg hm boot_enumerate (PyProof.Rows.callWith_type1 (thn (ha.run pos pins s σ H _ I h) fun us s1 ⟨vs, H1, I1, r1, q1⟩ => ?_) hs rfl))
  obtain ⟨a, ys, ex, hq, q⟩ := q1
  subst ex
  cases r1 with
  | cons r rr =>
    cases rr
    cases r
    obtain ⟨its, rv, pp, hz⟩ := I1.tuple hq
    have pt : s1.heap.IsTuple a its.toArray := pp
    have la : a < s1.heap.objs.size := by obtain ⟨_, z, _⟩ := pt; exact Heap.lt_size z
    refine call_enumT (begins_tuple a its.toArray) pt fun h' en ti hk => wpAny_pyIter_enum en ?_
    have I2 : Inv X pins σ H1 { s1 with heap := h' } := I1.kept (t' := s1.toks) hk
    refine ⟨s1.heap.objs.size + 1, [s1.heap.objs.size + 1, s1.heap.objs.size], _, _, H1, rfl, I2, turn_enumT a (s1.heap.objs.size + 1) s1.heap.objs.size, ⟨⟨.none, en⟩, ⟨_, ti, rfl, rfl⟩, Nat.succ_ne_self _, Nat.ne_of_gt (Nat.lt_succ_of_lt la), Nat.ne_of_lt la⟩, fun b hb => ?_, q⟩
    have lb : s1.heap.objs.size ≤ b := by
      rcases (show b = s1.heap.objs.size + 1 ∨ b = s1.heap.objs.size by simpa using hb) with z | z
      · rw [z]; exact Nat.le_add_right _ _
      · rw [z]; exact Nat.le_refl _
    exact I1.fpOk lb (I1.hok.fresh lb)
section
variable {K : PySem.W.Frag} {M M' : Addr → Prop} {H H1 H' : Hp} {G : Gm} {k : Nat} {sc : Sx} {N : List Str}
def enumTD : List D → Option (List D)
  | [.tuple xs] => some (((List.range xs.length).zip xs).map fun p => .tuple [.int (p.1 : Nat), p.2])
  | _ => none
theorem jok_enumT {a : Addr} {vs : List V} {xs : List D} (ml : Ml M H1) (h : SqT K H1 a vs) (t : DaL K M H1 vs xs) :
    JOk K M (IteT K a) H1 (((List.range xs.length).zip xs).map fun p => .tuple [.int (p.1 : Nat), p.2]) where
  go := fun H' kp i d e => by
    obtain ⟨x, e1, rfl⟩ := enum_get e
    obtain ⟨v, h1, _⟩ := t.get e1
    exact ⟨vs, v, sqt_kp h ml kp, h1⟩
  yld := fun M' H' kp m i d x H'' e y => by
    obtain ⟨dx, e1, rfl⟩ := enum_get e
    obtain ⟨T, v, rfl, nn, e3, q1⟩ := y
    exact new_pair nn e3 (.int _) ((t.get' (q1 _ (sqt_kp h ml kp)) e1).on ml m kp)
  stop := fun H' kp => ⟨vs, sqt_kp h ml kp, by rw [t.length, List.length_map, List.length_zip, List.length_range]; omega⟩
theorem i_enumT {a : Expr} {f : Ev → Mn (List Slot)} {es : List Expr} {j : Nat} {tp p pos : Pos} (h : SA G k sc N [a] f) (hm : Mg0 G "enumerate") (hg : glB sc "enumerate" = true := by rfl) (hs : ∀ env, starEach [a] env = [(false, eval a env)] := by intro _; rfl) :
    SI G k sc N (.Tuple es j tp) (.Call (.Name "enumerate" p) [a] [] pos) (dRng enumTD f) := fun X W g tk => by
  refine pi_imp (pi_enumT (gl_of g hg) (by rw [g.hmg]; exact hm) (h X W g tk) (hs _)) fun σ H Q h => ?_
  obtain ⟨M, r, ev, rs, R, o, rs', e, w⟩ := h
  refine tAr_bnd R e w fun ss rs1 H1 vs R1 s1 d1 e1 w1 => ?_
  obtain ⟨ds, e3, rfl, rfl⟩ := lft_some e1
  obtain ⟨as, q, e4⟩ := Option.bind_eq_some_iff.mp e3
  rw [g.hK]
  unfold enumTD at e4
  split at e4
  · cases e4
    obtain ⟨v, rfl, h1⟩ := one_da (d1.dats q)
    cases h1 with
    | tup q1 t1 => exact ⟨_, _, rfl, q1, w1 H1 (.refl _) R1.row R1.ml _ (jok_enumT R1.ml q1 t1)⟩
  · cases e4
end
end DL
namespace DL
open PySem PySem.Spec PyProof.Rows L2
variable {G : Gm} {k : Nat} {sc : Sx} {N : List Str}
/-- the greatest of a list of whole numbers -/
def topI : List Int → Int
  | [] => 0
  | [a] => a
  | a :: r => max a (topI r)
theorem topI_ge : ∀ {l : List Int} {y : Int}, y ∈ l → y ≤ topI l
  | [a], y, h => by cases h with
    | head => exact Int.le_refl _
    | tail _ h => cases h
  | a :: b :: r, y, h => by
    show y ≤ max a (topI (b :: r))
    rcases List.mem_cons.mp h with e | h
    · rw [e]; omega
    · have := topI_ge h; omega
theorem topI_mem : ∀ {l : List Int}, l ≠ [] → topI l ∈ l
  | [a], _ => by simp [topI]
  | a :: b :: r, _ => by
    have h := topI_mem (l := b :: r) (by simp)
    show max a (topI (b :: r)) ∈ _
    rcases Int.le_total a (topI (b :: r)) with q | q
    · rw [Int.max_eq_right q]; exact List.mem_cons_of_mem _ h
    · rw [Int.max_eq_left q]; exact List.mem_cons_self ..
theorem topI_un {l : List Int} {m : Int} (h1 : m ∈ l) (h2 : ∀ y, y ∈ l → y ≤ m) : m = topI l := by
  have a := topI_ge h1
  have b := h2 _ (topI_mem (l := l) (fun e => by rw [e] at h1; cases h1))
  omega
def maxLD : List D → Option D
  | [.list ds] => (intsD ds).bind fun ns => if ns = [] then none else some (.int (topI ns))
  | _ => none
theorem e_maxL {e : Expr} {f : Ev → Mn (List Slot)} {p pos : Pos} (ha : SA G k sc N [e] f) (hm : Mg0 G "max") (hg : glB sc "max" = true := by rfl) (he : ∀ env, starEach [e] env = (false, eval e env) :: starEach [] env := by intro _; rfl) :
    SE G k sc N (.Call (.Name "max" p) [e] [] pos) (dFn maxLD f) :=
  e_blt ha (fun X g => cr_max g.calm) (fun X M H vs ds d Q g ml h e hq => by
    unfold maxLD at e
    split at e
    · rename_i ds'
      obtain ⟨v, rfl, h1⟩ := one_da h
      cases h1 with
      | lst h2 n t =>
        obtain ⟨ns, q1, q2⟩ := Option.bind_eq_some_iff.mp e
        split at q2
        · cases q2
        · rename_i ne
          cases q2
          have e2 := ints_da t q1
          subst e2
          refine ⟨_, ns, rfl, .of h2, ?_, fun m h3 h4 => ?_⟩
          · cases ns with
            | nil => exact absurd rfl ne
            | cons a r => exact Nat.succ_pos _
          · rw [topI_un h3 h4]; exact hq _ H (.refl _) (.int _)
    · cases e) (by decide +kernel) hm hg (by decide) (by decide) he (fun _ => rfl)
end DL
namespace DL
open PySem PySem.Spec PyProof.Rows L2
section
variable {ev : Ev}
@[simp] theorem dTget_eq (t : KTab3) (f : Ev → Mn D) : dTget t f ev = bnd (f ev) fun y => lft (tgetD t y) := rfl
@[simp] theorem dTnin_eq (t : KTab3) (f : Ev → Mn D) : dTnin t f ev = bnd (f ev) fun y => lft (tninD t y) := rfl
@[simp] theorem sPopT_eq (t : Tgt) (i : Nat) : sPopT t i ev = bnS (lft (popT t i ev)) fun q => nxM (setE (ev.set i (.own q.1)) t.ix q.2) := rfl
@[simp] theorem dLast_eq (e : Ev → Mn D) : dLast e ev = bnd (nox (e ev)) fun x => pur [x] := rfl
@[simp] theorem dMid_eq (src : Ev → Mn (List D)) (vs : List Nat) (rest : Ev → Mn (List D)) (t : Tgt) (c : Ev → Mn Bool) : dMid src vs rest t c ev = bnd (nox (src ev)) fun ds => gnGo rest t c (wipeE ev vs) ds := rfl
@[simp] theorem dCompN_eq (own : List Nat) (src rest : Ev → Mn (List D)) (t : Tgt) (c : Ev → Mn Bool) : dCompN own src rest t c ev = bnd (src ev) fun ds => bnd (gnGo rest t c (wipeE ev own) ds) fun out => lft (if out.length ≤ sizeLine then some (.list out) else none) := rfl
@[simp] theorem gnGo_nil (rest : Ev → Mn (List D)) (t : Tgt) (c : Ev → Mn Bool) : gnGo rest t c ev [] = pur [] := rfl
/-- each turn gives a list: all together -/
theorem gnGo_on {α : Type} {rest : Ev → Mn (List D)} {t : Tgt} (dd : α → D) (gg : α → List D) : ∀ (L : List α), (∀ a ∈ L, ∃ es, t.of (dd a) = some es ∧ rest (setE ev t.ix es) = pur (gg a)) → gnGo rest t dYes ev (L.map dd) = pur (L.flatMap gg)
  | [], _ => rfl
  | a :: L, h => by
    obtain ⟨es, h1, h2⟩ := h a (by simp)
    have ih := gnGo_on dd gg L fun x hx => h x (by simp [hx])
    show bnd (lft (t.of (dd a))) _ = _
    rw [h1]
    show bnd (nox (rest (setE ev t.ix es))) _ = _
    rw [h2]
    show bnd (nox (gnGo rest t dYes ev (L.map dd))) _ = _
    rw [ih]
    rfl
end
end DL
namespace DL
open PySem PySem.Spec PyProof.Rows L2
section
variable {G : Gm} {k : Nat} {sc : Sx} {N : List Str}
/-- x = [.. for ..] on one line, x a plain local -/
theorem P_setLc (i : Nat) {x : Str} {elt tg iter : Expr} {ifs : List Expr} {scope : Scope} {pos p p' : Pos} {fi : Ev → Mn (List D)} {t : Tgt} {fc : Ev → Mn Bool} {fe : Ev → Mn D} (own : List (Str × Nat)) (hi0 : SI G k sc N tg iter fi) (ht : PGt G k (sc.blk scope) N tg t) (hc : SP1 G k (sc.blk scope) N ifs fc) (he : SE G k (sc.blk scope) N elt fe)
    (hb : blkC N sc.sc scope own = true := by decide +kernel) (hix : ∀ i ∈ t.ix, i ∈ own.map (·.2) := by decide) (hi : N[i]? = some x := by rfl) (hl : plocB sc x = true := by rfl) (hkind : sc.sc.kind = .function := by rfl) (hline : (p'.line == pos.line) = true := by rfl) (hno : (scope.names.any fun (n, k) => n == x && (k == .local || k == .cell)) = false := by decide +kernel)
    (hs : ∀ env x, foldedSetIterable iter env x = pure x := by intro _ _; rfl) :
    SS G k sc N (.Assign [.Name x p'] (.ListComp elt [⟨tg, iter, ifs, 0⟩] scope pos) p) (pSet i (dComp (own.map (·.2)) fi t fc fe)) := fun X W g tk po => by
  have ok : BlkOk X.N X.env.scope scope own := by
    rw [g.hN, g.hsc]
    exact blkOk_by hb
  have nd : X.N.Nodup := by rw [g.hN]; exact g.nd
  obtain ⟨u, hu1, hu2⟩ := ht
  have pl : X.env.scope.names.lookup x = some .local := ploc_of g hl
  refine ps_imp (ps_setLc (i := i) (own := own) g.calm nd (by rw [g.hN]; exact hi) pl (sw_true (by rw [g.hsc]; exact hkind) pl hline hno) (hi0 X W g tk) ok (fun s H C cl fp => hu1 _ (g.blk s H scope cl C fp)) (fun s H C cl fp => hc _ W0 (g.blk s H scope cl C fp) L2.takes0) (fun s H C cl fp => he _ W0 (g.blk s H scope cl C fp) L2.takes0) (hs _)) fun D σ H h => ?_
  refine lc_imp (W := W) g hu2 hix _ _ _ ?_
  obtain ⟨M, r, Pr, ev, rs, oa, R, o, rs', e, w⟩ := h
  rcases bnS_some e with ⟨d, rs1, e1, e2⟩ | ⟨x, j, e1, rfl⟩
  · cases e2
    exact R.evE R.e (fun b m => .inl m) e1 (fun d' ed v H' R' s dv => by cases ed; exact w _ _ oa (R'.set1 dv)) fun _ _ ed => by cases ed
  · exact R.evE R.e (fun b m => .inl m) e1 (fun _ ed => by cases ed) fun y j ed => by cases ed; exact w
end
end DL
noncomputable section
namespace HM
open PySem PySem.W PySem.Calls PyProof.Rows HandSHeadRun DL
open L2 (defArgs defBody defScope)
/-- the two runs, each for itself -/
def MainP (r : OpenRow) (q : Program) (loose : List Str) (F : Spec1) (n0 N : Nat) (l1 l2 : List Stmt) (tg : PySem.Expr) (keys : List (Option PySem.Expr)) (values : List PySem.Expr) (pos2 : Pos) (w : World) : Prop :=
  ∀ os pX, (fromBoot w os fun s0 => (full (denQ tabQ) r.prog w (tk r.prog w).hash (partsBy rdQ r.prog l1 l2 tg keys values pos2) N s0 pX).map fun x =>
      (x.2.2, looksF r.prog (boot_heap w.params) x.1.abs, seenQ q loose (importedModules r.prog.main.body) (fun s => xlAt q [] s && recOk r.toRowW.records s) x.1.abs, obT F n0 x.1, x.1.life, x.1.os, keptL n0 (getT x.1))) =
    some (true, true, openGood q loose, valK F r.prog w, (boot_heap w.params).life, os, keptL n0 (boot_heap w.params).get?)
def DictP (r : OpenRow) (N : Nat) (l1 l2 : List Stmt) (tg : PySem.Expr) (keys : List (Option PySem.Expr)) (values : List PySem.Expr) (pos2 : Pos) (w : World) : Prop :=
  ∀ os pX, (fromBoot w os fun s0 => (full (denQ tabQ) r.prog w (tk r.prog w).hash (partsBy rdQ r.prog l1 l2 tg keys values pos2) N s0 pX).map fun x => x.2.1.map (·.1)) =
    (fromBoot w os fun s0 => (full (denQ tabQ) r.prog w (tk r.prog w).hash (partsBy rdQ r.prog l1 l2 tg keys values pos2) N s0 pX).map fun x => x.2.1.map (·.2))
theorem runs_of {r : OpenRow} {q : Program} {loose : List Str} {F : Spec1} {n0 N : Nat} {l1 l2 : List Stmt} {tg : PySem.Expr} {keys : List (Option PySem.Expr)} {values : List PySem.Expr} {pos2 : Pos} {w : World} (a : (boot_heap w.params).objs.size = n0)
    (b : MainP r q loose F n0 N l1 l2 tg keys values pos2 w) (c : DictP r N l1 l2 tg keys values pos2 w) : Runs1 r q loose F n0 N l1 l2 tg keys values pos2 w := ⟨a, b, c⟩
section
variable {F : Spec1} {P : Program} {w : World} {K : PySem.W.Frag} {h base : Heap} {mg : Str → Option Value}
theorem says_all (c : obsK F K = valK F P w) : (F.facts.all (Fc.ok K) && (F.tds.all (fun q => (He.Fa.glo q.1).ok K && (match dicAt K q.1 with
    | some es => kesB K es.toList q.2
    | none => false)) && F.tts.all (fun q => (He.Fa.glo q.1).ok K && (match dicAt K q.1 with
    | some es => ketB K es.toList q.2
    | none => false)))) = true := congrArg (fun z : Al1 => z.1) c
theorem fact (c : obsK F K = valK F P w) (i : Nat) {f : Fc} (hf : F.facts[i]? = some f := by rfl) : f.ok K = true :=
  List.all_eq_true.mp (Bool.and_eq_true_iff.mp (says_all c)).1 f (List.mem_of_getElem? hf)
theorem f_no (X : K.In h) (Gn : h.Ns mainGlobals mg) {x : Str} (c : (Fc.no x).ok K = true) : mg x = none := PySem.W.mg_none_of X Gn (He.eqO_ok c)
theorem f_con (X : K.In h) (Gn : h.Ns mainGlobals mg) {x : Str} {d : D} (c : (Fc.con x d).ok K = true) : GlD ⟨P, w, K, mg, base⟩ x d := by
  replace c : (match PySem.W.nsIn K mainGlobals x with
    | some (some u) => kdaB K 9 u d
    | _ => false) = true := c
  cases e : PySem.W.nsIn K mainGlobals x with
  | none => rw [e] at c; cases c
  | some o =>
    cases o with
    | none => rw [e] at c; cases c
    | some u =>
      rw [e] at c
      exact GlD.mk' (G := ⟨P, w, K, mg, base⟩) (PySem.W.mg_of X Gn e) (kda_ok c)
theorem f_ex (X : K.In h) (Gn : h.Ns mainGlobals mg) {x : Str} (c : (Fc.ex x).ok K = true) : ExcF ⟨P, w, K, mg, base⟩ x := by
  obtain ⟨c1, c2⟩ := Bool.and_eq_true_iff.mp (show ((He.Fa.glo x).ok K && (He.Fa.exc x).ok K) = true from c)
  obtain ⟨h1, h2, h3, h4⟩ := He.exc_ok c2
  exact ExcF.mk' (G := ⟨P, w, K, mg, base⟩) (He.glo_ok X Gn c1) h1 h2 h3 h4
theorem fn_at (c : obsK F K = valK F P w) (i : Nat) {d : He.FnD} (hd : F.fns[i]? = some d) : He.fnObs K d.at_ = d.val := by
  have e : F.fns.map (fun d => He.fnObs K d.at_) = F.fns.map He.FnD.val := congrArg (fun z : Al1 => z.2.1) c
  have e2 : (F.fns.map fun d => He.fnObs K d.at_)[i]? = (F.fns.map He.FnD.val)[i]? := by rw [e]
  rw [List.getElem?_map, List.getElem?_map, hd] at e2
  exact Option.some.inj e2
abbrev fnd (x : Str) (st : Stmt) : He.FnD := ⟨(x, none), x, x, defArgs st, defBody st, defScope st⟩
theorem f_fun (X : K.In h) (Gn : h.Ns mainGlobals mg) {x : Str} {st : Stmt} (c : obsK F K = valK F P w) (i j : Nat) (hi : F.fns[i]? = some (fnd x st)) (hj : F.facts[j]? = some (.fn x)) :
    ∃ oc od osl kV doc pm an cdv ct, mg x = some (.ref (He.ga K x)) ∧ K.lookup (He.ga K x) = some ⟨oc, od, .func (PySem.W.fnOf x x (defArgs st) (defBody st) (defScope st) .none kV doc pm an cdv ct), osl⟩ ∧ PySem.W.codeIn K cdv x = true ∧ PySem.W.keepIn K (.ref (He.ga K x)) = true := by
  have q := fact c j hj
  obtain ⟨c1, q⟩ := Bool.and_eq_true_iff.mp (show ((He.Fa.glo x).ok K && ((He.Fa.keep x).ok K && (He.Fa.code (x, none) x).ok K)) = true from q)
  obtain ⟨c2, c3⟩ := Bool.and_eq_true_iff.mp q
  obtain ⟨oc, od, osl, kV, doc, pm, an, cdv, ct, l, cd⟩ := He.fn_ok (d := fnd x st) (fn_at c i hi) c3
  exact ⟨oc, od, osl, kV, doc, pm, an, cdv, ct, He.glo_ok X Gn c1, l, cd, c2⟩
theorem f_has (X : K.In h) (Gn : h.Ns mainGlobals mg) {x : Str} {st : Stmt} {ps : List Str} (c : obsK F K = valK F P w) (i j : Nat) (hi : F.fns[i]? = some (fnd x st)) (hj : F.facts[j]? = some (.fn x))
    (b : ∀ (kV doc pm : Value) (an : Option Addr) (cdv ct : Value) (us : List Value), us.length = ps.length → bindArgs (PySem.W.fnOf x x (defArgs st) (defBody st) (defScope st) .none kV doc pm an cdv ct) ⟨us, []⟩ = pure (ps.zip us)) : HasF ⟨P, w, K, mg, base⟩ x st ps := by
  obtain ⟨oc, od, osl, kV, doc, pm, an, cdv, ct, h1, h2, h3, h4⟩ := f_fun X Gn c i j hi hj
  exact HasF.mk' (G := ⟨P, w, K, mg, base⟩) h1 h2 h3 h4 b
theorem dic_ok {x : Str} {es : Array DictEntry} (hd : dicAt K x = some es) : ∃ n, K.lookup (He.ga K x) = some ⟨.type "dict", none, .dict es n, #[]⟩ ∧ ((He.ga K x) == sysModules) = false := by
  unfold dicAt at hd
  split at hd
  · rename_i T es' n sl e
    split at hd
    · rename_i hb
      cases hd
      obtain ⟨b1, b2⟩ := Bool.and_eq_true_iff.mp hb
      obtain ⟨b2, b3⟩ := Bool.and_eq_true_iff.mp b2
      have eT : T = "dict" := of_decide_eq_true b1
      subst eT
      have es0 : sl = #[] := by simpa using b2
      subst es0
      refine ⟨n, e, ?_⟩
      cases z : ((He.ga K x) == sysModules) with
      | false => rfl
      | true => rw [z] at b3; cases b3
    · cases hd
  · cases hd
theorem f_td (X : K.In h) (Gn : h.Ns mainGlobals mg) {x : Str} {tb : KTab} (c : obsK F K = valK F P w) (i : Nat) (hi : F.tds[i]? = some (x, tb)) : GlK ⟨P, w, K, mg, base⟩ x tb := by
  obtain ⟨a1, _⟩ := Bool.and_eq_true_iff.mp (Bool.and_eq_true_iff.mp (says_all c)).2
  have a2 := List.all_eq_true.mp a1 _ (List.mem_of_getElem? hi)
  obtain ⟨g1, g2⟩ := Bool.and_eq_true_iff.mp a2
  have e : F.tds.map (fun q => (dicAt K q.1).map fun es => es.toList.map He.keyOf) = F.tds.map (fun q => some (He.keysIn w.params (q.2.map (·.1)))) := congrArg (fun z : Al1 => z.2.2.1) c
  have e2 : (F.tds.map (fun q => (dicAt K q.1).map fun es => es.toList.map He.keyOf))[i]? = (F.tds.map (fun q => some (He.keysIn w.params (q.2.map (·.1)))))[i]? := by rw [e]
  rw [List.getElem?_map, List.getElem?_map, hi] at e2
  have e3 := Option.some.inj e2
  cases hd : dicAt K x with
  | none => rw [hd] at g2; cases g2
  | some es =>
    rw [hd] at g2
    have e4 : (dicAt K x).map (fun es => es.toList.map He.keyOf) = some (He.keysIn w.params (tb.map (·.1))) := e3
    rw [hd] at e4
    obtain ⟨n, l1, l2⟩ := dic_ok hd
    exact GlK.mk' (G := ⟨P, w, K, mg, base⟩) (He.glo_ok X Gn g1) l1 (He.keysLit_of (Option.some.inj e4)) l2 (kes_ok g2)
theorem ket_ok : ∀ {es : List DictEntry} {t : KTab3}, ketB K es t = true → es.map (·.hash) = t.map (fun z => (tk P w).hash (sks z.1)) → KEs2 ⟨P, w, K, mg, base⟩ es t
  | [], [], _, _ => .nil
  | [], _ :: _, h, _ => by cases h
  | _ :: _, [], h, _ => by cases h
  | e :: es, q :: t, h, hh => by
    obtain ⟨h1, h2⟩ := Bool.and_eq_true_iff.mp h
    rw [List.map_cons, List.map_cons] at hh
    injection hh with hh1 hh2
    refine .cons ?_ (ket_ok h2 hh2)
    dsimp only at h1
    split at h1
    · rename_i a ek
      split at h1
      · rename_i T dd its m sl el
        obtain ⟨b1, h1⟩ := Bool.and_eq_true_iff.mp h1
        obtain ⟨b2, h1⟩ := Bool.and_eq_true_iff.mp h1
        obtain ⟨b3, b4⟩ := Bool.and_eq_true_iff.mp h1
        have eT : T = "tuple" := of_decide_eq_true b1
        subst eT
        exact ⟨⟨a, dd, its, m, sl, ek, el, b3⟩, kda_ok b4, hh1⟩
      · cases h1
    · cases h1
theorem f_tt (X : K.In h) (Gn : h.Ns mainGlobals mg) {x : Str} {tb : KTab3} (c : obsK F K = valK F P w) (i : Nat) (hi : F.tts[i]? = some (x, tb)) (nd : (tb.map (·.1)).Nodup) : GlT ⟨P, w, K, mg, base⟩ x tb := by
  obtain ⟨_, a1⟩ := Bool.and_eq_true_iff.mp (Bool.and_eq_true_iff.mp (says_all c)).2
  have a2 := List.all_eq_true.mp a1 _ (List.mem_of_getElem? hi)
  obtain ⟨g1, g2⟩ := Bool.and_eq_true_iff.mp a2
  have e : F.tts.map (fun q => (dicAt K q.1).map fun es => es.toList.map (·.hash)) = F.tts.map (fun q => some (q.2.map fun z => (tk P w).hash (sks z.1))) := congrArg (fun z : Al1 => z.2.2.2) c
  have e2 : (F.tts.map (fun q => (dicAt K q.1).map fun es => es.toList.map (·.hash)))[i]? = (F.tts.map (fun q => some (q.2.map fun z => (tk P w).hash (sks z.1))))[i]? := by rw [e]
  rw [List.getElem?_map, List.getElem?_map, hi] at e2
  have e3 := Option.some.inj e2
  cases hd : dicAt K x with
  | none => rw [hd] at g2; cases g2
  | some es =>
    rw [hd] at g2
    have e4 : (dicAt K x).map (fun es => es.toList.map (·.hash)) = some (tb.map fun z => (tk P w).hash (sks z.1)) := e3
    rw [hd] at e4
    obtain ⟨n, l1, l2⟩ := dic_ok hd
    exact ⟨⟨_, es, n, He.glo_ok X Gn g1, l1, l2, ket_ok g2 (Option.some.inj e4)⟩, nd⟩
end
end HM
namespace K01
open PySem PySem.Spec PyProof.Rows L2 DL
abbrev topS (j : Nat) : Stmt := PySem.Challenge.pw_queryheld_k01_whole_least_differences.main.body.getD j (.Pass ⟨0, 0, 0, 0⟩)
def c_WORDS : D := (.tuple [(.tuple [(.str "bag"), (.str "set")]), (.tuple [(.str "maximum"), (.str "sum")]), (.tuple [(.str "count"), (.str "kind")]), (.tuple [(.str "none"), (.str "unknown"), (.str "value")]), (.tuple [(.str "null"), (.str "zero")])])
def c_DUPLICATES : D := (.int 0)
def c_UNION : D := (.int 1)
def c_DIFFERENCE : D := (.int 2)
def c_NULLS : D := (.int 3)
def c_CONNECTIVES : D := (.tuple [(.str "not"), (.str "and"), (.str "or")])
def c_MOST_LEAVES : D := (.int 6)
def c_MOST_TUPLES : D := (.int 30)
def c_GREATEST_COUNT : D := (.int 99)
def c_CASE_LENGTH : D := (.int 4)
def k_GREATEST : KTab := [("column", (.int 1)), ("number", (.int 9)), ("place", (.int 1))]
def t_FORMS : KTab3 := [(["filter", "less"], (.tuple [(.str "column"), (.str "number")])), (["filter", "equal"], (.tuple [(.str "column"), (.str "number")])), (["filter", "same"], (.tuple [])), (["filter", "null"], (.tuple [(.str "column")])), (["filter", "not"], (.tuple [(.str "filter")])), (["filter", "and"], (.tuple [(.str "filter"), (.str "filter")])), (["filter", "or"], (.tuple [(.str "filter"), (.str "filter")])), (["condition", "p"], (.tuple [])), (["condition", "q"], (.tuple [])), (["condition", "not"], (.tuple [(.str "condition")])), (["condition", "and"], (.tuple [(.str "condition"), (.str "condition")])), (["condition", "or"], (.tuple [(.str "condition"), (.str "condition")])), (["expression", "table"], (.tuple [(.str "place")])), (["expression", "union"], (.tuple [(.str "expression"), (.str "expression")])), (["expression", "intersection"], (.tuple [(.str "expression"), (.str "expression")])), (["expression", "difference"], (.tuple [(.str "expression"), (.str "expression")])), (["expression", "filter"], (.tuple [(.str "condition"), (.str "expression")]))]
structure Tp (G : Gm) : Prop where
  b_all : Mg0 G "all"
  b_bool : Mg0 G "bool"
  b_enumerate : Mg0 G "enumerate"
  b_int : Mg0 G "int"
  b_isinstance : Mg0 G "isinstance"
  b_len : Mg0 G "len"
  b_list : Mg0 G "list"
  b_max : Mg0 G "max"
  b_min : Mg0 G "min"
  b_range : Mg0 G "range"
  b_str : Mg0 G "str"
  b_sum : Mg0 G "sum"
  b_tuple : Mg0 G "tuple"
  b_zip : Mg0 G "zip"
  c_CASE_LENGTH : GlD G "CASE_LENGTH" c_CASE_LENGTH
  c_CONNECTIVES : GlD G "CONNECTIVES" c_CONNECTIVES
  c_DIFFERENCE : GlD G "DIFFERENCE" c_DIFFERENCE
  c_DUPLICATES : GlD G "DUPLICATES" c_DUPLICATES
  c_GREATEST_COUNT : GlD G "GREATEST_COUNT" c_GREATEST_COUNT
  c_MOST_LEAVES : GlD G "MOST_LEAVES" c_MOST_LEAVES
  c_MOST_TUPLES : GlD G "MOST_TUPLES" c_MOST_TUPLES
  c_NULLS : GlD G "NULLS" c_NULLS
  c_UNION : GlD G "UNION" c_UNION
  c_WORDS : GlD G "WORDS" c_WORDS
  k_GREATEST : GlK G "GREATEST" k_GREATEST
  t_FORMS : GlT G "FORMS" t_FORMS
  x_BadCase : ExcF G "BadCase"
  x_BadSemantics : ExcF G "BadSemantics"
abbrev st_is_semantics : Stmt := topS 11
abbrev N_is_semantics : List Str := ["value", "part", "words"]
abbrev P_is_semantics : List Str := ["value"]
theorem sc_is_semantics : FnScope N_is_semantics P_is_semantics (defScope st_is_semantics) := ⟨rfl, rfl, rfl, by decide +kernel, rfl, by decide +kernel, by decide +kernel⟩
def d_is_semantics  : Ev → Ms :=
    seqM (pIf (dOr (dNot (dTru (dIsi [.tuple] (dVar 0)))) (dCmp neD (dFn lenD (dCons (dVar 0) (dNil))) (dFn lenD (dCons (dLit c_WORDS) (dNil))))) (pRet (dLit (.bool false))) (sNil))
    (pRet (dFn allD (dCons (dComp [1, 2] (dRng zipD (dCons (dVar 0) (dCons (dLit c_WORDS) (dNil)))) (.tup [1, 2]) (dYes) (dCmpE inD (dVar 1) (dVar 2))) (dNil))))
theorem s_is_semantics {G : Gm} {k : Nat} (B : Tp G)  (hk : 1 ≤ k) : SB G k ⟨defScope st_is_semantics, fun _ => true⟩ N_is_semantics (defBody st_is_semantics) (d_is_semantics) :=
    s_cons (P_if (t_w (w_or (t_not (t_val (e_isi1 .tuple (e_var 0) PyProof.Rows.boot_tuple B.b_isinstance B.b_tuple))) (w_or1 (T_cmp c_ne (e_len (a_cons (e_var 0) (a_nil)) B.b_len) (e_len (a_cons (e_glob B.c_WORDS) (a_nil)) B.b_len))))) (s_one (P_ret (e_bl))) (s_nil))
    (s_one (P_ret (e_all (a_cons (e_lc [("part", 1), ("words", 2)] (i_zip (a_cons (e_var 0) (a_cons (e_glob B.c_WORDS) (a_nil))) B.b_zip) (g_tup [1, 2] (.cons (by rfl) (by rfl) (.cons (by rfl) (by rfl) (.nil)))) (p_nil) (E_cmp (c_in hk) (e_var 1) (e_var 2))) (a_nil)) B.b_all)))
abbrev st_check_semantics : Stmt := topS 12
abbrev N_check_semantics : List Str := ["value"]
abbrev P_check_semantics : List Str := ["value"]
theorem sc_check_semantics : FnScope N_check_semantics P_check_semantics (defScope st_check_semantics) := ⟨rfl, rfl, rfl, by decide +kernel, rfl, by decide +kernel, by decide +kernel⟩
def d_check_semantics (f_is_semantics : List Slot → Mn D) : Ev → Ms :=
    pIf (dNot (dTru (dCl 1 f_is_semantics (dCons (dVar 0) (dNil))))) (sRaise "BadSemantics") (sNil)
theorem s_check_semantics {G : Gm} {k : Nat} (B : Tp G) {j_is_semantics : Nat} {f_is_semantics : List Slot → Mn D} (F_is_semantics : FO G j_is_semantics "is_semantics" 1 f_is_semantics) (h_is_semantics : j_is_semantics ≤ k) : SB G k ⟨defScope st_check_semantics, fun _ => true⟩ N_check_semantics (defBody st_check_semantics) (d_check_semantics f_is_semantics) :=
    s_one (P_if (t_not (t_val (e_call F_is_semantics (a_cons (e_var 0) (a_nil)) h_is_semantics))) (s_one (s_raise B.x_BadSemantics)) (s_nil))
abbrev st_is_integer_to : Stmt := topS 13
abbrev N_is_integer_to : List Str := ["value", "greatest"]
abbrev P_is_integer_to : List Str := ["value", "greatest"]
theorem sc_is_integer_to : FnScope N_is_integer_to P_is_integer_to (defScope st_is_integer_to) := ⟨rfl, rfl, rfl, by decide +kernel, rfl, by decide +kernel, by decide +kernel⟩
def d_is_integer_to  : Ev → Ms :=
    seqM (pIf (dOr (dNot (dTru (dIsi [.int] (dVar 0)))) (dTru (dIsi [.bool] (dVar 0)))) (pRet (dLit (.bool false))) (sNil))
    (pRet (dChain leD leD (dLit (.int 0)) (dVar 0) (dVar 1)))
theorem s_is_integer_to {G : Gm} {k : Nat} (B : Tp G)  : SB G k ⟨defScope st_is_integer_to, fun _ => true⟩ N_is_integer_to (defBody st_is_integer_to) (d_is_integer_to) :=
    s_cons (P_if (t_w (w_or (t_not (t_val (e_isi1 .int (e_var 0) PyProof.Rows.boot_int B.b_isinstance B.b_int))) (w_or1 (t_val (e_isi1 .bool (e_var 0) PyProof.Rows.boot_bool B.b_isinstance B.b_bool))))) (s_one (P_ret (e_bl))) (s_nil))
    (s_one (P_ret (e_chain c_le c_le (e_int) (e_var 0) (e_var 1))))
abbrev st_tuples_of : Stmt := topS 17
abbrev N_tuples_of : List Str := ["value", "kind", "most", "waiting", "found", "part", "part_kind"]
abbrev P_tuples_of : List Str := ["value", "kind", "most"]
theorem sc_tuples_of : FnScope N_tuples_of P_tuples_of (defScope st_tuples_of) := ⟨rfl, rfl, rfl, by decide +kernel, rfl, by decide +kernel, by decide +kernel⟩
def d_tuples_of (f__has_form : List Slot → Mn D) (f__inner_tuples : List Slot → Mn D) : Ev → Ms :=
    seqM (sOwn 3 (dCons (dTup (dCons (dVar 0) (dCons (dVar 1) (dNil)))) (dNil)))
    (seqM (sOwn 4 (dNil))
    (seqM (whileN (dTru (dVar 3)) (seqM (sPopT (.tup [5, 6]) 3)
    (seqM (sIf (dOr (dCmp eqD (dFn lenD (dCons (dVar 4) (dNil))) (dVar 2)) (dNot (dTru (dCl 2 f__has_form (dCons (dVar 5) (dCons (dVar 6) (dNil))))))) (sRet (dLit .none)) (sNil))
    (seqM (sApp 4 (dVar 5))
    (sExt 3 (dCl 2 f__inner_tuples (dCons (dVar 5) (dCons (dVar 6) (dNil)))))))) 64)
    (sRet (dVar 4))))
theorem s_tuples_of {G : Gm} {k : Nat} (B : Tp G) {j__has_form : Nat} {f__has_form : List Slot → Mn D} (F__has_form : FO G j__has_form "_has_form" 2 f__has_form) (h__has_form : j__has_form ≤ k) {j__inner_tuples : Nat} {f__inner_tuples : List Slot → Mn D} (F__inner_tuples : FO G j__inner_tuples "_inner_tuples" 2 f__inner_tuples) (h__inner_tuples : j__inner_tuples ≤ k) : SB G k ⟨defScope st_tuples_of, fun _ => true⟩ N_tuples_of (defBody st_tuples_of) (d_tuples_of f__has_form f__inner_tuples) :=
    s_cons (s_own 3 (a_cons (e_tup (a_cons (e_var 0) (a_cons (e_var 1) (a_nil)))) (a_nil)))
    (s_cons (s_own 4 (a_nil))
    (s_cons (s_while 64 (t_val (e_var 3)) (s_cons (s_popT (.tup [5, 6]) 3 (g_tup [5, 6] (.cons (by rfl) (by rfl) (.cons (by rfl) (by rfl) (.nil)))))
    (s_cons (s_if (t_w (w_or (T_cmp c_eq (e_len (a_cons (e_var 4) (a_nil)) B.b_len) (e_var 2)) (w_or1 (t_not (t_val (e_call F__has_form (a_cons (e_var 5) (a_cons (e_var 6) (a_nil))) h__has_form)))))) (s_one (s_ret (e_non))) (s_nil))
    (s_cons (s_app 4 (e_var 5))
    (s_one (s_ext 3 (e_call F__inner_tuples (a_cons (e_var 5) (a_cons (e_var 6) (a_nil))) h__inner_tuples)))))))
    (s_one (s_ret (e_var 4)))))
abbrev st__has_form : Stmt := topS 18
abbrev N__has_form : List Str := ["value", "kind", "kinds", "part", "part_kind"]
abbrev P__has_form : List Str := ["value", "kind"]
theorem sc__has_form : FnScope N__has_form P__has_form (defScope st__has_form) := ⟨rfl, rfl, rfl, by decide +kernel, rfl, by decide +kernel, by decide +kernel⟩
def d__has_form (f__fits : List Slot → Mn D) : Ev → Ms :=
    seqM (pIf (dOr (dNot (dTru (dIsi [.tuple] (dVar 0)))) (dCmp eqD (dFn lenD (dCons (dVar 0) (dNil))) (dLit (.int 0)))) (pRet (dLit (.bool false))) (sNil))
    (seqM (pIf (dOr (dNot (dTru (dIsi [.str] (dBin ixD (dVar 0) (dLit (.int 0)))))) (dTnin t_FORMS (dTup (dCons (dVar 1) (dCons (dBin ixD (dVar 0) (dLit (.int 0))) (dNil)))))) (pRet (dLit (.bool false))) (sNil))
    (seqM (pSet 2 (dTget t_FORMS (dTup (dCons (dVar 1) (dCons (dBin ixD (dVar 0) (dLit (.int 0))) (dNil))))))
    (seqM (pIf (dCmp neD (dFn lenD (dCons (dVar 0) (dNil))) (dBin addD (dLit (.int 1)) (dFn lenD (dCons (dVar 2) (dNil))))) (pRet (dLit (.bool false))) (sNil))
    (pRet (dFn allD (dCons (dComp [3, 4] (dRng zipD (dCons (dBin slLo (dVar 0) (dLit (.int 1))) (dCons (dVar 2) (dNil)))) (.tup [3, 4]) (dYes) (dCl 2 f__fits (dCons (dVar 3) (dCons (dVar 4) (dNil))))) (dNil)))))))
theorem s__has_form {G : Gm} {k : Nat} (B : Tp G) {j__fits : Nat} {f__fits : List Slot → Mn D} (F__fits : FO G j__fits "_fits" 2 f__fits) (h__fits : j__fits ≤ k) : SB G k ⟨defScope st__has_form, fun _ => true⟩ N__has_form (defBody st__has_form) (d__has_form f__fits) :=
    s_cons (P_if (t_w (w_or (t_not (t_val (e_isi1 .tuple (e_var 0) PyProof.Rows.boot_tuple B.b_isinstance B.b_tuple))) (w_or1 (T_cmp c_eq (e_len (a_cons (e_var 0) (a_nil)) B.b_len) (e_int))))) (s_one (P_ret (e_bl))) (s_nil))
    (s_cons (P_if (t_w (w_or (t_not (t_val (e_isi1 .str (E_ix (e_var 0) (e_int)) PyProof.Rows.boot_str B.b_isinstance B.b_str))) (w_or1 (T_tnin B.t_FORMS (e_tup (a_cons (e_var 1) (a_cons (E_ix (e_var 0) (e_int)) (a_nil)))))))) (s_one (P_ret (e_bl))) (s_nil))
    (s_cons (P_set 2 (E_tget B.t_FORMS (e_tup (a_cons (e_var 1) (a_cons (E_ix (e_var 0) (e_int)) (a_nil))))))
    (s_cons (P_if (T_cmp c_ne (e_len (a_cons (e_var 0) (a_nil)) B.b_len) (E_add (e_int) (e_len (a_cons (e_var 2) (a_nil)) B.b_len))) (s_one (P_ret (e_bl))) (s_nil))
    (s_one (P_ret (e_all (a_cons (e_lc [("part", 3), ("part_kind", 4)] (i_zip (a_cons (E_slLo (e_var 0) (e_int)) (a_cons (e_var 2) (a_nil))) B.b_zip) (g_tup [3, 4] (.cons (by rfl) (by rfl) (.cons (by rfl) (by rfl) (.nil)))) (p_nil) (e_call F__fits (a_cons (e_var 3) (a_cons (e_var 4) (a_nil))) h__fits)) (a_nil)) B.b_all))))))
abbrev st__fits : Stmt := topS 19
abbrev N__fits : List Str := ["part", "kind"]
abbrev P__fits : List Str := ["part", "kind"]
theorem sc__fits : FnScope N__fits P__fits (defScope st__fits) := ⟨rfl, rfl, rfl, by decide +kernel, rfl, by decide +kernel, by decide +kernel⟩
def d__fits (f_is_integer_to : List Slot → Mn D) : Ev → Ms :=
    seqM (pIf (dKin k_GREATEST (dVar 1)) (pRet (dCl 2 f_is_integer_to (dCons (dVar 0) (dCons (dKget k_GREATEST (dVar 1)) (dNil))))) (sNil))
    (pRet (dLit (.bool true)))
theorem s__fits {G : Gm} {k : Nat} (B : Tp G) {j_is_integer_to : Nat} {f_is_integer_to : List Slot → Mn D} (F_is_integer_to : FO G j_is_integer_to "is_integer_to" 2 f_is_integer_to) (h_is_integer_to : j_is_integer_to ≤ k) : SB G k ⟨defScope st__fits, fun _ => true⟩ N__fits (defBody st__fits) (d__fits f_is_integer_to) :=
    s_cons (P_if (T_kin B.k_GREATEST (e_var 1)) (s_one (P_ret (e_call F_is_integer_to (a_cons (e_var 0) (a_cons (E_kget B.k_GREATEST (e_var 1)) (a_nil))) h_is_integer_to))) (s_nil))
    (s_one (P_ret (e_bl)))
abbrev st__inner_tuples : Stmt := topS 20
abbrev N__inner_tuples : List Str := ["value", "kind", "kinds", "part", "part_kind"]
abbrev P__inner_tuples : List Str := ["value", "kind"]
theorem sc__inner_tuples : FnScope N__inner_tuples P__inner_tuples (defScope st__inner_tuples) := ⟨rfl, rfl, rfl, by decide +kernel, rfl, by decide +kernel, by decide +kernel⟩
def d__inner_tuples  : Ev → Ms :=
    seqM (pSet 2 (dTget t_FORMS (dTup (dCons (dVar 1) (dCons (dBin ixD (dVar 0) (dLit (.int 0))) (dNil))))))
    (pRet (dComp [3, 4] (dRng zipD (dCons (dBin slLo (dVar 0) (dLit (.int 1))) (dCons (dVar 2) (dNil)))) (.tup [3, 4]) (dKnin k_GREATEST (dVar 4)) (dTup (dCons (dVar 3) (dCons (dVar 4) (dNil))))))
theorem s__inner_tuples {G : Gm} {k : Nat} (B : Tp G)  : SB G k ⟨defScope st__inner_tuples, fun _ => true⟩ N__inner_tuples (defBody st__inner_tuples) (d__inner_tuples) :=
    s_cons (P_set 2 (E_tget B.t_FORMS (e_tup (a_cons (e_var 1) (a_cons (E_ix (e_var 0) (e_int)) (a_nil))))))
    (s_one (P_ret (e_lc [("part", 3), ("part_kind", 4)] (i_zip (a_cons (E_slLo (e_var 0) (e_int)) (a_cons (e_var 2) (a_nil))) B.b_zip) (g_tup [3, 4] (.cons (by rfl) (by rfl) (.cons (by rfl) (by rfl) (.nil)))) (p_one (T_knin B.k_GREATEST (e_var 4))) (e_tup (a_cons (e_var 3) (a_cons (e_var 4) (a_nil)))))))
abbrev st_connected : Stmt := topS 23
abbrev N_connected : List Str := ["word", "truths"]
abbrev P_connected : List Str := ["word", "truths"]
theorem sc_connected : FnScope N_connected P_connected (defScope st_connected) := ⟨rfl, rfl, rfl, by decide +kernel, rfl, by decide +kernel, by decide +kernel⟩
def d_connected (f__negation : List Slot → Mn D) (f__conjunction : List Slot → Mn D) (f__disjunction : List Slot → Mn D) : Ev → Ms :=
    seqM (pIf (dCmp eqD (dVar 0) (dLit (.str "not"))) (pRet (dCl 1 f__negation (dCons (dBin ixD (dVar 1) (dLit (.int 0))) (dNil)))) (sNil))
    (seqM (pIf (dCmp eqD (dVar 0) (dLit (.str "and"))) (pRet (dCl 2 f__conjunction (dCons (dBin ixD (dVar 1) (dLit (.int 0))) (dCons (dBin ixD (dVar 1) (dLit (.int 1))) (dNil))))) (sNil))
    (pRet (dCl 2 f__disjunction (dCons (dBin ixD (dVar 1) (dLit (.int 0))) (dCons (dBin ixD (dVar 1) (dLit (.int 1))) (dNil))))))
theorem s_connected {G : Gm} {k : Nat} {j__negation : Nat} {f__negation : List Slot → Mn D} (F__negation : FO G j__negation "_negation" 1 f__negation) (h__negation : j__negation ≤ k) {j__conjunction : Nat} {f__conjunction : List Slot → Mn D} (F__conjunction : FO G j__conjunction "_conjunction" 2 f__conjunction) (h__conjunction : j__conjunction ≤ k) {j__disjunction : Nat} {f__disjunction : List Slot → Mn D} (F__disjunction : FO G j__disjunction "_disjunction" 2 f__disjunction) (h__disjunction : j__disjunction ≤ k) : SB G k ⟨defScope st_connected, fun _ => true⟩ N_connected (defBody st_connected) (d_connected f__negation f__conjunction f__disjunction) :=
    s_cons (P_if (T_cmp c_eq (e_var 0) (e_str)) (s_one (P_ret (e_call F__negation (a_cons (E_ix (e_var 1) (e_int)) (a_nil)) h__negation))) (s_nil))
    (s_cons (P_if (T_cmp c_eq (e_var 0) (e_str)) (s_one (P_ret (e_call F__conjunction (a_cons (E_ix (e_var 1) (e_int)) (a_cons (E_ix (e_var 1) (e_int)) (a_nil))) h__conjunction))) (s_nil))
    (s_one (P_ret (e_call F__disjunction (a_cons (E_ix (e_var 1) (e_int)) (a_cons (E_ix (e_var 1) (e_int)) (a_nil))) h__disjunction))))
abbrev st__negation : Stmt := topS 24
abbrev N__negation : List Str := ["one"]
abbrev P__negation : List Str := ["one"]
theorem sc__negation : FnScope N__negation P__negation (defScope st__negation) := ⟨rfl, rfl, rfl, by decide +kernel, rfl, by decide +kernel, by decide +kernel⟩
def d__negation  : Ev → Ms :=
    pRet (dIf (dCmp isD (dVar 0) (dLit .none)) (dLit .none) (dNotV (dVar 0)))
theorem s__negation {G : Gm} {k : Nat}  : SB G k ⟨defScope st__negation, fun _ => true⟩ N__negation (defBody st__negation) (d__negation) :=
    s_one (P_ret (e_if (T_cmp c_is (e_var 0) (e_non)) (e_non) (e_not (e_var 0))))
abbrev st__conjunction : Stmt := topS 25
abbrev N__conjunction : List Str := ["one", "other"]
abbrev P__conjunction : List Str := ["one", "other"]
theorem sc__conjunction : FnScope N__conjunction P__conjunction (defScope st__conjunction) := ⟨rfl, rfl, rfl, by decide +kernel, rfl, by decide +kernel, by decide +kernel⟩
def d__conjunction  : Ev → Ms :=
    seqM (pIf (dOr (dCmp isD (dVar 0) (dLit (.bool false))) (dCmp isD (dVar 1) (dLit (.bool false)))) (pRet (dLit (.bool false))) (sNil))
    (seqM (pIf (dOr (dCmp isD (dVar 0) (dLit .none)) (dCmp isD (dVar 1) (dLit .none))) (pRet (dLit .none)) (sNil))
    (pRet (dLit (.bool true))))
theorem s__conjunction {G : Gm} {k : Nat}  : SB G k ⟨defScope st__conjunction, fun _ => true⟩ N__conjunction (defBody st__conjunction) (d__conjunction) :=
    s_cons (P_if (t_w (w_or (T_cmp c_is (e_var 0) (e_bl)) (w_or1 (T_cmp c_is (e_var 1) (e_bl))))) (s_one (P_ret (e_bl))) (s_nil))
    (s_cons (P_if (t_w (w_or (T_cmp c_is (e_var 0) (e_non)) (w_or1 (T_cmp c_is (e_var 1) (e_non))))) (s_one (P_ret (e_non))) (s_nil))
    (s_one (P_ret (e_bl))))
abbrev st__disjunction : Stmt := topS 26
abbrev N__disjunction : List Str := ["one", "other"]
abbrev P__disjunction : List Str := ["one", "other"]
theorem sc__disjunction : FnScope N__disjunction P__disjunction (defScope st__disjunction) := ⟨rfl, rfl, rfl, by decide +kernel, rfl, by decide +kernel, by decide +kernel⟩
def d__disjunction  : Ev → Ms :=
    seqM (pIf (dOr (dCmp isD (dVar 0) (dLit (.bool true))) (dCmp isD (dVar 1) (dLit (.bool true)))) (pRet (dLit (.bool true))) (sNil))
    (seqM (pIf (dOr (dCmp isD (dVar 0) (dLit .none)) (dCmp isD (dVar 1) (dLit .none))) (pRet (dLit .none)) (sNil))
    (pRet (dLit (.bool false))))
theorem s__disjunction {G : Gm} {k : Nat}  : SB G k ⟨defScope st__disjunction, fun _ => true⟩ N__disjunction (defBody st__disjunction) (d__disjunction) :=
    s_cons (P_if (t_w (w_or (T_cmp c_is (e_var 0) (e_bl)) (w_or1 (T_cmp c_is (e_var 1) (e_bl))))) (s_one (P_ret (e_bl))) (s_nil))
    (s_cons (P_if (t_w (w_or (T_cmp c_is (e_var 0) (e_non)) (w_or1 (T_cmp c_is (e_var 1) (e_non))))) (s_one (P_ret (e_non))) (s_nil))
    (s_one (P_ret (e_bl))))
abbrev st_combined_count : Stmt := topS 28
abbrev N_combined_count : List Str := ["semantics", "word", "a", "b", "count"]
abbrev P_combined_count : List Str := ["semantics", "word", "a", "b"]
theorem sc_combined_count : FnScope N_combined_count P_combined_count (defScope st_combined_count) := ⟨rfl, rfl, rfl, by decide +kernel, rfl, by decide +kernel, by decide +kernel⟩
def d_combined_count (f__count_with_repeats : List Slot → Mn D) : Ev → Ms :=
    seqM (pSet 4 (dCl 4 f__count_with_repeats (dCons (dVar 0) (dCons (dVar 1) (dCons (dVar 2) (dCons (dVar 3) (dNil)))))))
    (pRet (dIf (dCmp eqD (dBin ixD (dVar 0) (dLit c_DUPLICATES)) (dLit (.str "set"))) (dFn min2D (dCons (dVar 4) (dCons (dLit (.int 1)) (dNil)))) (dVar 4)))
theorem s_combined_count {G : Gm} {k : Nat} (B : Tp G) {j__count_with_repeats : Nat} {f__count_with_repeats : List Slot → Mn D} (F__count_with_repeats : FO G j__count_with_repeats "_count_with_repeats" 4 f__count_with_repeats) (h__count_with_repeats : j__count_with_repeats ≤ k) : SB G k ⟨defScope st_combined_count, fun _ => true⟩ N_combined_count (defBody st_combined_count) (d_combined_count f__count_with_repeats) :=
    s_cons (P_set 4 (e_call F__count_with_repeats (a_cons (e_var 0) (a_cons (e_var 1) (a_cons (e_var 2) (a_cons (e_var 3) (a_nil))))) h__count_with_repeats))
    (s_one (P_ret (e_if (T_cmp c_eq (E_ix (e_var 0) (e_glob B.c_DUPLICATES)) (e_str)) (e_min2 (a_cons (e_var 4) (a_cons (e_int) (a_nil))) B.b_min) (e_var 4))))
abbrev st__count_with_repeats : Stmt := topS 29
abbrev N__count_with_repeats : List Str := ["semantics", "word", "a", "b"]
abbrev P__count_with_repeats : List Str := ["semantics", "word", "a", "b"]
theorem sc__count_with_repeats : FnScope N__count_with_repeats P__count_with_repeats (defScope st__count_with_repeats) := ⟨rfl, rfl, rfl, by decide +kernel, rfl, by decide +kernel, by decide +kernel⟩
def d__count_with_repeats  : Ev → Ms :=
    seqM (pIf (dCmp eqD (dVar 1) (dLit (.str "intersection"))) (pRet (dFn min2D (dCons (dVar 2) (dCons (dVar 3) (dNil))))) (sNil))
    (seqM (pIf (dCmp eqD (dVar 1) (dLit (.str "union"))) (pRet (dIf (dCmp eqD (dBin ixD (dVar 0) (dLit c_UNION)) (dLit (.str "sum"))) (dBin addD (dVar 2) (dVar 3)) (dFn max2D (dCons (dVar 2) (dCons (dVar 3) (dNil)))))) (sNil))
    (seqM (pIf (dCmp eqD (dBin ixD (dVar 0) (dLit c_DIFFERENCE)) (dLit (.str "kind"))) (pRet (dIf (dCmp eqD (dVar 3) (dLit (.int 0))) (dVar 2) (dLit (.int 0)))) (sNil))
    (pRet (dFn max2D (dCons (dLit (.int 0)) (dCons (dBin subD (dVar 2) (dVar 3)) (dNil)))))))
theorem s__count_with_repeats {G : Gm} {k : Nat} (B : Tp G)  : SB G k ⟨defScope st__count_with_repeats, fun _ => true⟩ N__count_with_repeats (defBody st__count_with_repeats) (d__count_with_repeats) :=
    s_cons (P_if (T_cmp c_eq (e_var 1) (e_str)) (s_one (P_ret (e_min2 (a_cons (e_var 2) (a_cons (e_var 3) (a_nil))) B.b_min))) (s_nil))
    (s_cons (P_if (T_cmp c_eq (e_var 1) (e_str)) (s_one (P_ret (e_if (T_cmp c_eq (E_ix (e_var 0) (e_glob B.c_UNION)) (e_str)) (E_add (e_var 2) (e_var 3)) (e_max2 (a_cons (e_var 2) (a_cons (e_var 3) (a_nil))) B.b_max)))) (s_nil))
    (s_cons (P_if (T_cmp c_eq (E_ix (e_var 0) (e_glob B.c_DIFFERENCE)) (e_str)) (s_one (P_ret (e_if (T_cmp c_eq (e_var 3) (e_int)) (e_var 2) (e_int)))) (s_nil))
    (s_one (P_ret (e_max2 (a_cons (e_int) (a_cons (E_sub (e_var 2) (e_var 3)) (a_nil))) B.b_max)))))
abbrev st_is_expression : Stmt := topS 35
abbrev N_is_expression : List Str := ["value", "tuples"]
abbrev P_is_expression : List Str := ["value"]
theorem sc_is_expression : FnScope N_is_expression P_is_expression (defScope st_is_expression) := ⟨rfl, rfl, rfl, by decide +kernel, rfl, by decide +kernel, by decide +kernel⟩
def d_is_expression (f_tuples_of : List Slot → Mn D) (f__leaves_among : List Slot → Mn D) : Ev → Ms :=
    seqM (pSet 1 (dCl 3 f_tuples_of (dCons (dVar 0) (dCons (dLit (.str "expression")) (dCons (dLit c_MOST_TUPLES) (dNil))))))
    (pRet (dAndV (dCmpE isnD (dVar 1) (dLit .none)) (dCmpE leD (dCl 1 f__leaves_among (dCons (dVar 1) (dNil))) (dLit c_MOST_LEAVES))))
theorem s_is_expression {G : Gm} {k : Nat} (B : Tp G) {j_tuples_of : Nat} {f_tuples_of : List Slot → Mn D} (F_tuples_of : FO G j_tuples_of "tuples_of" 3 f_tuples_of) (h_tuples_of : j_tuples_of ≤ k) {j__leaves_among : Nat} {f__leaves_among : List Slot → Mn D} (F__leaves_among : FO G j__leaves_among "_leaves_among" 1 f__leaves_among) (h__leaves_among : j__leaves_among ≤ k) : SB G k ⟨defScope st_is_expression, fun _ => true⟩ N_is_expression (defBody st_is_expression) (d_is_expression f_tuples_of f__leaves_among) :=
    s_cons (P_set 1 (e_call F_tuples_of (a_cons (e_var 0) (a_cons (e_str) (a_cons (e_glob B.c_MOST_TUPLES) (a_nil)))) h_tuples_of))
    (s_one (P_ret (e_and (E_cmp c_isn (e_var 1) (e_non)) (e_or1 (E_cmp c_le (e_call F__leaves_among (a_cons (e_var 1) (a_nil)) h__leaves_among) (e_glob B.c_MOST_LEAVES))))))
abbrev st__leaves_among : Stmt := topS 36
abbrev N__leaves_among : List Str := ["tuples", "part"]
abbrev P__leaves_among : List Str := ["tuples"]
theorem sc__leaves_among : FnScope N__leaves_among P__leaves_among (defScope st__leaves_among) := ⟨rfl, rfl, rfl, by decide +kernel, rfl, by decide +kernel, by decide +kernel⟩
def d__leaves_among  : Ev → Ms :=
    pRet (dFn lenD (dCons (dComp [1] (dItm (dVar 0)) (.name 1) (dCmp eqD (dBin ixD (dVar 1) (dLit (.int 0))) (dLit (.str "table"))) (dVar 1)) (dNil)))
theorem s__leaves_among {G : Gm} {k : Nat} (B : Tp G)  : SB G k ⟨defScope st__leaves_among, fun _ => true⟩ N__leaves_among (defBody st__leaves_among) (d__leaves_among) :=
    s_one (P_ret (e_len (a_cons (e_lc [("part", 1)] (i_seq (e_var 0)) (g_name 1) (p_one (T_cmp c_eq (E_ix (e_var 1) (e_int)) (e_str))) (e_var 1)) (a_nil)) B.b_len))
abbrev st__check_expressions : Stmt := topS 37
abbrev N__check_expressions : List Str := ["values", "index", "value"]
abbrev P__check_expressions : List Str := ["values"]
theorem sc__check_expressions : FnScope N__check_expressions P__check_expressions (defScope st__check_expressions) := ⟨rfl, rfl, rfl, by decide +kernel, rfl, by decide +kernel, by decide +kernel⟩
def d__check_expressions (f_is_expression : List Slot → Mn D) : Ev → Ms :=
    sFor false (dRng enumTD (dCons (dVar 0) (dNil))) (.tup [1, 2]) (pIf (dNot (dTru (dCl 1 f_is_expression (dCons (dVar 2) (dNil))))) (sStuck) (sNil))
theorem s__check_expressions {G : Gm} {k : Nat} (B : Tp G) {j_is_expression : Nat} {f_is_expression : List Slot → Mn D} (F_is_expression : FO G j_is_expression "is_expression" 1 f_is_expression) (h_is_expression : j_is_expression ≤ k) : SB G k ⟨defScope st__check_expressions, fun _ => true⟩ N__check_expressions (defBody st__check_expressions) (d__check_expressions f_is_expression) :=
    s_one (s_for false (i_enumT (a_cons (e_var 0) (a_nil)) B.b_enumerate) (g_tup [1, 2] (.cons (by rfl) (by rfl) (.cons (by rfl) (by rfl) (.nil)))) (s_one (P_if (t_not (t_val (e_call F_is_expression (a_cons (e_var 2) (a_nil)) h_is_expression))) (s_one (s_stuck)) (s_nil))))
abbrev st_count_at : Stmt := topS 38
abbrev N_count_at : List Str := ["semantics", "expression", "case"]
abbrev P_count_at : List Str := ["semantics", "expression", "case"]
theorem sc_count_at : FnScope N_count_at P_count_at (defScope st_count_at) := ⟨rfl, rfl, rfl, by decide +kernel, rfl, by decide +kernel, by decide +kernel⟩
def d_count_at (f_check_semantics : List Slot → Mn D) (f__check_expressions : List Slot → Mn D) (f__is_case : List Slot → Mn D) (f__count_of : List Slot → Mn D) : Ev → Ms :=
    seqM (pDrop (dCl 1 f_check_semantics (dCons (dVar 0) (dNil))))
    (seqM (pDrop (dCl 1 f__check_expressions (dCons (dTup (dCons (dVar 1) (dNil))) (dNil))))
    (seqM (pIf (dNot (dTru (dCl 2 f__is_case (dCons (dVar 0) (dCons (dVar 2) (dNil)))))) (sRaise "BadCase") (sNil))
    (pRet (dCl 3 f__count_of (dCons (dVar 0) (dCons (dVar 1) (dCons (dVar 2) (dNil))))))))
theorem s_count_at {G : Gm} {k : Nat} (B : Tp G) {j_check_semantics : Nat} {f_check_semantics : List Slot → Mn D} (F_check_semantics : FO G j_check_semantics "check_semantics" 1 f_check_semantics) (h_check_semantics : j_check_semantics ≤ k) {j__check_expressions : Nat} {f__check_expressions : List Slot → Mn D} (F__check_expressions : FO G j__check_expressions "_check_expressions" 1 f__check_expressions) (h__check_expressions : j__check_expressions ≤ k) {j__is_case : Nat} {f__is_case : List Slot → Mn D} (F__is_case : FO G j__is_case "_is_case" 2 f__is_case) (h__is_case : j__is_case ≤ k) {j__count_of : Nat} {f__count_of : List Slot → Mn D} (F__count_of : FO G j__count_of "_count_of" 3 f__count_of) (h__count_of : j__count_of ≤ k) : SB G k ⟨defScope st_count_at, fun _ => true⟩ N_count_at (defBody st_count_at) (d_count_at f_check_semantics f__check_expressions f__is_case f__count_of) :=
    s_cons (P_expr (e_call F_check_semantics (a_cons (e_var 0) (a_nil)) h_check_semantics))
    (s_cons (P_expr (e_call F__check_expressions (a_cons (e_tup (a_cons (e_var 1) (a_nil))) (a_nil)) h__check_expressions))
    (s_cons (P_if (t_not (t_val (e_call F__is_case (a_cons (e_var 0) (a_cons (e_var 2) (a_nil))) h__is_case))) (s_one (s_raise B.x_BadCase)) (s_nil))
    (s_one (P_ret (e_call F__count_of (a_cons (e_var 0) (a_cons (e_var 1) (a_cons (e_var 2) (a_nil)))) h__count_of)))))
abbrev st__is_case : Stmt := topS 39
abbrev N__is_case : List Str := ["semantics", "value", "greatest", "part", "count"]
abbrev P__is_case : List Str := ["semantics", "value"]
theorem sc__is_case : FnScope N__is_case P__is_case (defScope st__is_case) := ⟨rfl, rfl, rfl, by decide +kernel, rfl, by decide +kernel, by decide +kernel⟩
def d__is_case (f_is_integer_to : List Slot → Mn D) (f__is_truth : List Slot → Mn D) : Ev → Ms :=
    seqM (pIf (dOr (dNot (dTru (dIsi [.tuple] (dVar 1)))) (dCmp neD (dFn lenD (dCons (dVar 1) (dNil))) (dLit c_CASE_LENGTH))) (pRet (dLit (.bool false))) (sNil))
    (seqM (pSet 2 (dIf (dCmp eqD (dBin ixD (dVar 0) (dLit c_DUPLICATES)) (dLit (.str "set"))) (dLit (.int 1)) (dLit c_GREATEST_COUNT)))
    (seqM (pIf (dNot (dTru (dFn allD (dCons (dComp [4] (dItm (dBin slHi (dVar 1) (dLit (.int 2)))) (.name 4) (dYes) (dCl 2 f_is_integer_to (dCons (dVar 4) (dCons (dVar 2) (dNil))))) (dNil))))) (pRet (dLit (.bool false))) (sNil))
    (pRet (dFn allD (dCons (dComp [3] (dItm (dBin slLo (dVar 1) (dLit (.int 2)))) (.name 3) (dYes) (dCl 2 f__is_truth (dCons (dVar 0) (dCons (dVar 3) (dNil))))) (dNil))))))
theorem s__is_case {G : Gm} {k : Nat} (B : Tp G) {j_is_integer_to : Nat} {f_is_integer_to : List Slot → Mn D} (F_is_integer_to : FO G j_is_integer_to "is_integer_to" 2 f_is_integer_to) (h_is_integer_to : j_is_integer_to ≤ k) {j__is_truth : Nat} {f__is_truth : List Slot → Mn D} (F__is_truth : FO G j__is_truth "_is_truth" 2 f__is_truth) (h__is_truth : j__is_truth ≤ k) : SB G k ⟨defScope st__is_case, fun _ => true⟩ N__is_case (defBody st__is_case) (d__is_case f_is_integer_to f__is_truth) :=
    s_cons (P_if (t_w (w_or (t_not (t_val (e_isi1 .tuple (e_var 1) PyProof.Rows.boot_tuple B.b_isinstance B.b_tuple))) (w_or1 (T_cmp c_ne (e_len (a_cons (e_var 1) (a_nil)) B.b_len) (e_glob B.c_CASE_LENGTH))))) (s_one (P_ret (e_bl))) (s_nil))
    (s_cons (P_set 2 (e_if (T_cmp c_eq (E_ix (e_var 0) (e_glob B.c_DUPLICATES)) (e_str)) (e_int) (e_glob B.c_GREATEST_COUNT)))
    (s_cons (P_if (t_not (t_val (e_all (a_cons (e_lc [("count", 4)] (i_seq (E_slHi (e_var 1) (e_int))) (g_name 4) (p_nil) (e_call F_is_integer_to (a_cons (e_var 4) (a_cons (e_var 2) (a_nil))) h_is_integer_to)) (a_nil)) B.b_all))) (s_one (P_ret (e_bl))) (s_nil))
    (s_one (P_ret (e_all (a_cons (e_lc [("part", 3)] (i_seq (E_slLo (e_var 1) (e_int))) (g_name 3) (p_nil) (e_call F__is_truth (a_cons (e_var 0) (a_cons (e_var 3) (a_nil))) h__is_truth)) (a_nil)) B.b_all)))))
abbrev st__is_truth : Stmt := topS 40
abbrev N__is_truth : List Str := ["semantics", "value"]
abbrev P__is_truth : List Str := ["semantics", "value"]
theorem sc__is_truth : FnScope N__is_truth P__is_truth (defScope st__is_truth) := ⟨rfl, rfl, rfl, by decide +kernel, rfl, by decide +kernel, by decide +kernel⟩
def d__is_truth  : Ev → Ms :=
    seqM (pIf (dCmp isD (dVar 1) (dLit .none)) (pRet (dCmpE eqD (dBin ixD (dVar 0) (dLit c_NULLS)) (dLit (.str "unknown")))) (sNil))
    (pRet (dIsi [.bool] (dVar 1)))
theorem s__is_truth {G : Gm} {k : Nat} (B : Tp G)  : SB G k ⟨defScope st__is_truth, fun _ => true⟩ N__is_truth (defBody st__is_truth) (d__is_truth) :=
    s_cons (P_if (T_cmp c_is (e_var 1) (e_non)) (s_one (P_ret (E_cmp c_eq (E_ix (e_var 0) (e_glob B.c_NULLS)) (e_str)))) (s_nil))
    (s_one (P_ret (e_isi1 .bool (e_var 1) PyProof.Rows.boot_bool B.b_isinstance B.b_bool)))
abbrev st__count_of : Stmt := topS 41
abbrev N__count_of : List Str := ["semantics", "expression", "case", "word", "a", "b", "kept"]
abbrev P__count_of : List Str := ["semantics", "expression", "case"]
theorem sc__count_of : FnScope N__count_of P__count_of (defScope st__count_of) := ⟨rfl, rfl, rfl, by decide +kernel, rfl, by decide +kernel, by decide +kernel⟩
def d__count_of (f__condition_truth : List Slot → Mn D) (f__count_of : List Slot → Mn D) (f_combined_count : List Slot → Mn D) : Ev → Ms :=
    seqM (pSet 3 (dBin ixD (dVar 1) (dLit (.int 0))))
    (seqM (pIf (dCmp eqD (dVar 3) (dLit (.str "table"))) (pRet (dBin ixD (dVar 2) (dBin ixD (dVar 1) (dLit (.int 1))))) (sNil))
    (seqM (pIf (dCmp eqD (dVar 3) (dLit (.str "filter"))) (seqM (pSet 6 (dCmpE isD (dCl 2 f__condition_truth (dCons (dBin ixD (dVar 1) (dLit (.int 1))) (dCons (dVar 2) (dNil)))) (dLit (.bool true))))
    (pRet (dIf (dTru (dVar 6)) (dCl 3 f__count_of (dCons (dVar 0) (dCons (dBin ixD (dVar 1) (dLit (.int 2))) (dCons (dVar 2) (dNil))))) (dLit (.int 0))))) (sNil))
    (seqM (pSet 4 (dCl 3 f__count_of (dCons (dVar 0) (dCons (dBin ixD (dVar 1) (dLit (.int 1))) (dCons (dVar 2) (dNil))))))
    (seqM (pSet 5 (dCl 3 f__count_of (dCons (dVar 0) (dCons (dBin ixD (dVar 1) (dLit (.int 2))) (dCons (dVar 2) (dNil))))))
    (pRet (dCl 4 f_combined_count (dCons (dVar 0) (dCons (dVar 3) (dCons (dVar 4) (dCons (dVar 5) (dNil)))))))))))
theorem s__count_of {G : Gm} {k : Nat} {j__condition_truth : Nat} {f__condition_truth : List Slot → Mn D} (F__condition_truth : FO G j__condition_truth "_condition_truth" 2 f__condition_truth) (h__condition_truth : j__condition_truth ≤ k) {j__count_of : Nat} {f__count_of : List Slot → Mn D} (F__count_of : FO G j__count_of "_count_of" 3 f__count_of) (h__count_of : j__count_of ≤ k) {j_combined_count : Nat} {f_combined_count : List Slot → Mn D} (F_combined_count : FO G j_combined_count "combined_count" 4 f_combined_count) (h_combined_count : j_combined_count ≤ k) : SB G k ⟨defScope st__count_of, fun _ => true⟩ N__count_of (defBody st__count_of) (d__count_of f__condition_truth f__count_of f_combined_count) :=
    s_cons (P_set 3 (E_ix (e_var 1) (e_int)))
    (s_cons (P_if (T_cmp c_eq (e_var 3) (e_str)) (s_one (P_ret (E_ix (e_var 2) (E_ix (e_var 1) (e_int))))) (s_nil))
    (s_cons (P_if (T_cmp c_eq (e_var 3) (e_str)) (s_cons (P_set 6 (E_cmp c_is (e_call F__condition_truth (a_cons (E_ix (e_var 1) (e_int)) (a_cons (e_var 2) (a_nil))) h__condition_truth) (e_bl)))
    (s_one (P_ret (e_if (t_val (e_var 6)) (e_call F__count_of (a_cons (e_var 0) (a_cons (E_ix (e_var 1) (e_int)) (a_cons (e_var 2) (a_nil)))) h__count_of) (e_int))))) (s_nil))
    (s_cons (P_set 4 (e_call F__count_of (a_cons (e_var 0) (a_cons (E_ix (e_var 1) (e_int)) (a_cons (e_var 2) (a_nil)))) h__count_of))
    (s_cons (P_set 5 (e_call F__count_of (a_cons (e_var 0) (a_cons (E_ix (e_var 1) (e_int)) (a_cons (e_var 2) (a_nil)))) h__count_of))
    (s_one (P_ret (e_call F_combined_count (a_cons (e_var 0) (a_cons (e_var 3) (a_cons (e_var 4) (a_cons (e_var 5) (a_nil))))) h_combined_count)))))))
abbrev st__condition_truth : Stmt := topS 42
abbrev N__condition_truth : List Str := ["condition", "case", "word", "part"]
abbrev P__condition_truth : List Str := ["condition", "case"]
theorem sc__condition_truth : FnScope N__condition_truth P__condition_truth (defScope st__condition_truth) := ⟨rfl, rfl, rfl, by decide +kernel, rfl, by decide +kernel, by decide +kernel⟩
def d__condition_truth (f_connected : List Slot → Mn D) (f__condition_truth : List Slot → Mn D) : Ev → Ms :=
    seqM (pSet 2 (dBin ixD (dVar 0) (dLit (.int 0))))
    (seqM (pIf (dCmp inD (dVar 2) (dLit c_CONNECTIVES)) (pRet (dCl 2 f_connected (dCons (dVar 2) (dCons (dComp [3] (dItm (dBin slLo (dVar 0) (dLit (.int 1)))) (.name 3) (dYes) (dCl 2 f__condition_truth (dCons (dVar 3) (dCons (dVar 1) (dNil))))) (dNil))))) (sNil))
    (pRet (dIf (dCmp eqD (dVar 2) (dLit (.str "p"))) (dBin ixD (dVar 1) (dLit (.int 2))) (dBin ixD (dVar 1) (dLit (.int 3))))))
theorem s__condition_truth {G : Gm} {k : Nat} (B : Tp G) {j_connected : Nat} {f_connected : List Slot → Mn D} (F_connected : FO G j_connected "connected" 2 f_connected) (h_connected : j_connected ≤ k) {j__condition_truth : Nat} {f__condition_truth : List Slot → Mn D} (F__condition_truth : FO G j__condition_truth "_condition_truth" 2 f__condition_truth) (h__condition_truth : j__condition_truth ≤ k) (hk : 1 ≤ k) : SB G k ⟨defScope st__condition_truth, fun _ => true⟩ N__condition_truth (defBody st__condition_truth) (d__condition_truth f_connected f__condition_truth) :=
    s_cons (P_set 2 (E_ix (e_var 0) (e_int)))
    (s_cons (P_if (T_cmp (c_in hk) (e_var 2) (e_glob B.c_CONNECTIVES)) (s_one (P_ret (e_call F_connected (a_cons (e_var 2) (a_cons (e_lc [("part", 3)] (i_seq (E_slLo (e_var 0) (e_int))) (g_name 3) (p_nil) (e_call F__condition_truth (a_cons (e_var 3) (a_cons (e_var 1) (a_nil))) h__condition_truth)) (a_nil))) h_connected))) (s_nil))
    (s_one (P_ret (e_if (T_cmp c_eq (e_var 2) (e_str)) (E_ix (e_var 1) (e_int)) (E_ix (e_var 1) (e_int))))))
abbrev st_least_difference : Stmt := topS 43
abbrev N_least_difference : List Str := ["semantics", "left", "right", "case"]
abbrev P_least_difference : List Str := ["semantics", "left", "right"]
theorem sc_least_difference : FnScope N_least_difference P_least_difference (defScope st_least_difference) := ⟨rfl, rfl, rfl, by decide +kernel, rfl, by decide +kernel, by decide +kernel⟩
def d_least_difference (f_check_semantics : List Slot → Mn D) (f__check_expressions : List Slot → Mn D) (f__cases : List Slot → Mn D) (f__greatest_needed : List Slot → Mn D) (f__count_of : List Slot → Mn D) : Ev → Ms :=
    seqM (pDrop (dCl 1 f_check_semantics (dCons (dVar 0) (dNil))))
    (seqM (pDrop (dCl 1 f__check_expressions (dCons (dTup (dCons (dVar 1) (dCons (dVar 2) (dNil)))) (dNil))))
    (seqM (sFor false (dItm (dCl 2 f__cases (dCons (dVar 0) (dCons (dCl 3 f__greatest_needed (dCons (dVar 0) (dCons (dVar 1) (dCons (dVar 2) (dNil))))) (dNil))))) (.name 3) (pIf (dCmp neD (dCl 3 f__count_of (dCons (dVar 0) (dCons (dVar 1) (dCons (dVar 3) (dNil))))) (dCl 3 f__count_of (dCons (dVar 0) (dCons (dVar 2) (dCons (dVar 3) (dNil)))))) (pRet (dVar 3)) (sNil)))
    (pRet (dLit .none))))
theorem s_least_difference {G : Gm} {k : Nat} {j_check_semantics : Nat} {f_check_semantics : List Slot → Mn D} (F_check_semantics : FO G j_check_semantics "check_semantics" 1 f_check_semantics) (h_check_semantics : j_check_semantics ≤ k) {j__check_expressions : Nat} {f__check_expressions : List Slot → Mn D} (F__check_expressions : FO G j__check_expressions "_check_expressions" 1 f__check_expressions) (h__check_expressions : j__check_expressions ≤ k) {j__cases : Nat} {f__cases : List Slot → Mn D} (F__cases : FO G j__cases "_cases" 2 f__cases) (h__cases : j__cases ≤ k) {j__greatest_needed : Nat} {f__greatest_needed : List Slot → Mn D} (F__greatest_needed : FO G j__greatest_needed "_greatest_needed" 3 f__greatest_needed) (h__greatest_needed : j__greatest_needed ≤ k) {j__count_of : Nat} {f__count_of : List Slot → Mn D} (F__count_of : FO G j__count_of "_count_of" 3 f__count_of) (h__count_of : j__count_of ≤ k) : SB G k ⟨defScope st_least_difference, fun _ => true⟩ N_least_difference (defBody st_least_difference) (d_least_difference f_check_semantics f__check_expressions f__cases f__greatest_needed f__count_of) :=
    s_cons (P_expr (e_call F_check_semantics (a_cons (e_var 0) (a_nil)) h_check_semantics))
    (s_cons (P_expr (e_call F__check_expressions (a_cons (e_tup (a_cons (e_var 1) (a_cons (e_var 2) (a_nil)))) (a_nil)) h__check_expressions))
    (s_cons (s_for false (i_seq (e_call F__cases (a_cons (e_var 0) (a_cons (e_call F__greatest_needed (a_cons (e_var 0) (a_cons (e_var 1) (a_cons (e_var 2) (a_nil)))) h__greatest_needed) (a_nil))) h__cases)) (g_name 3) (s_one (P_if (T_cmp c_ne (e_call F__count_of (a_cons (e_var 0) (a_cons (e_var 1) (a_cons (e_var 3) (a_nil)))) h__count_of) (e_call F__count_of (a_cons (e_var 0) (a_cons (e_var 2) (a_cons (e_var 3) (a_nil)))) h__count_of)) (s_one (P_ret (e_var 3))) (s_nil))))
    (s_one (P_ret (e_non)))))
abbrev st__greatest_needed : Stmt := topS 44
abbrev N__greatest_needed : List Str := ["semantics", "left", "right", "side"]
abbrev P__greatest_needed : List Str := ["semantics", "left", "right"]
theorem sc__greatest_needed : FnScope N__greatest_needed P__greatest_needed (defScope st__greatest_needed) := ⟨rfl, rfl, rfl, by decide +kernel, rfl, by decide +kernel, by decide +kernel⟩
def d__greatest_needed (f__leaves_among : List Slot → Mn D) (f_tuples_of : List Slot → Mn D) : Ev → Ms :=
    seqM (pIf (dCmp eqD (dBin ixD (dVar 0) (dLit c_DUPLICATES)) (dLit (.str "set"))) (pRet (dLit (.int 1))) (sNil))
    (pRet (dBin mulxD (dLit (.int 3)) (dFn maxLD (dCons (dComp [3] (dItm (dTup (dCons (dVar 1) (dCons (dVar 2) (dNil))))) (.name 3) (dYes) (dCl 1 f__leaves_among (dCons (dCl 3 f_tuples_of (dCons (dVar 3) (dCons (dLit (.str "expression")) (dCons (dLit c_MOST_TUPLES) (dNil))))) (dNil)))) (dNil)))))
theorem s__greatest_needed {G : Gm} {k : Nat} (B : Tp G) {j__leaves_among : Nat} {f__leaves_among : List Slot → Mn D} (F__leaves_among : FO G j__leaves_among "_leaves_among" 1 f__leaves_among) (h__leaves_among : j__leaves_among ≤ k) {j_tuples_of : Nat} {f_tuples_of : List Slot → Mn D} (F_tuples_of : FO G j_tuples_of "tuples_of" 3 f_tuples_of) (h_tuples_of : j_tuples_of ≤ k) : SB G k ⟨defScope st__greatest_needed, fun _ => true⟩ N__greatest_needed (defBody st__greatest_needed) (d__greatest_needed f__leaves_among f_tuples_of) :=
    s_cons (P_if (T_cmp c_eq (E_ix (e_var 0) (e_glob B.c_DUPLICATES)) (e_str)) (s_one (P_ret (e_int))) (s_nil))
    (s_one (P_ret (e_mulx (e_int) (e_maxL (a_cons (e_lc [("side", 3)] (i_seq (e_tup (a_cons (e_var 1) (a_cons (e_var 2) (a_nil))))) (g_name 3) (p_nil) (e_call F__leaves_among (a_cons (e_call F_tuples_of (a_cons (e_var 3) (a_cons (e_str) (a_cons (e_glob B.c_MOST_TUPLES) (a_nil)))) h_tuples_of) (a_nil)) h__leaves_among)) (a_nil)) B.b_max))))
abbrev st__cases : Stmt := topS 45
abbrev N__cases : List Str := ["semantics", "greatest", "truths", "both", "a", "p", "q"]
abbrev P__cases : List Str := ["semantics", "greatest"]
theorem sc__cases : FnScope N__cases P__cases (defScope st__cases) := ⟨rfl, rfl, rfl, by decide +kernel, rfl, by decide +kernel, by decide +kernel⟩
def d__cases  : Ev → Ms :=
    seqM (pSet 2 (dIf (dCmp eqD (dBin ixD (dVar 0) (dLit c_NULLS)) (dLit (.str "unknown"))) (dTup (dCons (dLit (.bool true)) (dCons (dLit (.bool false)) (dCons (dLit .none) (dNil))))) (dTup (dCons (dLit (.bool true)) (dCons (dLit (.bool false)) (dNil))))))
    (pRet (dCompN [3, 4, 5, 6] (dRng rng1 (dCons (dBin addD (dBin mulxD (dLit (.int 2)) (dVar 1)) (dLit (.int 1))) (dNil))) (dMid (dRng rng2 (dCons (dFn max2D (dCons (dLit (.int 0)) (dCons (dBin subD (dVar 3) (dVar 1)) (dNil)))) (dCons (dBin addD (dFn min2D (dCons (dVar 3) (dCons (dVar 1) (dNil)))) (dLit (.int 1))) (dNil)))) [4, 5, 6] (dMid (dItm (dVar 2)) [5, 6] (dMid (dItm (dVar 2)) [6] (dLast (dTup (dCons (dVar 4) (dCons (dBin subD (dVar 3) (dVar 4)) (dCons (dVar 5) (dCons (dVar 6) (dNil))))))) (.name 6) (dYes)) (.name 5) (dYes)) (.name 4) (dYes)) (.name 3) (dYes)))
theorem s__cases {G : Gm} {k : Nat} (B : Tp G)  : SB G k ⟨defScope st__cases, fun _ => true⟩ N__cases (defBody st__cases) (d__cases) :=
    s_cons (P_set 2 (e_if (T_cmp c_eq (E_ix (e_var 0) (e_glob B.c_NULLS)) (e_str)) (e_tup (a_cons (e_bl) (a_cons (e_bl) (a_cons (e_non) (a_nil))))) (e_tup (a_cons (e_bl) (a_cons (e_bl) (a_nil))))))
    (s_one (P_ret (e_lc4 [("both", 3), ("a", 4), ("p", 5), ("q", 6)] [4, 5, 6] [5, 6] [6] (i_range1 (a_cons (E_add (e_mulx (e_int) (e_var 1)) (e_int)) (a_nil)) B.b_range) (g_name 3) (p_nil) (i_range2 (a_cons (e_max2 (a_cons (e_int) (a_cons (E_sub (e_var 3) (e_var 1)) (a_nil))) B.b_max) (a_cons (E_add (e_min2 (a_cons (e_var 3) (a_cons (e_var 1) (a_nil))) B.b_min) (e_int)) (a_nil))) B.b_range) (g_name 4) (p_nil) (i_seq (e_var 2)) (g_name 5) (p_nil) (i_seq (e_var 2)) (g_name 6) (p_nil) (e_tup (a_cons (e_var 4) (a_cons (E_sub (e_var 3) (e_var 4)) (a_cons (e_var 5) (a_cons (e_var 6) (a_nil)))))))))
abbrev st__law_taken : Stmt := topS 47
abbrev N__law_taken : List Str := ["row", "many", "cell", "found"]
abbrev P__law_taken : List Str := ["row", "many"]
theorem sc__law_taken : FnScope N__law_taken P__law_taken (defScope st__law_taken) := ⟨rfl, rfl, rfl, by decide +kernel, rfl, by decide +kernel, by decide +kernel⟩
abbrev st__law_pick : Stmt := topS 48
abbrev N__law_pick : List Str := ["row", "kinds"]
abbrev P__law_pick : List Str := ["row", "kinds"]
theorem sc__law_pick : FnScope N__law_pick P__law_pick (defScope st__law_pick) := ⟨rfl, rfl, rfl, by decide +kernel, rfl, by decide +kernel, by decide +kernel⟩
theorem s__law_pick {G : Gm} {k : Nat} (B : Tp G) {j__law_taken : Nat} {f__law_taken : List Slot → Mn D} (F__law_taken : FO G j__law_taken "_law_taken" 2 f__law_taken) (h__law_taken : j__law_taken ≤ k) : SB G k ⟨defScope st__law_pick, fun _ => true⟩ N__law_pick (defBody st__law_pick) (LW.d__law_pick f__law_taken) :=
    s_one (P_ret (E_ix (e_var 1) (e_call F__law_taken (a_row 0 (a_cons (e_len (a_cons (e_var 1) (a_nil)) B.b_len) (a_nil))) h__law_taken)))
abbrev st__law_alike : Stmt := topS 49
abbrev N__law_alike : List Str := ["found", "due", "k"]
abbrev P__law_alike : List Str := ["found", "due"]
theorem sc__law_alike : FnScope N__law_alike P__law_alike (defScope st__law_alike) := ⟨rfl, rfl, rfl, by decide +kernel, rfl, by decide +kernel, by decide +kernel⟩
theorem s__law_alike {G : Gm} {k : Nat} (B : Tp G) {j__law_alike : Nat} {f__law_alike : List Slot → Mn D} (F__law_alike : FO G j__law_alike "_law_alike" 2 f__law_alike) (h__law_alike : j__law_alike ≤ k) : SB G k ⟨defScope st__law_alike, fun _ => true⟩ N__law_alike (defBody st__law_alike) (LW.d__law_alike f__law_alike) :=
    s_cons (P_if (t_val (e_isi2 .tuple .list (e_var 1) PyProof.Rows.boot_tuple PyProof.Rows.boot_list B.b_isinstance B.b_tuple B.b_list)) (s_cons (P_if (t_w (w_or (t_not (t_val (e_isi2 .tuple .list (e_var 0) PyProof.Rows.boot_tuple PyProof.Rows.boot_list B.b_isinstance B.b_tuple B.b_list))) (w_or1 (T_cmp c_ne (e_isi1 .list (e_var 0) PyProof.Rows.boot_list B.b_isinstance B.b_list) (e_isi1 .list (e_var 1) PyProof.Rows.boot_list B.b_isinstance B.b_list))))) (s_one (P_ret (e_bl))) (s_nil))
    (s_cons (P_if (T_cmp c_ne (e_len (a_cons (e_var 0) (a_nil)) B.b_len) (e_len (a_cons (e_var 1) (a_nil)) B.b_len)) (s_one (P_ret (e_bl))) (s_nil))
    (s_one (P_ret (E_cmp c_eq (e_lc [("k", 2)] (i_range1 (a_cons (e_len (a_cons (e_var 1) (a_nil)) B.b_len) (a_nil)) B.b_range) (g_name 2) (p_one (t_not (t_val (e_call F__law_alike (a_cons (E_ix (e_var 0) (e_var 2)) (a_cons (E_ix (e_var 1) (e_var 2)) (a_nil))) h__law_alike)))) (e_var 2)) (e_lst (a_nil))))))) (s_nil))
    (s_cons (P_if (t_w (w_or (T_cmp c_is (e_var 1) (e_non)) (w_or1 (t_val (e_isi1 .str (e_var 1) PyProof.Rows.boot_str B.b_isinstance B.b_str))))) (s_one (P_ret (e_and (E_cmp c_eq (e_var 0) (e_var 1)) (e_or1 (E_cmp c_eq (e_isi1 .str (e_var 0) PyProof.Rows.boot_str B.b_isinstance B.b_str) (e_isi1 .str (e_var 1) PyProof.Rows.boot_str B.b_isinstance B.b_str)))))) (s_nil))
    (s_one (P_ret (e_and (e_isi1 .int (e_var 0) PyProof.Rows.boot_int B.b_isinstance B.b_int) (e_and (E_cmp c_eq (e_isi1 .bool (e_var 0) PyProof.Rows.boot_bool B.b_isinstance B.b_bool) (e_isi1 .bool (e_var 1) PyProof.Rows.boot_bool B.b_isinstance B.b_bool)) (e_or1 (E_cmp c_eq (e_var 0) (e_var 1))))))))
abbrev st__law_semantics : Stmt := topS 50
abbrev N__law_semantics : List Str := ["row", "first", "second", "third", "fourth"]
abbrev P__law_semantics : List Str := ["row"]
theorem sc__law_semantics : FnScope N__law_semantics P__law_semantics (defScope st__law_semantics) := ⟨rfl, rfl, rfl, by decide +kernel, rfl, by decide +kernel, by decide +kernel⟩
theorem s__law_semantics {G : Gm} {k : Nat} {j__law_pick : Nat} {f__law_pick : List Slot → Mn D} (F__law_pick : FO G j__law_pick "_law_pick" 2 f__law_pick) (h__law_pick : j__law_pick ≤ k) : SB G k ⟨defScope st__law_semantics, fun _ => true⟩ N__law_semantics (defBody st__law_semantics) (LW.d__law_semantics f__law_pick) :=
    s_cons (P_par 1 2 (a_cons (e_call F__law_pick (a_row 0 (a_cons (e_lst (a_cons (e_str) (a_cons (e_str) (a_cons (e_str) (a_nil))))) (a_nil))) h__law_pick) (a_cons (e_call F__law_pick (a_row 0 (a_cons (e_lst (a_cons (e_str) (a_cons (e_str) (a_nil)))) (a_nil))) h__law_pick) (a_nil))))
    (s_cons (P_par 3 4 (a_cons (e_call F__law_pick (a_row 0 (a_cons (e_lst (a_cons (e_str) (a_cons (e_str) (a_nil)))) (a_nil))) h__law_pick) (a_cons (e_call F__law_pick (a_row 0 (a_cons (e_lst (a_cons (e_str) (a_cons (e_str) (a_cons (e_str) (a_cons (e_str) (a_nil)))))) (a_nil))) h__law_pick) (a_nil))))
    (s_one (P_ret (e_tup (a_cons (e_var 1) (a_cons (e_var 2) (a_cons (e_var 3) (a_cons (e_var 4) (a_cons (e_call F__law_pick (a_row 0 (a_cons (e_lst (a_cons (e_str) (a_cons (e_str) (a_nil)))) (a_nil))) h__law_pick) (a_nil))))))))))
abbrev st__law_join : Stmt := topS 51
abbrev N__law_join : List Str := ["word", "one", "other", "some"]
abbrev P__law_join : List Str := ["word", "one", "other"]
theorem sc__law_join : FnScope N__law_join P__law_join (defScope st__law_join) := ⟨rfl, rfl, rfl, by decide +kernel, rfl, by decide +kernel, by decide +kernel⟩
theorem s__law_join {G : Gm} {k : Nat}  (hk : 1 ≤ k) : SB G k ⟨defScope st__law_join, fun _ => true⟩ N__law_join (defBody st__law_join) (LW.d__law_join) :=
    s_cons (P_set 3 (e_lst (a_cons (e_var 1) (a_cons (e_var 2) (a_nil)))))
    (s_cons (P_if (T_cmp c_eq (e_var 0) (e_str)) (s_one (P_ret (e_if (T_cmp (c_in hk) (e_bl) (e_var 3)) (e_bl) (e_if (T_cmp (c_in hk) (e_non) (e_var 3)) (e_non) (e_bl))))) (s_nil))
    (s_one (P_ret (e_if (T_cmp (c_in hk) (e_bl) (e_var 3)) (e_bl) (e_if (T_cmp (c_in hk) (e_non) (e_var 3)) (e_non) (e_bl))))))
abbrev st__law_many : Stmt := topS 52
abbrev N__law_many : List Str := ["way", "word", "a", "b", "many"]
abbrev P__law_many : List Str := ["way", "word", "a", "b"]
theorem sc__law_many : FnScope N__law_many P__law_many (defScope st__law_many) := ⟨rfl, rfl, rfl, by decide +kernel, rfl, by decide +kernel, by decide +kernel⟩
theorem s__law_many {G : Gm} {k : Nat} (B : Tp G)  : SB G k ⟨defScope st__law_many, fun _ => true⟩ N__law_many (defBody st__law_many) (LW.d__law_many) :=
    s_cons (P_if (T_cmp c_eq (e_var 1) (e_str)) (s_one (P_set 4 (e_if (T_cmp c_eq (E_ix (e_var 0) (e_int)) (e_str)) (E_add (e_var 2) (e_var 3)) (e_max2 (a_cons (e_var 2) (a_cons (e_var 3) (a_nil))) B.b_max)))) (s_one (P_if (T_cmp c_eq (e_var 1) (e_str)) (s_one (P_set 4 (e_min2 (a_cons (e_var 2) (a_cons (e_var 3) (a_nil))) B.b_min))) (s_one (P_if (t_w (w_or (T_cmp c_eq (E_ix (e_var 0) (e_int)) (e_str)) (w_or1 (T_cmp c_eq (E_ix (e_var 0) (e_int)) (e_str))))) (s_one (P_set 4 (e_mulx (e_var 2) (e_intc (a_cons (E_cmp c_eq (e_var 3) (e_int)) (a_nil)) B.b_int)))) (s_one (P_set 4 (e_max2 (a_cons (e_int) (a_cons (E_sub (e_var 2) (e_var 3)) (a_nil))) B.b_max))))))))
    (s_one (P_ret (e_if (T_cmp c_eq (E_ix (e_var 0) (e_int)) (e_str)) (e_min2 (a_cons (e_var 4) (a_cons (e_int) (a_nil))) B.b_min) (e_var 4))))
abbrev st__law_condition : Stmt := topS 53
abbrev N__law_condition : List Str := ["row", "deep", "kind"]
abbrev P__law_condition : List Str := ["row", "deep"]
theorem sc__law_condition : FnScope N__law_condition P__law_condition (defScope st__law_condition) := ⟨rfl, rfl, rfl, by decide +kernel, rfl, by decide +kernel, by decide +kernel⟩
theorem s__law_condition {G : Gm} {k : Nat} (B : Tp G) {j__law_taken : Nat} {f__law_taken : List Slot → Mn D} (F__law_taken : FO G j__law_taken "_law_taken" 2 f__law_taken) (h__law_taken : j__law_taken ≤ k) {j__law_pick : Nat} {f__law_pick : List Slot → Mn D} (F__law_pick : FO G j__law_pick "_law_pick" 2 f__law_pick) (h__law_pick : j__law_pick ≤ k) {j__law_condition : Nat} {f__law_condition : List Slot → Mn D} (F__law_condition : FO G j__law_condition "_law_condition" 2 f__law_condition) (h__law_condition : j__law_condition ≤ k) : SB G k ⟨defScope st__law_condition, fun _ => true⟩ N__law_condition (defBody st__law_condition) (LW.d__law_condition f__law_taken f__law_pick f__law_condition) :=
    s_cons (P_set 2 (e_call F__law_taken (a_row 0 (a_cons (E_add (e_int) (e_mulx (e_int) (e_intc (a_cons (E_cmp c_gt (e_var 1) (e_int)) (a_nil)) B.b_int))) (a_nil))) h__law_taken))
    (s_cons (P_if (T_cmp c_lt (e_var 2) (e_int)) (s_one (P_ret (e_call F__law_pick (a_row 0 (a_cons (e_lst (a_cons (e_tup (a_cons (e_str) (a_nil))) (a_cons (e_tup (a_cons (e_str) (a_nil))) (a_cons (e_tup (a_cons (e_str) (a_nil))) (a_nil))))) (a_nil))) h__law_pick))) (s_nil))
    (s_cons (P_if (T_cmp c_eq (e_var 2) (e_int)) (s_one (P_ret (e_tup (a_cons (e_str) (a_cons (e_call F__law_condition (a_row 0 (a_cons (E_sub (e_var 1) (e_int)) (a_nil))) h__law_condition) (a_nil)))))) (s_nil))
    (s_one (P_ret (e_tup (a_cons (e_call F__law_pick (a_row 0 (a_cons (e_lst (a_cons (e_str) (a_cons (e_str) (a_nil)))) (a_nil))) h__law_pick) (a_cons (e_call F__law_condition (a_row 0 (a_cons (E_sub (e_var 1) (e_int)) (a_nil))) h__law_condition) (a_cons (e_call F__law_condition (a_row 0 (a_cons (E_sub (e_var 1) (e_int)) (a_nil))) h__law_condition) (a_nil)))))))))
abbrev st__law_expression : Stmt := topS 54
abbrev N__law_expression : List Str := ["row", "leaves", "first", "word", "found"]
abbrev P__law_expression : List Str := ["row", "leaves"]
theorem sc__law_expression : FnScope N__law_expression P__law_expression (defScope st__law_expression) := ⟨rfl, rfl, rfl, by decide +kernel, rfl, by decide +kernel, by decide +kernel⟩
theorem s__law_expression {G : Gm} {k : Nat} {j__law_taken : Nat} {f__law_taken : List Slot → Mn D} (F__law_taken : FO G j__law_taken "_law_taken" 2 f__law_taken) (h__law_taken : j__law_taken ≤ k) {j__law_condition : Nat} {f__law_condition : List Slot → Mn D} (F__law_condition : FO G j__law_condition "_law_condition" 2 f__law_condition) (h__law_condition : j__law_condition ≤ k) {j__law_pick : Nat} {f__law_pick : List Slot → Mn D} (F__law_pick : FO G j__law_pick "_law_pick" 2 f__law_pick) (h__law_pick : j__law_pick ≤ k) {j__law_expression : Nat} {f__law_expression : List Slot → Mn D} (F__law_expression : FO G j__law_expression "_law_expression" 2 f__law_expression) (h__law_expression : j__law_expression ≤ k) : SB G k ⟨defScope st__law_expression, fun _ => true⟩ N__law_expression (defBody st__law_expression) (LW.d__law_expression f__law_taken f__law_condition f__law_pick f__law_expression) :=
    s_cons (P_if (t_w (w_or (T_cmp c_lt (e_var 1) (e_int)) (w_or1 (T_cmp c_eq (e_call F__law_taken (a_row 0 (a_cons (e_int) (a_nil))) h__law_taken) (e_int))))) (s_one (P_ret (e_if (T_cmp c_gt (e_call F__law_taken (a_row 0 (a_cons (e_int) (a_nil))) h__law_taken) (e_int)) (e_tup (a_cons (e_str) (a_cons (e_call F__law_taken (a_row 0 (a_cons (e_int) (a_nil))) h__law_taken) (a_nil)))) (e_tup (a_cons (e_str) (a_cons (e_call F__law_condition (a_row 0 (a_cons (e_int) (a_nil))) h__law_condition) (a_cons (e_tup (a_cons (e_str) (a_cons (e_call F__law_taken (a_row 0 (a_cons (e_int) (a_nil))) h__law_taken) (a_nil)))) (a_nil)))))))) (s_nil))
    (s_cons (P_set 2 (E_add (e_int) (e_call F__law_taken (a_row 0 (a_cons (E_sub (e_var 1) (e_int)) (a_nil))) h__law_taken)))
    (s_cons (P_set 3 (e_call F__law_pick (a_row 0 (a_cons (e_lst (a_cons (e_str) (a_cons (e_str) (a_cons (e_str) (a_cons (e_str) (a_cons (e_str) (a_nil))))))) (a_nil))) h__law_pick))
    (s_cons (P_set 4 (e_tup (a_cons (e_var 3) (a_cons (e_call F__law_expression (a_row 0 (a_cons (e_var 2) (a_nil))) h__law_expression) (a_cons (e_call F__law_expression (a_row 0 (a_cons (E_sub (e_var 1) (e_var 2)) (a_nil))) h__law_expression) (a_nil))))))
    (s_one (P_ret (e_if (T_cmp c_eq (e_call F__law_taken (a_row 0 (a_cons (e_int) (a_nil))) h__law_taken) (e_int)) (e_tup (a_cons (e_str) (a_cons (e_call F__law_condition (a_row 0 (a_cons (e_int) (a_nil))) h__law_condition) (a_cons (e_var 4) (a_nil))))) (e_var 4)))))))
abbrev st__law_leaves : Stmt := topS 55
abbrev N__law_leaves : List Str := ["tree"]
abbrev P__law_leaves : List Str := ["tree"]
theorem sc__law_leaves : FnScope N__law_leaves P__law_leaves (defScope st__law_leaves) := ⟨rfl, rfl, rfl, by decide +kernel, rfl, by decide +kernel, by decide +kernel⟩
theorem s__law_leaves {G : Gm} {k : Nat} {j__law_leaves : Nat} {f__law_leaves : List Slot → Mn D} (F__law_leaves : FO G j__law_leaves "_law_leaves" 1 f__law_leaves) (h__law_leaves : j__law_leaves ≤ k) : SB G k ⟨defScope st__law_leaves, fun _ => true⟩ N__law_leaves (defBody st__law_leaves) (LW.d__law_leaves f__law_leaves) :=
    s_cons (P_if (T_cmp c_eq (E_ix (e_var 0) (e_int)) (e_str)) (s_one (P_ret (e_int))) (s_nil))
    (s_one (P_ret (E_add (e_call F__law_leaves (a_cons (E_ix (e_var 0) (e_int)) (a_nil)) h__law_leaves) (e_if (T_cmp c_eq (E_ix (e_var 0) (e_int)) (e_str)) (e_int) (e_call F__law_leaves (a_cons (E_ix (e_var 0) (e_int)) (a_nil)) h__law_leaves)))))
abbrev st__law_known : Stmt := topS 56
abbrev N__law_known : List Str := ["mark", "p", "q", "one"]
abbrev P__law_known : List Str := ["mark", "p", "q"]
theorem sc__law_known : FnScope N__law_known P__law_known (defScope st__law_known) := ⟨rfl, rfl, rfl, by decide +kernel, rfl, by decide +kernel, by decide +kernel⟩
theorem s__law_known {G : Gm} {k : Nat} {j__law_known : Nat} {f__law_known : List Slot → Mn D} (F__law_known : FO G j__law_known "_law_known" 3 f__law_known) (h__law_known : j__law_known ≤ k) {j__law_join : Nat} {f__law_join : List Slot → Mn D} (F__law_join : FO G j__law_join "_law_join" 3 f__law_join) (h__law_join : j__law_join ≤ k) (hk : 1 ≤ k) : SB G k ⟨defScope st__law_known, fun _ => true⟩ N__law_known (defBody st__law_known) (LW.d__law_known f__law_known f__law_join) :=
    s_cons (P_if (T_cmp (c_in hk) (E_ix (e_var 0) (e_int)) (e_lst (a_cons (e_str) (a_cons (e_str) (a_nil))))) (s_one (P_ret (e_if (T_cmp c_eq (E_ix (e_var 0) (e_int)) (e_str)) (e_var 1) (e_var 2)))) (s_nil))
    (s_cons (P_set 3 (e_call F__law_known (a_cons (E_ix (e_var 0) (e_int)) (a_cons (e_var 1) (a_cons (e_var 2) (a_nil)))) h__law_known))
    (s_cons (P_if (T_cmp c_eq (E_ix (e_var 0) (e_int)) (e_str)) (s_one (P_ret (e_if (T_cmp c_is (e_var 3) (e_non)) (e_non) (e_not (e_var 3))))) (s_nil))
    (s_one (P_ret (e_call F__law_join (a_cons (E_ix (e_var 0) (e_int)) (a_cons (e_var 3) (a_cons (e_call F__law_known (a_cons (E_ix (e_var 0) (e_int)) (a_cons (e_var 1) (a_cons (e_var 2) (a_nil)))) h__law_known) (a_nil)))) h__law_join)))))
abbrev st__law_count : Stmt := topS 57
abbrev N__law_count : List Str := ["way", "tree", "case"]
abbrev P__law_count : List Str := ["way", "tree", "case"]
theorem sc__law_count : FnScope N__law_count P__law_count (defScope st__law_count) := ⟨rfl, rfl, rfl, by decide +kernel, rfl, by decide +kernel, by decide +kernel⟩
theorem s__law_count {G : Gm} {k : Nat} {j__law_known : Nat} {f__law_known : List Slot → Mn D} (F__law_known : FO G j__law_known "_law_known" 3 f__law_known) (h__law_known : j__law_known ≤ k) {j__law_count : Nat} {f__law_count : List Slot → Mn D} (F__law_count : FO G j__law_count "_law_count" 3 f__law_count) (h__law_count : j__law_count ≤ k) {j__law_many : Nat} {f__law_many : List Slot → Mn D} (F__law_many : FO G j__law_many "_law_many" 4 f__law_many) (h__law_many : j__law_many ≤ k) : SB G k ⟨defScope st__law_count, fun _ => true⟩ N__law_count (defBody st__law_count) (LW.d__law_count f__law_known f__law_count f__law_many) :=
    s_cons (P_if (T_cmp c_eq (E_ix (e_var 1) (e_int)) (e_str)) (s_one (P_ret (E_ix (e_var 2) (E_ix (e_var 1) (e_int))))) (s_nil))
    (s_cons (P_if (T_cmp c_eq (E_ix (e_var 1) (e_int)) (e_str)) (s_one (P_ret (e_if (T_cmp c_is (e_call F__law_known (a_cons (E_ix (e_var 1) (e_int)) (a_cons (E_ix (e_var 2) (e_int)) (a_cons (E_ix (e_var 2) (e_int)) (a_nil)))) h__law_known) (e_bl)) (e_call F__law_count (a_cons (e_var 0) (a_cons (E_ix (e_var 1) (e_int)) (a_cons (e_var 2) (a_nil)))) h__law_count) (e_int)))) (s_nil))
    (s_one (P_ret (e_call F__law_many (a_cons (e_var 0) (a_cons (E_ix (e_var 1) (e_int)) (a_cons (e_call F__law_count (a_cons (e_var 0) (a_cons (E_ix (e_var 1) (e_int)) (a_cons (e_var 2) (a_nil)))) h__law_count) (a_cons (e_call F__law_count (a_cons (e_var 0) (a_cons (E_ix (e_var 1) (e_int)) (a_cons (e_var 2) (a_nil)))) h__law_count) (a_nil))))) h__law_many))))
abbrev st__law_twins : Stmt := topS 58
abbrev N__law_twins : List Str := ["row", "one", "a", "b", "swaps"]
abbrev P__law_twins : List Str := ["row"]
theorem sc__law_twins : FnScope N__law_twins P__law_twins (defScope st__law_twins) := ⟨rfl, rfl, rfl, by decide +kernel, rfl, by decide +kernel, by decide +kernel⟩
theorem s__law_twins {G : Gm} {k : Nat} {j__law_tree : Nat} {f__law_tree : List Slot → Mn D} (F__law_tree : FO G j__law_tree "_law_tree" 2 f__law_tree) (h__law_tree : j__law_tree ≤ k) {j__law_pick : Nat} {f__law_pick : List Slot → Mn D} (F__law_pick : FO G j__law_pick "_law_pick" 2 f__law_pick) (h__law_pick : j__law_pick ≤ k) : SB G k ⟨defScope st__law_twins, fun _ => true⟩ N__law_twins (defBody st__law_twins) (LW.d__law_twins f__law_tree f__law_pick) :=
    s_cons (P_par3 1 2 3 (a_cons (e_call F__law_tree (a_row 0 (a_cons (e_int) (a_nil))) h__law_tree) (a_cons (e_tup (a_cons (e_str) (a_cons (e_int) (a_nil)))) (a_cons (e_tup (a_cons (e_str) (a_cons (e_int) (a_nil)))) (a_nil)))))
    (s_cons (P_set 4 (e_lst (a_cons (e_tup (a_cons (e_tup (a_cons (e_str) (a_cons (e_var 2) (a_cons (e_tup (a_cons (e_str) (a_cons (e_var 2) (a_cons (e_var 3) (a_nil))))) (a_nil))))) (a_cons (e_var 2) (a_nil)))) (a_cons (e_tup (a_cons (e_tup (a_cons (e_str) (a_cons (e_var 2) (a_cons (e_var 3) (a_nil))))) (a_cons (e_tup (a_cons (e_str) (a_cons (e_var 2) (a_cons (e_tup (a_cons (e_str) (a_cons (e_var 2) (a_cons (e_var 3) (a_nil))))) (a_nil))))) (a_nil)))) (a_nil)))))
    (s_cons (P_set 4 (E_add (e_var 4) (e_lst (a_cons (e_tup (a_cons (e_tup (a_cons (e_str) (a_cons (e_tup (a_cons (e_str) (a_cons (e_var 2) (a_cons (e_var 3) (a_nil))))) (a_cons (e_var 3) (a_nil))))) (a_cons (e_tup (a_cons (e_str) (a_cons (e_var 2) (a_cons (e_var 3) (a_nil))))) (a_nil)))) (a_cons (e_tup (a_cons (e_tup (a_cons (e_str) (a_cons (e_tup (a_cons (e_str) (a_cons (e_var 2) (a_cons (e_var 3) (a_nil))))) (a_cons (e_var 3) (a_nil))))) (a_cons (e_var 2) (a_nil)))) (a_nil))))))
    (s_cons (P_set 4 (E_add (e_var 4) (e_lst (a_cons (e_tup (a_cons (e_tup (a_cons (e_str) (a_cons (e_var 2) (a_cons (e_var 3) (a_nil))))) (a_cons (e_tup (a_cons (e_str) (a_cons (e_var 3) (a_cons (e_var 2) (a_nil))))) (a_nil)))) (a_cons (e_tup (a_cons (e_tup (a_cons (e_str) (a_cons (e_var 2) (a_cons (e_var 2) (a_nil))))) (a_cons (e_var 2) (a_nil)))) (a_cons (e_tup (a_cons (e_tup (a_cons (e_str) (a_cons (e_var 2) (a_cons (e_tup (a_cons (e_str) (a_cons (e_var 3) (a_cons (e_var 3) (a_nil))))) (a_nil))))) (a_cons (e_tup (a_cons (e_str) (a_cons (e_var 2) (a_cons (e_var 3) (a_nil))))) (a_nil)))) (a_nil)))))))
    (s_cons (P_set 4 (E_add (e_var 4) (e_lst (a_cons (e_tup (a_cons (e_tup (a_cons (e_str) (a_cons (e_var 1) (a_cons (e_var 2) (a_nil))))) (a_cons (e_tup (a_cons (e_str) (a_cons (e_var 2) (a_cons (e_var 1) (a_nil))))) (a_nil)))) (a_cons (e_tup (a_cons (e_tup (a_cons (e_str) (a_cons (e_tup (a_cons (e_str) (a_cons (e_tup (a_cons (e_str) (a_nil))) (a_cons (e_tup (a_cons (e_str) (a_cons (e_tup (a_cons (e_str) (a_nil))) (a_nil)))) (a_nil))))) (a_cons (e_var 2) (a_nil))))) (a_cons (e_var 2) (a_nil)))) (a_cons (e_tup (a_cons (e_var 1) (a_cons (e_var 1) (a_nil)))) (a_nil)))))))
    (s_cons (P_set 4 (E_add (e_var 4) (e_lst (a_cons (e_tup (a_cons (e_tup (a_cons (e_str) (a_cons (e_tup (a_cons (e_str) (a_cons (e_tup (a_cons (e_str) (a_nil))) (a_nil)))) (a_cons (e_var 2) (a_nil))))) (a_cons (e_tup (a_cons (e_str) (a_cons (e_var 2) (a_cons (e_tup (a_cons (e_str) (a_cons (e_tup (a_cons (e_str) (a_nil))) (a_cons (e_var 2) (a_nil))))) (a_nil))))) (a_nil)))) (a_cons (e_tup (a_cons (e_tup (a_cons (e_str) (a_cons (e_var 1) (a_cons (e_var 1) (a_nil))))) (a_cons (e_var 1) (a_nil)))) (a_nil))))))
    (s_cons (P_set 4 (E_add (e_var 4) (e_lst (a_cons (e_tup (a_cons (e_tup (a_cons (e_str) (a_cons (e_tup (a_cons (e_str) (a_cons (e_var 2) (a_cons (e_var 3) (a_nil))))) (a_cons (e_tup (a_cons (e_str) (a_cons (e_var 2) (a_cons (e_var 3) (a_nil))))) (a_nil))))) (a_cons (e_var 2) (a_nil)))) (a_cons (e_tup (a_cons (e_tup (a_cons (e_str) (a_cons (e_var 1) (a_cons (e_var 3) (a_nil))))) (a_cons (e_tup (a_cons (e_str) (a_cons (e_var 3) (a_cons (e_var 1) (a_nil))))) (a_nil)))) (a_nil))))))
    (s_cons (P_set 4 (E_add (e_var 4) (e_lst (a_cons (e_tup (a_cons (e_tup (a_cons (e_str) (a_cons (e_tup (a_cons (e_str) (a_cons (e_var 2) (a_cons (e_var 3) (a_nil))))) (a_cons (e_var 1) (a_nil))))) (a_cons (e_tup (a_cons (e_str) (a_cons (e_var 2) (a_cons (e_tup (a_cons (e_str) (a_cons (e_var 3) (a_cons (e_var 1) (a_nil))))) (a_nil))))) (a_nil)))) (a_cons (e_tup (a_cons (e_call F__law_tree (a_row 0 (a_cons (e_int) (a_nil))) h__law_tree) (a_cons (e_call F__law_tree (a_row 0 (a_cons (e_int) (a_nil))) h__law_tree) (a_nil)))) (a_nil))))))
    (s_one (P_ret (e_call F__law_pick (a_row 0 (a_cons (e_var 4) (a_nil))) h__law_pick))))))))))
abbrev st__law_tuples : Stmt := topS 59
abbrev N__law_tuples : List Str := ["tree", "part"]
abbrev P__law_tuples : List Str := ["tree"]
theorem sc__law_tuples : FnScope N__law_tuples P__law_tuples (defScope st__law_tuples) := ⟨rfl, rfl, rfl, by decide +kernel, rfl, by decide +kernel, by decide +kernel⟩
theorem s__law_tuples {G : Gm} {k : Nat} (B : Tp G) {j__law_tuples : Nat} {f__law_tuples : List Slot → Mn D} (F__law_tuples : FO G j__law_tuples "_law_tuples" 1 f__law_tuples) (h__law_tuples : j__law_tuples ≤ k) : SB G k ⟨defScope st__law_tuples, fun _ => true⟩ N__law_tuples (defBody st__law_tuples) (LW.d__law_tuples f__law_tuples) :=
    s_one (P_ret (E_add (e_int) (e_sum (a_cons (e_lc [("part", 1)] (i_seq (E_slLo (e_var 0) (e_int))) (g_name 1) (p_one (t_val (e_isi1 .tuple (e_var 1) PyProof.Rows.boot_tuple B.b_isinstance B.b_tuple))) (e_call F__law_tuples (a_cons (e_var 1) (a_nil)) h__law_tuples)) (a_nil)) B.b_sum)))
abbrev st__law_tree : Stmt := topS 60
abbrev N__law_tree : List Str := ["row", "leaves", "found"]
abbrev P__law_tree : List Str := ["row", "leaves"]
theorem sc__law_tree : FnScope N__law_tree P__law_tree (defScope st__law_tree) := ⟨rfl, rfl, rfl, by decide +kernel, rfl, by decide +kernel, by decide +kernel⟩
theorem s__law_tree {G : Gm} {k : Nat} {j__law_expression : Nat} {f__law_expression : List Slot → Mn D} (F__law_expression : FO G j__law_expression "_law_expression" 2 f__law_expression) (h__law_expression : j__law_expression ≤ k) {j__law_tuples : Nat} {f__law_tuples : List Slot → Mn D} (F__law_tuples : FO G j__law_tuples "_law_tuples" 1 f__law_tuples) (h__law_tuples : j__law_tuples ≤ k) : SB G k ⟨defScope st__law_tree, fun _ => true⟩ N__law_tree (defBody st__law_tree) (LW.d__law_tree f__law_expression f__law_tuples) :=
    s_cons (P_set 2 (e_call F__law_expression (a_row 0 (a_cons (e_var 1) (a_nil))) h__law_expression))
    (s_one (P_ret (e_if (T_cmp c_lt (e_call F__law_tuples (a_cons (e_var 2) (a_nil)) h__law_tuples) (e_int)) (e_var 2) (e_tup (a_cons (e_str) (a_cons (e_tup (a_cons (e_str) (a_cons (e_int) (a_nil)))) (a_cons (e_tup (a_cons (e_str) (a_cons (e_int) (a_nil)))) (a_nil))))))))
abbrev st_law : Stmt := topS 61
abbrev N_law : List Str := ["script", "row", "turn", "way", "left", "right", "most", "truths", "found", "pairs", "p", "total", "case", "a", "some", "q", "pair"]
abbrev P_law : List Str := ["script"]
theorem sc_law : FnScope N_law P_law (defScope st_law) := ⟨rfl, rfl, rfl, by decide +kernel, rfl, by decide +kernel, by decide +kernel⟩
end K01
namespace K01
open PySem PySem.Spec PyProof.Rows L2 DL LW
def isIntTo : D → Int → Bool
  | .int i, g => decide (0 ≤ i) && decide (i ≤ g)
  | _, _ => false
abbrev SpIntTo (f : Fs) : Prop := ∀ (d : D) (g : Int), NoDict d → f [.dat d, .dat (.int g)] = pur (.bool (isIntTo d g))
theorem int_to : SpIntTo (dFun 2 2 d_is_integer_to) := by
  intro d g h
  cases d with
  | int i =>
    by_cases h0 : 0 ≤ i <;> simp [dFun_eq, d_is_integer_to, isA, truD, leD, h0, isIntTo]
  | dict kvs => exact absurd rfl (h kvs)
  | _ => simp [dFun_eq, d_is_integer_to, isA, truD, leD, isIntTo]
abbrev SpSem (f : Fs) : Prop := ∀ a b c n e, f [.dat (wayD a b c n e)] = pur (.bool true)
theorem sem : SpSem (dFun 1 3 d_is_semantics) := by
  intro a b c n e
  have h1 : inD (.str (if a then "bag" else "set")) (.tuple [.str "bag", .str "set"]) = some true := by cases a <;> (rw [in_tup _ _ rfl rfl]; simp)
  have h2 : inD (.str (if b then "maximum" else "sum")) (.tuple [.str "maximum", .str "sum"]) = some true := by cases b <;> (rw [in_tup _ _ rfl rfl]; simp)
  have h3 : inD (.str (if c then "count" else "kind")) (.tuple [.str "count", .str "kind"]) = some true := by cases c <;> (rw [in_tup _ _ rfl rfl]; simp)
  have h4 : inD (.str (Str.ofString n.s)) (.tuple [.str "none", .str "unknown", .str "value"]) = some true := by cases n <;> (rw [in_tup _ _ rfl rfl]; simp [N3.s])
  have h5 : inD (.str (if e then "null" else "zero")) (.tuple [.str "null", .str "zero"]) = some true := by cases e <;> (rw [in_tup _ _ rfl rfl]; simp)
  simp [dFun_eq, d_is_semantics, isA, truD, c_WORDS, lenD, wayD, zipD, h1, h2, h3, h4, h5, allD, bools]
abbrev SpChkS (f : Fs) : Prop := ∀ a b c n e, f [.dat (wayD a b c n e)] = pur .none
theorem chk_sem {f : Fs} (h : SpSem f) : SpChkS (dFun 1 1 (d_check_semantics f)) := by
  intro a b c n e
  simp [dFun_eq, d_check_semantics, h _ _ _ _ _, truD]
inductive Nd where
  | c (x : Cnd)
  | e (x : Ex)
def Nd.d : Nd → D
  | .c x => x.d
  | .e x => x.d
def Nd.kind : Nd → String
  | .c _ => "condition"
  | .e _ => "expression"
def Nd.pr (x : Nd) : D := .tuple [x.d, .str (Str.ofString x.kind)]
def Nd.inner : Nd → List Nd
  | .c (.not k) => [.c k]
  | .c (.and k l) => [.c k, .c l]
  | .c (.or k l) => [.c k, .c l]
  | .c .p => []
  | .c .q => []
  | .e (.tab _) => []
  | .e (.op _ a b) => [.e a, .e b]
  | .e (.flt k a) => [.c k, .e a]
def Nd.size : Nd → Nat
  | .c x => x.size
  | .e x => x.size
def Nd.leaf : Nd → Nat
  | .e (.tab _) => 1
  | _ => 0
def Nd.leaves : Nd → Nat
  | .c _ => 0
  | .e x => x.leaves
theorem col_nd (c : Bool) : NoDict (colD c) := by intro k e; cases c <;> simp [colD] at e
theorem col_ok (c : Bool) : isIntTo (colD c) 1 = true := by cases c <;> rfl
@[simp] theorem gi_e : kinD k_GREATEST (.str "expression") = some false := by simp [kinD, k_GREATEST, List.lookup]
@[simp] theorem gi_c : kinD k_GREATEST (.str "condition") = some false := by simp [kinD, k_GREATEST, List.lookup]
@[simp] theorem gi_p : kinD k_GREATEST (.str "place") = some true := by simp [kinD, k_GREATEST, List.lookup]
@[simp] theorem gg_p : kgetD k_GREATEST (.str "place") = some (.int 1) := by simp [kgetD, k_GREATEST, List.lookup]
abbrev SpFits (f : Fs) : Prop := (∀ d, f [.dat d, .dat (.str "expression")] = pur (.bool true)) ∧ (∀ d, f [.dat d, .dat (.str "condition")] = pur (.bool true)) ∧ ∀ b, f [.dat (colD b), .dat (.str "place")] = pur (.bool true)
theorem fits {f : Fs} (hf : SpIntTo f) : SpFits (dFun 2 2 (d__fits f)) := by
  refine ⟨fun d => ?_, fun d => ?_, fun b => ?_⟩ <;> simp [dFun_eq, d__fits, hf _ _ (col_nd _), col_ok]
theorem fget {k w : String} {d : D} (h : List.lookup [Str.ofString k, Str.ofString w] t_FORMS = some d) : tgetD t_FORMS (.tuple [.str (Str.ofString k), .str (Str.ofString w)]) = some d := by
  show List.lookup [Str.ofString k, Str.ofString w] t_FORMS = some d
  exact h
theorem fnin {k w : String} {d : D} (h : List.lookup [Str.ofString k, Str.ofString w] t_FORMS = some d) : tninD t_FORMS (.tuple [.str (Str.ofString k), .str (Str.ofString w)]) = some false := by
  show some (!(List.lookup [Str.ofString k, Str.ofString w] t_FORMS).isSome) = some false
  rw [h]; rfl
theorem lk_c_p : List.lookup [Str.ofString "condition", Str.ofString "p"] t_FORMS = some (.tuple []) := by simp [t_FORMS, List.lookup]
@[simp] theorem fg_c_p : tgetD t_FORMS (.tuple [.str "condition", .str "p"]) = some (.tuple []) := fget lk_c_p
@[simp] theorem fn_c_p : tninD t_FORMS (.tuple [.str "condition", .str "p"]) = some false := fnin lk_c_p
theorem lk_c_q : List.lookup [Str.ofString "condition", Str.ofString "q"] t_FORMS = some (.tuple []) := by simp [t_FORMS, List.lookup]
@[simp] theorem fg_c_q : tgetD t_FORMS (.tuple [.str "condition", .str "q"]) = some (.tuple []) := fget lk_c_q
@[simp] theorem fn_c_q : tninD t_FORMS (.tuple [.str "condition", .str "q"]) = some false := fnin lk_c_q
theorem lk_c_not : List.lookup [Str.ofString "condition", Str.ofString "not"] t_FORMS = some (.tuple [.str "condition"]) := by simp [t_FORMS, List.lookup]
@[simp] theorem fg_c_not : tgetD t_FORMS (.tuple [.str "condition", .str "not"]) = some (.tuple [.str "condition"]) := fget lk_c_not
@[simp] theorem fn_c_not : tninD t_FORMS (.tuple [.str "condition", .str "not"]) = some false := fnin lk_c_not
theorem lk_c_and : List.lookup [Str.ofString "condition", Str.ofString "and"] t_FORMS = some (.tuple [.str "condition", .str "condition"]) := by simp [t_FORMS, List.lookup]
@[simp] theorem fg_c_and : tgetD t_FORMS (.tuple [.str "condition", .str "and"]) = some (.tuple [.str "condition", .str "condition"]) := fget lk_c_and
@[simp] theorem fn_c_and : tninD t_FORMS (.tuple [.str "condition", .str "and"]) = some false := fnin lk_c_and
theorem lk_c_or : List.lookup [Str.ofString "condition", Str.ofString "or"] t_FORMS = some (.tuple [.str "condition", .str "condition"]) := by simp [t_FORMS, List.lookup]
@[simp] theorem fg_c_or : tgetD t_FORMS (.tuple [.str "condition", .str "or"]) = some (.tuple [.str "condition", .str "condition"]) := fget lk_c_or
@[simp] theorem fn_c_or : tninD t_FORMS (.tuple [.str "condition", .str "or"]) = some false := fnin lk_c_or
theorem lk_e_table : List.lookup [Str.ofString "expression", Str.ofString "table"] t_FORMS = some (.tuple [.str "place"]) := by simp [t_FORMS, List.lookup]
@[simp] theorem fg_e_table : tgetD t_FORMS (.tuple [.str "expression", .str "table"]) = some (.tuple [.str "place"]) := fget lk_e_table
@[simp] theorem fn_e_table : tninD t_FORMS (.tuple [.str "expression", .str "table"]) = some false := fnin lk_e_table
theorem lk_e_union : List.lookup [Str.ofString "expression", Str.ofString "union"] t_FORMS = some (.tuple [.str "expression", .str "expression"]) := by simp [t_FORMS, List.lookup]
@[simp] theorem fg_e_union : tgetD t_FORMS (.tuple [.str "expression", .str "union"]) = some (.tuple [.str "expression", .str "expression"]) := fget lk_e_union
@[simp] theorem fn_e_union : tninD t_FORMS (.tuple [.str "expression", .str "union"]) = some false := fnin lk_e_union
theorem lk_e_intersection : List.lookup [Str.ofString "expression", Str.ofString "intersection"] t_FORMS = some (.tuple [.str "expression", .str "expression"]) := by simp [t_FORMS, List.lookup]
@[simp] theorem fg_e_intersection : tgetD t_FORMS (.tuple [.str "expression", .str "intersection"]) = some (.tuple [.str "expression", .str "expression"]) := fget lk_e_intersection
@[simp] theorem fn_e_intersection : tninD t_FORMS (.tuple [.str "expression", .str "intersection"]) = some false := fnin lk_e_intersection
theorem lk_e_difference : List.lookup [Str.ofString "expression", Str.ofString "difference"] t_FORMS = some (.tuple [.str "expression", .str "expression"]) := by simp [t_FORMS, List.lookup]
@[simp] theorem fg_e_difference : tgetD t_FORMS (.tuple [.str "expression", .str "difference"]) = some (.tuple [.str "expression", .str "expression"]) := fget lk_e_difference
@[simp] theorem fn_e_difference : tninD t_FORMS (.tuple [.str "expression", .str "difference"]) = some false := fnin lk_e_difference
theorem lk_e_filter : List.lookup [Str.ofString "expression", Str.ofString "filter"] t_FORMS = some (.tuple [.str "condition", .str "expression"]) := by simp [t_FORMS, List.lookup]
@[simp] theorem fg_e_filter : tgetD t_FORMS (.tuple [.str "expression", .str "filter"]) = some (.tuple [.str "condition", .str "expression"]) := fget lk_e_filter
@[simp] theorem fn_e_filter : tninD t_FORMS (.tuple [.str "expression", .str "filter"]) = some false := fnin lk_e_filter
abbrev SpHas (f : Fs) : Prop := ∀ x : Nd, f [.dat x.d, .dat (.str (Str.ofString x.kind))] = pur (.bool true)
theorem has_form {f : Fs} (hf : SpFits f) : SpHas (dFun 2 5 (d__has_form f)) := by
  intro x
  obtain ⟨h1, h2, h3⟩ := hf
  cases x with
  | c x => cases x <;> simp [dFun_eq, d__has_form, Nd.d, Nd.kind, Cnd.d, isA, truD, lenD, addD, zipD, h2, allD, bools]
  | e x =>
    cases x with
    | op w a b => cases w <;> simp [dFun_eq, d__has_form, Nd.d, Nd.kind, Ex.d, Op3.s, isA, truD, lenD, addD, zipD, h1, allD, bools]
    | _ => simp [dFun_eq, d__has_form, Nd.d, Nd.kind, Ex.d, isA, truD, lenD, addD, zipD, h1, h2, h3, allD, bools]
abbrev SpInn (f : Fs) : Prop := ∀ x : Nd, f [.dat x.d, .dat (.str (Str.ofString x.kind))] = pur (.list (x.inner.map Nd.pr))
theorem inner_t : SpInn (dFun 2 5 d__inner_tuples) := by
  intro x
  cases x with
  | c x => cases x <;> simp [dFun_eq, d__inner_tuples, Nd.d, Nd.kind, Nd.inner, Nd.pr, Cnd.d, zipD]
  | e x =>
    cases x with
    | op w a b => cases w <;> simp [dFun_eq, d__inner_tuples, Nd.d, Nd.kind, Nd.inner, Nd.pr, Ex.d, Op3.s, zipD]
    | _ => simp [dFun_eq, d__inner_tuples, Nd.d, Nd.kind, Nd.inner, Nd.pr, Ex.d, zipD]
def total : List Nd → Nat
  | [] => 0
  | x :: xs => x.size + total xs
def lvs : List Nd → Nat
  | [] => 0
  | x :: xs => x.leaves + lvs xs
def lf : List Nd → Nat
  | [] => 0
  | x :: xs => x.leaf + lf xs
theorem total_app : ∀ xs ys : List Nd, total (xs ++ ys) = total xs + total ys
  | [], ys => by simp [total]
  | x :: xs, ys => by simp [total, total_app xs ys]; omega
theorem lvs_app : ∀ xs ys : List Nd, lvs (xs ++ ys) = lvs xs + lvs ys
  | [], ys => by simp [lvs]
  | x :: xs, ys => by simp [lvs, lvs_app xs ys]; omega
theorem lf_app : ∀ xs ys : List Nd, lf (xs ++ ys) = lf xs + lf ys
  | [], ys => by simp [lf]
  | x :: xs, ys => by simp [lf, lf_app xs ys]; omega
theorem total_inner (x : Nd) : x.size = total x.inner + 1 := by
  cases x with
  | c x => cases x <;> simp [Nd.size, Cnd.size, Nd.inner, total] <;> omega
  | e x => cases x <;> simp [Nd.size, Ex.size, Nd.inner, total] <;> omega
theorem lvs_inner (x : Nd) : x.leaves = lvs x.inner + x.leaf := by
  cases x with
  | c x => cases x <;> simp [Nd.leaves, Nd.inner, lvs, Nd.leaf]
  | e x => cases x <;> simp [Nd.leaves, Ex.leaves, Nd.inner, lvs, Nd.leaf]
theorem size_pos (x : Nd) : 1 ≤ x.size := by rw [total_inner]; omega
theorem total_len : ∀ xs : List Nd, xs.length ≤ total xs
  | [] => by simp [total]
  | x :: xs => by have := total_len xs; have := size_pos x; simp [total]; omega
abbrev tupBody (fh fi : Fs) : Ev → Ms := seqM (sPopT (.tup [5, 6]) 3)
    (seqM (sIf (dOr (dCmp eqD (dFn lenD (dCons (dVar 4) (dNil))) (dVar 2)) (dNot (dTru (dCl 2 fh (dCons (dVar 5) (dCons (dVar 6) (dNil))))))) (sRet (dLit .none)) (sNil))
    (seqM (sApp 4 (dVar 5))
    (sExt 3 (dCl 2 fi (dCons (dVar 5) (dCons (dVar 6) (dNil)))))))
def slotOk (s : DL.Slot) : Prop := s = .hid ∨ ∃ d, s = .dat d
theorem popT_app (v k m : D) (ys : List D) (a b : D) (fo : DL.Slot) (s5 s6 : DL.Slot) : popT (.tup [5, 6]) 3 [.dat v, .dat k, .dat m, .own (ys ++ [.tuple [a, b]]), fo, s5, s6] = some (ys, [a, b]) := by
  simp [popT]
theorem tup_loop {fh fi : Fs} (h1 : SpHas fh) (h2 : SpInn fi) (v k : D) : ∀ (n : Nat) (xs L : List Nd) (s5 s6 : DL.Slot), L.length + total xs ≤ 30 → total xs < n → slotOk s5 → slotOk s6 →
    ∃ L' t5 t6, whileN (dTru (dVar 3)) (tupBody fh fi) n [.dat v, .dat k, .dat (.int 30), .own (xs.map Nd.pr), .own (L.map Nd.d), s5, s6] = nxM [.dat v, .dat k, .dat (.int 30), .own [], .own (L'.map Nd.d), t5, t6] ∧ lf L' = lf L + lvs xs ∧ L'.length ≤ 30 := by
  intro n
  induction n with
  | zero => intro xs L s5 s6 _ h; omega
  | succ n ih =>
    intro xs L s5 s6 ht hn q5 q6
    rw [whileN_s]
    by_cases hx : xs = []
    · subst hx
      refine ⟨L, s5, s6, ?_, by simp [lvs], by simpa [total] using ht⟩
      simp [truD]
    · obtain ⟨ys, y, rfl⟩ : ∃ ys y, xs = ys ++ [y] := ⟨xs.dropLast, xs.getLast hx, (List.dropLast_concat_getLast hx).symm⟩
      rw [total_app] at ht hn
      have e1 := total_inner y
      have e2 := lvs_inner y
      simp only [total, Nat.add_zero] at ht hn
      have hlen : ys.length + y.inner.length ≤ sizeLine := by
        have a := total_len ys
        have b := total_len y.inner
        exact size_ok _ (by omega)
      have hL : L.length < sizeLine := Nat.lt_of_lt_of_le (by omega : L.length < 31) (size_ok 31)
      obtain ⟨L', t5, t6, he, hl, hn'⟩ := ih (ys ++ y.inner) (L ++ [y]) (.dat y.d) (.dat (.str (Str.ofString y.kind))) (by rw [total_app, List.length_append]; simp; omega) (by rw [total_app]; omega) (.inr ⟨_, rfl⟩) (.inr ⟨_, rfl⟩)
      refine ⟨L', t5, t6, ?_, ?_, hn'⟩
      · rw [← he]
        have hne : ¬ ((L.length : Int) = 30) := by omega
        have hp : (ys ++ [y]).map Nd.pr = ys.map Nd.pr ++ [.tuple [y.d, .str (Str.ofString y.kind)]] := by simp [Nd.pr]
        rw [hp]
        simp [truD, popT_app, lenD, hne, h1 y, h2 y, hlen, hL]
      · rw [hl, lf_app, lvs_app, lvs_app]
        simp [lf, lvs]
        omega
abbrev SpTup (f : Fs) : Prop := ∀ x : Nd, x.size ≤ 30 → ∃ L : List Nd, f [.dat x.d, .dat (.str (Str.ofString x.kind)), .dat (.int 30)] = pur (.list (L.map Nd.d)) ∧ lf L = x.leaves ∧ L.length ≤ 30
theorem tuples_ok {fh fi : Fs} (h1 : SpHas fh) (h2 : SpInn fi) : SpTup (dFun 3 7 (d_tuples_of fh fi)) := by
  intro x hx
  obtain ⟨L', t5, t6, he, hl, hn⟩ := tup_loop h1 h2 x.d (.str (Str.ofString x.kind)) 64 [x] [] .hid .hid (by simpa [total] using hx) (by simp [total]; omega) (.inl rfl) (.inl rfl)
  refine ⟨L', ?_, by simpa [lf, lvs] using hl, hn⟩
  rw [dFun_eq]
  simp only [d_tuples_of]
  simp only [List.map_cons, List.map_nil, Nd.pr] at he
  simp [he]
end K01
namespace K01
open PySem PySem.Spec PyProof.Rows L2 DL LW
def Nd.word : Nd → String
  | .c .p => "p"
  | .c .q => "q"
  | .c (.not _) => "not"
  | .c (.and _ _) => "and"
  | .c (.or _ _) => "or"
  | .e (.tab _) => "table"
  | .e (.op w _ _) => w.s
  | .e (.flt _ _) => "filter"
theorem word_ix (x : Nd) : ixD x.d (.int 0) = some (.str (Str.ofString x.word)) := by
  cases x with
  | c x => cases x <;> simp [Nd.d, Cnd.d, Nd.word]
  | e x => cases x <;> simp [Nd.d, Ex.d, Nd.word]
theorem word_leaf (x : Nd) : (x.word == "table") = decide (x.leaf = 1) := by
  cases x with
  | c x => cases x <;> rfl
  | e x =>
    cases x with
    | op w a b => cases w <;> rfl
    | _ => rfl
theorem leaf_le (x : Nd) : x.leaf = 0 ∨ x.leaf = 1 := by
  cases x with
  | c x => exact .inl rfl
  | e x => cases x <;> simp [Nd.leaf]
theorem lf_filter : ∀ L : List Nd, (L.filter fun x => x.word == "table").length = lf L
  | [] => rfl
  | x :: L => by
    rw [List.filter_cons, word_leaf]
    rcases leaf_le x with h | h
    · simp [h, lf, lf_filter L]
    · simp [h, lf, lf_filter L]; omega
abbrev SpAmong (f : Fs) : Prop := ∀ L : List Nd, L.length ≤ 30 → f [.dat (.list (L.map Nd.d))] = pur (.int ((lf L : Nat) : Int))
theorem among_ok : SpAmong (dFun 1 2 d__leaves_among) := by
  intro L hL
  have go : compGo (.name 1) (dCmp eqD (dBin ixD (dVar 1) (dLit (.int 0))) (dLit (.str "table"))) (dVar 1) [.dat (.list (L.map Nd.d)), .hid] (L.map Nd.d) = pur ((L.filter fun x => x.word == "table").map Nd.d) := by
    refine compGo_on Nd.d Nd.d (fun x => x.word == "table") L fun x hx => ⟨[x.d], rfl, ?_, fun _ => ?_⟩
    · simp [word_ix]
    · simp
  have hl0 : (L.filter fun x => x.word == "table").length ≤ 30 := Nat.le_trans (List.length_filter_le _ _) hL
  rw [lf_filter] at hl0
  have hl : lf L ≤ sizeLine := size_ok _ (by omega)
  simp [dFun_eq, d__leaves_among, itmD, go, lenD, hl, lf_filter]
abbrev SpIsEx (f : Fs) : Prop := ∀ e : Ex, e.size ≤ 30 → e.leaves ≤ 6 → f [.dat e.d] = pur (.bool true)
theorem isn_list (ds : List D) : isnD (.list ds) .none = some true := rfl
theorem is_ex {ft fa : Fs} (h1 : SpTup ft) (h2 : SpAmong fa) : SpIsEx (dFun 1 2 (d_is_expression ft fa)) := by
  intro e hs hl
  obtain ⟨L, e1, e2, e3⟩ := h1 (.e e) hs
  have e4 := h2 L e3
  have e5 : ((lf L : Nat) : Int) ≤ 6 := by rw [e2]; simp only [Nd.leaves]; omega
  simp only [Nd.d, Nd.kind] at e1
  simp [dFun_eq, d_is_expression, c_MOST_TUPLES, c_MOST_LEAVES, e1, isn_list, truD, e4, leD, e5]
abbrev SpChkE (f : Fs) : Prop := (∀ e : Ex, OkEx e → f [.dat (.tuple [e.d])] = pur .none) ∧ ∀ e g : Ex, OkEx e → OkEx g → f [.dat (.tuple [e.d, g.d])] = pur .none
theorem enum1 (a : D) : enumTD [.tuple [a]] = some [.tuple [.int 0, a]] := rfl
theorem enum2 (a b : D) : enumTD [.tuple [a, b]] = some [.tuple [.int 0, a], .tuple [.int 1, b]] := rfl
theorem chk_ex {f : Fs} (h : SpIsEx f) : SpChkE (dFun 1 3 (d__check_expressions f)) := by
  refine ⟨fun e he => ?_, fun e g he hg => ?_⟩
  · simp [dFun_eq, d__check_expressions, sFor_f, enum1, h e he.1 he.2, truD]
  · simp [dFun_eq, d__check_expressions, sFor_f, enum2, h e he.1 he.2, h g hg.1 hg.2, truD]
abbrev SpNeg (f : Fs) : Prop := ∀ t, f [.dat (td t)] = pur (td (tnot t))
theorem neg : SpNeg (dFun 1 1 d__negation) := by
  intro t
  cases t with
  | none => simp [dFun_eq, d__negation, isD, truD, td, tnot]
  | some b => simp [dFun_eq, d__negation, isD, truD, td, tnot]
abbrev SpAnd (f : Fs) : Prop := ∀ t u, f [.dat (td t), .dat (td u)] = pur (td (tand t u))
theorem conj : SpAnd (dFun 2 2 d__conjunction) := by
  intro t u
  rcases t with _ | (_ | _) <;> rcases u with _ | (_ | _) <;> simp [dFun_eq, d__conjunction, td, tand, isD]
abbrev SpOr (f : Fs) : Prop := ∀ t u, f [.dat (td t), .dat (td u)] = pur (td (tor t u))
theorem disj : SpOr (dFun 2 2 d__disjunction) := by
  intro t u
  rcases t with _ | (_ | _) <;> rcases u with _ | (_ | _) <;> simp [dFun_eq, d__disjunction, td, tor, isD]
abbrev SpConn (f : Fs) : Prop := (∀ t, f [.dat (.str "not"), .dat (.list [td t])] = pur (td (tnot t))) ∧ (∀ t u, f [.dat (.str "and"), .dat (.list [td t, td u])] = pur (td (tand t u))) ∧ ∀ t u, f [.dat (.str "or"), .dat (.list [td t, td u])] = pur (td (tor t u))
theorem conn {fn fc fd : Fs} (h1 : SpNeg fn) (h2 : SpAnd fc) (h3 : SpOr fd) : SpConn (dFun 2 2 (d_connected fn fc fd)) := by
  refine ⟨fun t => ?_, fun t u => ?_, fun t u => ?_⟩
  · simp [dFun_eq, d_connected, h1 _]
  · simp [dFun_eq, d_connected, h2 _ _]
  · simp [dFun_eq, d_connected, h3 _ _]
abbrev SpCT (f : Fs) (m : Nat) : Prop := ∀ x : Cnd, x.size ≤ m → ∀ (a b : Int) p q, f [.dat x.d, .dat (caseD a b p q)] = pur (td (cv p q x))
theorem inc (s : String) : inD (.str (Str.ofString s)) c_CONNECTIVES = some (["not", "and", "or"].any fun t => t == s) := by
  rw [c_CONNECTIVES, in_tup _ _ rfl rfl]
  simp
theorem ctruth {fc ff : Fs} {m : Nat} (h1 : SpConn fc) (h2 : SpCT ff m) : SpCT (dFun 2 4 (d__condition_truth fc ff)) (m + 1) := by
  intro x hx a b p q
  have c2 : ixD (caseD a b p q) (.int 2) = some (td p) := rfl
  have c3 : ixD (caseD a b p q) (.int 3) = some (td q) := rfl
  cases x with
  | p => simp [dFun_eq, d__condition_truth, Cnd.d, inc, cv, c2]
  | q => simp [dFun_eq, d__condition_truth, Cnd.d, inc, cv, c3]
  | not c =>
    have hc := h2 c (by simp [Cnd.size] at hx; omega) a b p q
    simp [dFun_eq, d__condition_truth, Cnd.d, inc, cv, itmD, hc, h1.1 _]
  | and c e =>
    have hc := h2 c (by simp [Cnd.size] at hx; omega) a b p q
    have he := h2 e (by simp [Cnd.size] at hx; omega) a b p q
    simp [dFun_eq, d__condition_truth, Cnd.d, inc, cv, itmD, hc, he, h1.2.1 _ _]
  | or c e =>
    have hc := h2 c (by simp [Cnd.size] at hx; omega) a b p q
    have he := h2 e (by simp [Cnd.size] at hx; omega) a b p q
    simp [dFun_eq, d__condition_truth, Cnd.d, inc, cv, itmD, hc, he, h1.2.2 _ _]
def rawZ (b c : Bool) (w : Op3) (x y : Int) : Int := match w with
  | .uni => if b = true then (if y > x then y else x) else x + y
  | .int => if y < x then y else x
  | .dif => if c = false then (if y = 0 then x else 0) else (if x - y > 0 then x - y else 0)
abbrev SpRaw (f : Fs) : Prop := ∀ a b c n e w (x y : Int), f [.dat (wayD a b c n e), .dat (.str (Str.ofString (Op3.s w))), .dat (.int x), .dat (.int y)] = pur (.int (rawZ b c w x y))
theorem raw_ok : SpRaw (dFun 4 4 d__count_with_repeats) := by
  intro a b c n e w x y
  cases w <;> cases b <;> cases c <;> simp [dFun_eq, d__count_with_repeats, Op3.s, way_1, way_2, rawZ, addD, subD, max2D, min2D, c_UNION, c_DIFFERENCE]
  all_goals split <;> rfl
theorem raw_many (a b c : Bool) (w : Op3) (x y : Int) (hx : 0 ≤ x) (hy : 0 ≤ y) (h1 : a = false → x ≤ 1 ∧ y ≤ 1) : (if a = true then rawZ b c w x y else (if 1 < rawZ b c w x y then 1 else rawZ b c w x y)) = manyZ a b c w x y := by
  have m0 : x * 0 = 0 := Int.mul_zero x
  have m1 : x * 1 = x := Int.mul_one x
  cases a with
  | true =>
    cases w with
    | dif =>
      cases c with
      | false =>
        simp only [rawZ, manyZ, Bool.not_true, Bool.not_false, Bool.or_true, if_true]
        split <;> simp [m0, m1]
      | true => simp [rawZ, manyZ]
    | _ => simp [rawZ, manyZ]
  | false =>
    obtain ⟨x1, y1⟩ := h1 rfl
    cases w with
    | dif =>
      rcases (by omega : x = 0 ∨ x = 1) with rfl | rfl <;> rcases (by omega : y = 0 ∨ y = 1) with rfl | rfl <;> cases c <;> rfl
    | _ => first | (simp [rawZ, manyZ]; done) | (simp only [rawZ, manyZ]; rfl)
theorem many_ge (a b c : Bool) (w : Op3) (x y : Int) (hx : 0 ≤ x) (hy : 0 ≤ y) : 0 ≤ manyZ a b c w x y := by
  have m0 : x * 0 = 0 := Int.mul_zero x
  have m1 : x * 1 = x := Int.mul_one x
  have key : ∀ m : Int, 0 ≤ m → 0 ≤ (if a = true then m else (if 1 < m then 1 else m)) := by
    intro m hm
    split
    · exact hm
    · split <;> omega
  unfold manyZ
  cases w with
  | uni =>
    refine key _ ?_
    dsimp only
    split
    · split <;> omega
    · omega
  | int =>
    refine key _ ?_
    dsimp only
    split <;> omega
  | dif =>
    refine key _ ?_
    dsimp only
    split
    · split
      · rw [m1]; exact hx
      · rw [m0]; exact Int.le_refl _
    · split <;> omega
theorem many_le (b c : Bool) (w : Op3) (x y : Int) : manyZ false b c w x y ≤ 1 := by
  unfold manyZ
  simp only [Bool.false_eq_true, if_false]
  split <;> omega
abbrev SpComb (f : Fs) : Prop := ∀ a b c n e w (x y : Int), 0 ≤ x → 0 ≤ y → (a = false → x ≤ 1 ∧ y ≤ 1) → f [.dat (wayD a b c n e), .dat (.str (Str.ofString (Op3.s w))), .dat (.int x), .dat (.int y)] = pur (.int (manyZ a b c w x y))
theorem comb_ok {f : Fs} (h : SpRaw f) : SpComb (dFun 4 5 (d_combined_count f)) := by
  intro a b c n e w x y hx hy h1
  rw [← raw_many a b c w x y hx hy h1]
  have q := h a b c n e w x y
  cases a <;> simp [dFun_eq, d_combined_count, way_0, c_DUPLICATES, q, min2D]
/-- a case that the semantics allows -/
structure OkC (a : Bool) (n : N3) (x y : Int) (p q : Option Bool) : Prop where
  x0 : 0 ≤ x
  y0 : 0 ≤ y
  x1 : if a = true then x ≤ 99 else x ≤ 1
  y1 : if a = true then y ≤ 99 else y ≤ 1
  p1 : p = none → n.unk = true
  q1 : q = none → n.unk = true
theorem cz_ge (a b c : Bool) {x y : Int} (hx : 0 ≤ x) (hy : 0 ≤ y) (p q : Option Bool) : ∀ e : Ex, 0 ≤ cz a b c x y p q e
  | .tab i => by simp only [cz]; split <;> assumption
  | .op w e f => many_ge a b c w _ _ (cz_ge a b c hx hy p q e) (cz_ge a b c hx hy p q f)
  | .flt k e => by
    simp only [cz]
    split
    · exact cz_ge a b c hx hy p q e
    · exact Int.le_refl _
theorem cz_le (b c : Bool) {x y : Int} (hx : x ≤ 1) (hy : y ≤ 1) (p q : Option Bool) : ∀ e : Ex, cz false b c x y p q e ≤ 1
  | .tab i => by simp only [cz]; split <;> assumption
  | .op w e f => many_le b c w _ _
  | .flt k e => by
    simp only [cz]
    split
    · exact cz_le b c hx hy p q e
    · decide
abbrev SpCnt (f : Fs) (m : Nat) : Prop := ∀ e : Ex, e.size ≤ m → ∀ a b c n z x y p q, 0 ≤ x → 0 ≤ y → (a = false → x ≤ 1 ∧ y ≤ 1) → f [.dat (wayD a b c n z), .dat e.d, .dat (caseD x y p q)] = pur (.int (cz a b c x y p q e))
theorem cnt_ok {fk ff fm : Fs} {m : Nat} (h1 : SpCnt ff m) (h2 : SpCT fk m) (h3 : SpComb fm) : SpCnt (dFun 3 7 (d__count_of fk ff fm)) (m + 1) := by
  intro e he a b c n z x y p q hx hy hs
  have cc : ∀ i : Bool, ixD (caseD x y p q) (colD i) = some (.int (if i = true then y else x)) := by intro i; cases i <;> rfl
  cases e with
  | tab i => simp [dFun_eq, d__count_of, Ex.d, cc, cz]
  | op w e f =>
    have q1 := h1 e (by simp [Ex.size] at he; omega) a b c n z x y p q hx hy hs
    have q2 := h1 f (by simp [Ex.size] at he; omega) a b c n z x y p q hx hy hs
    have q3 := h3 a b c n z w _ _ (cz_ge a b c hx hy p q e) (cz_ge a b c hx hy p q f) (fun ha => by subst ha; exact ⟨cz_le b c (hs rfl).1 (hs rfl).2 p q e, cz_le b c (hs rfl).1 (hs rfl).2 p q f⟩)
    cases w <;> (simp only [Op3.s] at q3; simp [dFun_eq, d__count_of, Ex.d, Op3.s, q1, q2, q3, cz])
  | flt k e =>
    have q1 := h1 e (by simp [Ex.size] at he; omega) a b c n z x y p q hx hy hs
    have q2 := h2 k (by have := ex_pos e; simp [Ex.size] at he; omega) x y p q
    by_cases ht : isT (cv p q k) = true
    · simp [dFun_eq, d__count_of, Ex.d, q1, q2, is_true, cz, ht, truD]
    · have ht' : isT (cv p q k) = false := by simpa using ht
      simp [dFun_eq, d__count_of, Ex.d, q1, q2, is_true, cz, ht', truD]
abbrev SpIsT (f : Fs) : Prop := ∀ a b c n e (t : Option Bool), (t = none → N3.unk n = true) → f [.dat (wayD a b c n e), .dat (td t)] = pur (.bool true)
theorem ist_ok : SpIsT (dFun 2 2 d__is_truth) := by
  intro a b c n e t ht
  cases t with
  | none =>
    have hu := ht rfl
    simp [dFun_eq, d__is_truth, td, isD, c_NULLS, way_3', unk_eq, hu]
  | some b => simp [dFun_eq, d__is_truth, td, isD, isA]
abbrev SpCase (f : Fs) : Prop := ∀ a b c n e x y p q, OkC a n x y p q → f [.dat (wayD a b c n e), .dat (caseD x y p q)] = pur (.bool true)
theorem sl_c (x y : Int) (p q : Option Bool) : slLo (caseD x y p q) (.int 2) = some (.tuple [td p, td q]) := rfl
theorem sh_c (x y : Int) (p q : Option Bool) : slHi (caseD x y p q) (.int 2) = some (.tuple [.int x, .int y]) := rfl
theorem case_ok {fi ft : Fs} (h1 : SpIntTo fi) (h2 : SpIsT ft) : SpCase (dFun 2 5 (d__is_case fi ft)) := by
  intro a b c n e x y p q h
  have e1 := h2 a b c n e p h.p1
  have e2 := h2 a b c n e q h.q1
  have l4 : lenD [caseD x y p q] = some (.int 4) := rfl
  have ia : isA (caseD x y p q) .tuple = true := rfl
  cases a with
  | true =>
    have x1 : x ≤ 99 := h.x1
    have y1 : y ≤ 99 := h.y1
    have i1 : isIntTo (.int x) 99 = true := by simp [isIntTo, h.x0, x1]
    have i2 : isIntTo (.int y) 99 = true := by simp [isIntTo, h.y0, y1]
    simp [dFun_eq, d__is_case, truD, ia, l4, c_CASE_LENGTH, c_DUPLICATES, c_GREATEST_COUNT, way_0, sl_c, sh_c, itmD, h1 _ _ (int_nd _), i1, i2, e1, e2, allD, bools]
  | false =>
    have x1 : x ≤ 1 := h.x1
    have y1 : y ≤ 1 := h.y1
    have i1 : isIntTo (.int x) 1 = true := by simp [isIntTo, h.x0, x1]
    have i2 : isIntTo (.int y) 1 = true := by simp [isIntTo, h.y0, y1]
    simp [dFun_eq, d__is_case, truD, ia, l4, c_CASE_LENGTH, c_DUPLICATES, c_GREATEST_COUNT, way_0, sl_c, sh_c, itmD, h1 _ _ (int_nd _), i1, i2, e1, e2, allD, bools]
abbrev SpCAt (f : Fs) : Prop := ∀ (e : Ex), OkEx e → ∀ a b c n z x y p q, OkC a n x y p q → f [.dat (wayD a b c n z), .dat e.d, .dat (caseD x y p q)] = pur (.int (cz a b c x y p q e))
theorem cat_ok {fs fe fc fk : Fs} (h1 : SpChkS fs) (h2 : SpChkE fe) (h3 : SpCase fc) (h4 : SpCnt fk 30) : SpCAt (dFun 3 3 (d_count_at fs fe fc fk)) := by
  intro e he a b c n z x y p q hc
  have q4 := h4 e he.1 a b c n z x y p q hc.x0 hc.y0 (fun ha => by subst ha; exact ⟨hc.x1, hc.y1⟩)
  simp [dFun_eq, d_count_at, h1 _ _ _ _ _, h2.1 e he, h3 a b c n z x y p q hc, truD, q4]
end K01
namespace K01
open PySem PySem.Spec PyProof.Rows L2 DL LW
def mostN (a : Bool) (e g : Ex) : Nat := if a = true then 3 * max e.leaves g.leaves else 1
abbrev SpGreat (f : Fs) : Prop := ∀ a b c n z (e g : Ex), OkEx e → OkEx g → f [.dat (wayD a b c n z), .dat e.d, .dat g.d] = pur (.int ((mostN a e g : Nat) : Int))
theorem maxL2 (i j : Int) : maxLD [.list [.int i, .int j]] = some (.int (max i j)) := by
  simp [maxLD, intsD, topI]
theorem great_ok {fa ft : Fs} (h1 : SpTup ft) (h2 : SpAmong fa) : SpGreat (dFun 3 4 (d__greatest_needed fa ft)) := by
  intro a b c n z e g he hg
  obtain ⟨L, e1, e2, e3⟩ := h1 (.e e) he.1
  obtain ⟨L', e1', e2', e3'⟩ := h1 (.e g) hg.1
  have e4 := h2 L e3
  have e4' := h2 L' e3'
  simp only [Nd.d, Nd.kind] at e1 e1'
  simp only [Nd.leaves] at e2 e2'
  cases a with
  | false => simp [dFun_eq, d__greatest_needed, c_DUPLICATES, way_0, mostN]
  | true =>
    simp [dFun_eq, d__greatest_needed, c_DUPLICATES, c_MOST_TUPLES, way_0, mostN, itmD, e1, e1', e4, e4', maxL2, mulxD]
    rw [e2, e2']
    congr 2
    omega
def tru (n : N3) : List (Option Bool) := if n.unk = true then [some true, some false, none] else [some true, some false]
abbrev Cs : Type := Int × Int × Option Bool × Option Bool
def csD (s : Cs) : D := caseD s.1 s.2.1 s.2.2.1 s.2.2.2
def casesQ (a t : Nat) (n : N3) (p : Option Bool) : List Cs := (tru n).flatMap fun q => [(((a : Nat) : Int), ((t : Nat) : Int) - ((a : Nat) : Int), p, q)]
def casesP (a t : Nat) (n : N3) : List Cs := (tru n).flatMap fun p => casesQ a t n p
def arg (t g : Nat) : List Nat := List.range' (t - g) (min t g + 1 - (t - g))
def casesA (t g : Nat) (n : N3) : List Cs := (arg t g).flatMap fun a => casesP a t n
def casesL (n : N3) (g : Nat) : List Cs := (List.range (2 * g + 1)).flatMap fun t => casesA t g n
theorem rngD_nat (n : Nat) : rngD 0 ((n : Nat) : Int) = (List.range n).map fun i => PyData.int ((i : Nat) : Int) := by
  unfold rngD
  rw [show (((n : Nat) : Int) - 0).toNat = n by omega]
  exact List.map_congr_left fun i _ => by rw [Int.zero_add]
theorem rngD_arg (t g : Nat) : rngD (((t - g : Nat)) : Int) ((min t g + 1 : Nat) : Int) = (arg t g).map fun i => PyData.int ((i : Nat) : Int) := by
  unfold rngD arg
  rw [show (((min t g + 1 : Nat) : Int) - ((t - g : Nat) : Int)).toNat = min t g + 1 - (t - g) by omega, List.range'_eq_map_range, List.map_map]
  exact List.map_congr_left fun i _ => by
    show PyData.int _ = PyData.int _
    congr 1
theorem rng2_ok {i j : Nat} (hi : i ≤ lim) (hj : j ≤ lim) : rng2 [.int (i : Nat), .int (j : Nat)] = some (rngD (i : Nat) (j : Nat)) := by
  have q : rng2 [.int (i : Nat), .int (j : Nat)] = if -(2 ^ 62) ≤ (i : Int) ∧ (i : Int) < 2 ^ 62 ∧ -(2 ^ 62) ≤ (j : Int) ∧ (j : Int) < 2 ^ 62 then some (rngD (i : Nat) (j : Nat)) else none := rfl
  have := lim_eq
  rw [q, if_pos (by omega)]
def truD' (n : N3) : D := .tuple ((tru n).map td)
abbrev elt4 : Ev → Mn D := dTup (dCons (dVar 4) (dCons (dBin subD (dVar 3) (dVar 4)) (dCons (dVar 5) (dCons (dVar 6) (dNil)))))
abbrev src2 : Ev → Mn (List D) := dRng rng2 (dCons (dFn max2D (dCons (dLit (.int 0)) (dCons (dBin subD (dVar 3) (dVar 1)) (dNil)))) (dCons (dBin addD (dFn min2D (dCons (dVar 3) (dCons (dVar 1) (dNil)))) (dLit (.int 1))) (dNil)))
theorem elt_ok (w g T : D) (t a : Nat) (p q : Option Bool) : elt4 [.dat w, .dat g, .dat T, .dat (.int (t : Nat)), .dat (.int (a : Nat)), .dat (td p), .dat (td q)] = pur (csD (((a : Nat) : Int), ((t : Nat) : Int) - ((a : Nat) : Int), p, q)) := by
  simp [elt4, subD, csD, caseD]
theorem gn_q (w g : D) (n : N3) (t a : Nat) (p : Option Bool) : dMid (dItm (dVar 2)) [6] (dLast elt4) (.name 6) dYes [.dat w, .dat g, .dat (truD' n), .dat (.int (t : Nat)), .dat (.int (a : Nat)), .dat (td p), .hid] = pur ((casesQ a t n p).map csD) := by
  have go := gnGo_on (ev := [.dat w, .dat g, .dat (truD' n), .dat (.int (t : Nat)), .dat (.int (a : Nat)), .dat (td p), .hid]) (rest := dLast elt4) (t := .name 6) td (fun q => [csD (((a : Nat) : Int), ((t : Nat) : Int) - ((a : Nat) : Int), p, q)]) (tru n) fun q _ => ⟨[td q], rfl, by
    rw [dLast_eq]
    have z : setE [.dat w, .dat g, .dat (truD' n), .dat (.int (t : Nat)), .dat (.int (a : Nat)), .dat (td p), .hid] [6] [td q] = [.dat w, .dat g, .dat (truD' n), .dat (.int (t : Nat)), .dat (.int (a : Nat)), .dat (td p), .dat (td q)] := rfl
    show bnd (nox (elt4 (setE _ [6] [td q]))) _ = _
    rw [z, elt_ok]
    rfl⟩
  rw [dMid_eq]
  have s : dItm (dVar 2) [.dat w, .dat g, .dat (truD' n), .dat (.int (t : Nat)), .dat (.int (a : Nat)), .dat (td p), .hid] = pur ((tru n).map td) := rfl
  rw [s]
  show gnGo _ _ _ [.dat w, .dat g, .dat (truD' n), .dat (.int (t : Nat)), .dat (.int (a : Nat)), .dat (td p), .hid] _ = _
  rw [go]
  congr 1
  unfold casesQ
  rw [List.map_flatMap]
  rfl
theorem gn_p (w g : D) (n : N3) (t a : Nat) : dMid (dItm (dVar 2)) [5, 6] (dMid (dItm (dVar 2)) [6] (dLast elt4) (.name 6) dYes) (.name 5) dYes [.dat w, .dat g, .dat (truD' n), .dat (.int (t : Nat)), .dat (.int (a : Nat)), .hid, .hid] = pur ((casesP a t n).map csD) := by
  have go := gnGo_on (ev := [.dat w, .dat g, .dat (truD' n), .dat (.int (t : Nat)), .dat (.int (a : Nat)), .hid, .hid]) (rest := dMid (dItm (dVar 2)) [6] (dLast elt4) (.name 6) dYes) (t := .name 5) td (fun p => (casesQ a t n p).map csD) (tru n) fun p _ => ⟨[td p], rfl, gn_q w g n t a p⟩
  rw [dMid_eq]
  have s : dItm (dVar 2) [.dat w, .dat g, .dat (truD' n), .dat (.int (t : Nat)), .dat (.int (a : Nat)), .hid, .hid] = pur ((tru n).map td) := rfl
  rw [s]
  show gnGo _ _ _ [.dat w, .dat g, .dat (truD' n), .dat (.int (t : Nat)), .dat (.int (a : Nat)), .hid, .hid] _ = _
  rw [go]
  congr 1
  unfold casesP
  rw [List.map_flatMap]
theorem src2_ok (w T : D) (t g : Nat) (ht : t ≤ 1000) (hg : g ≤ 1000) (s4 s5 s6 : DL.Slot) : src2 [.dat w, .dat (.int (g : Nat)), .dat T, .dat (.int (t : Nat)), s4, s5, s6] = pur ((arg t g).map fun i => PyData.int ((i : Nat) : Int)) := by
  have e1 : max2D [.int 0, .int ((t : Int) - (g : Int))] = some (.int ((t - g : Nat) : Int)) := by
    simp only [max2D]
    congr 2
    split <;> omega
  have e2 : min2D [.int (t : Nat), .int (g : Nat)] = some (.int ((min t g : Nat) : Int)) := by
    simp only [min2D]
    congr 2
    split <;> omega
  have l := lim_eq
  rw [← rngD_arg]
  refine dRng_pur (ss := [.dat (.int ((t - g : Nat) : Int)), .dat (.int ((min t g + 1 : Nat) : Int))]) ?_ rfl (rng2_ok (by omega) (by omega))
  simp [subD, e1, e2, addD]
theorem gn_a (w : D) (g : Nat) (n : N3) (t : Nat) (ht : t ≤ 1000) (hg : g ≤ 1000) : dMid src2 [4, 5, 6] (dMid (dItm (dVar 2)) [5, 6] (dMid (dItm (dVar 2)) [6] (dLast elt4) (.name 6) dYes) (.name 5) dYes) (.name 4) dYes [.dat w, .dat (.int (g : Nat)), .dat (truD' n), .dat (.int (t : Nat)), .hid, .hid, .hid] = pur ((casesA t g n).map csD) := by
  have go := gnGo_on (ev := [.dat w, .dat (.int (g : Nat)), .dat (truD' n), .dat (.int (t : Nat)), .hid, .hid, .hid]) (rest := dMid (dItm (dVar 2)) [5, 6] (dMid (dItm (dVar 2)) [6] (dLast elt4) (.name 6) dYes) (.name 5) dYes) (t := .name 4) (fun a : Nat => PyData.int ((a : Nat) : Int)) (fun a => (casesP a t n).map csD) (arg t g) fun a _ => ⟨[.int (a : Nat)], rfl, gn_p w _ n t a⟩
  rw [dMid_eq, src2_ok w _ t g ht hg]
  show gnGo _ _ _ [.dat w, .dat (.int (g : Nat)), .dat (truD' n), .dat (.int (t : Nat)), .hid, .hid, .hid] _ = _
  rw [go]
  congr 1
  unfold casesA
  rw [List.map_flatMap]
theorem tru_len (n : N3) : (tru n).length ≤ 3 := by unfold tru; split <;> decide
theorem len_flat {α β : Type} (f : α → List β) (k : Nat) : ∀ L : List α, (∀ a ∈ L, (f a).length ≤ k) → (L.flatMap f).length ≤ L.length * k
  | [], _ => by simp
  | a :: L, h => by
    have h1 := h a (by simp)
    have h2 := len_flat f k L fun x hx => h x (by simp [hx])
    rw [List.flatMap_cons, List.length_append, List.length_cons, Nat.succ_mul]
    omega
theorem cases_len (n : N3) (g : Nat) (hg : g ≤ 18) : (casesL n g).length ≤ lim := by
  have q1 : ∀ a t p, (casesQ a t n p).length ≤ 3 := fun a t p => by
    have := len_flat (fun q => [(((a : Nat) : Int), ((t : Nat) : Int) - ((a : Nat) : Int), p, q)]) 1 (tru n) fun q _ => by simp
    have := tru_len n
    unfold casesQ
    omega
  have q2 : ∀ a t, (casesP a t n).length ≤ 9 := fun a t => by
    have := len_flat (fun p => casesQ a t n p) 3 (tru n) fun p _ => q1 a t p
    have := tru_len n
    unfold casesP
    omega
  have q3 : ∀ t, (casesA t g n).length ≤ 19 * 9 := fun t => by
    have h := len_flat (fun a => casesP a t n) 9 (arg t g) fun a _ => q2 a t
    have h2 : (arg t g).length ≤ 19 := by unfold arg; rw [List.length_range']; omega
    unfold casesA
    omega
  have h := len_flat (fun t => casesA t g n) (19 * 9) (List.range (2 * g + 1)) fun t _ => q3 t
  rw [List.length_range] at h
  have l := lim_eq
  unfold casesL
  omega
abbrev SpCases (f : Fs) : Prop := ∀ a b c n z (g : Nat), g ≤ 18 → f [.dat (wayD a b c n z), .dat (.int (g : Nat))] = pur (.list ((casesL n g).map csD))
theorem cases_ok : SpCases (dFun 2 7 d__cases) := by
  intro a b c n z g hg
  have l := lim_eq
  have src : dRng rng1 (dCons (dBin addD (dBin mulxD (dLit (.int 2)) (dVar 1)) (dLit (.int 1))) dNil) [.dat (wayD a b c n z), .dat (.int (g : Nat)), .dat (truD' n), .hid, .hid, .hid, .hid] = pur ((List.range (2 * g + 1)).map fun i => PyData.int ((i : Nat) : Int)) := by
    rw [← rngD_nat]
    refine dRng_pur (ss := [.dat (.int ((2 * g + 1 : Nat) : Int))]) ?_ rfl (rng_len _ (by omega))
    simp [mulxD, addD]
  have go := gnGo_on (ev := [.dat (wayD a b c n z), .dat (.int (g : Nat)), .dat (truD' n), .hid, .hid, .hid, .hid]) (rest := dMid src2 [4, 5, 6] (dMid (dItm (dVar 2)) [5, 6] (dMid (dItm (dVar 2)) [6] (dLast elt4) (.name 6) dYes) (.name 5) dYes) (.name 4) dYes) (t := .name 3) (fun t : Nat => PyData.int ((t : Nat) : Int)) (fun t => (casesA t g n).map csD) (List.range (2 * g + 1)) fun t ht => ⟨[.int (t : Nat)], rfl, gn_a _ g n t (by have := List.mem_range.mp ht; omega) (by omega)⟩
  have all : dCompN [3, 4, 5, 6] (dRng rng1 (dCons (dBin addD (dBin mulxD (dLit (.int 2)) (dVar 1)) (dLit (.int 1))) dNil)) (dMid src2 [4, 5, 6] (dMid (dItm (dVar 2)) [5, 6] (dMid (dItm (dVar 2)) [6] (dLast elt4) (.name 6) dYes) (.name 5) dYes) (.name 4) dYes) (.name 3) dYes [.dat (wayD a b c n z), .dat (.int (g : Nat)), .dat (truD' n), .hid, .hid, .hid, .hid] = pur (.list ((casesL n g).map csD)) := by
    rw [dCompN_eq, src, bnd_pur]
    show bnd (gnGo _ _ _ [.dat (wayD a b c n z), .dat (.int (g : Nat)), .dat (truD' n), .hid, .hid, .hid, .hid] _) _ = _
    rw [go, bnd_pur]
    have e : (List.range (2 * g + 1)).flatMap (fun t => (casesA t g n).map csD) = (casesL n g).map csD := by unfold casesL; rw [List.map_flatMap]
    rw [e, if_pos (by rw [List.length_map]; exact big_ok (cases_len n g hg)), lft_some']
  have t3 : (if n.unk = true then pur (PyData.tuple [.bool true, .bool false, .none]) else pur (PyData.tuple [.bool true, .bool false])) = pur (truD' n) := by
    unfold truD' tru
    split <;> rfl
  rw [dFun_eq]
  simp only [d__cases]
  have set2 : pSet 2 (dIf (dCmp eqD (dBin ixD (dVar 0) (dLit c_NULLS)) (dLit (.str "unknown"))) (dTup (dCons (dLit (.bool true)) (dCons (dLit (.bool false)) (dCons (dLit .none) (dNil))))) (dTup (dCons (dLit (.bool true)) (dCons (dLit (.bool false)) (dNil))))) [.dat (wayD a b c n z), .dat (.int (g : Nat)), .hid, .hid, .hid, .hid, .hid] = nxM [.dat (wayD a b c n z), .dat (.int (g : Nat)), .dat (truD' n), .hid, .hid, .hid, .hid] := by
    simp [c_NULLS, way_3', unk_eq]
    rw [show (if n.unk = true then nxM _ else nxM _) = bnS (if n.unk = true then pur (PyData.tuple [.bool true, .bool false, .none]) else pur (PyData.tuple [.bool true, .bool false])) (fun d => nxM [.dat (wayD a b c n z), .dat (.int (g : Nat)), .dat d, .hid, .hid, .hid, .hid]) by simp]
    rw [t3]
    rfl
  rw [if_pos (by rfl), seqM_eq]
  show fin (sq (pSet 2 _ [.dat (wayD a b c n z), .dat (.int (g : Nat)), .hid, .hid, .hid, .hid, .hid]) _) = _
  rw [set2, sq_nx, pRet_eq, all]
  rfl
end K01
namespace K01
open PySem PySem.Spec PyProof.Rows L2 DL LW
def czS (a b c : Bool) (e : Ex) (s : Cs) : Int := cz a b c s.1 s.2.1 s.2.2.1 s.2.2.2 e
def difs (a b c : Bool) (e g : Ex) (s : Cs) : Bool := !(czS a b c e s == czS a b c g s)
def firstD (a b c : Bool) (n : N3) (e g : Ex) : Option Cs := (casesL n (mostN a e g)).find? (difs a b c e g)
def ocD : Option Cs → D
  | none => .none
  | some s => csD s
def okS (a : Bool) (s : Cs) : Prop := 0 ≤ s.1 ∧ 0 ≤ s.2.1 ∧ (a = false → s.1 ≤ 1 ∧ s.2.1 ≤ 1)
theorem cases_mem {n : N3} {g : Nat} {s : Cs} (h : s ∈ casesL n g) : 0 ≤ s.1 ∧ 0 ≤ s.2.1 ∧ s.1 ≤ g ∧ s.2.1 ≤ g := by
  unfold casesL at h
  obtain ⟨t, ht, h⟩ := List.mem_flatMap.mp h
  unfold casesA at h
  obtain ⟨a, ha, h⟩ := List.mem_flatMap.mp h
  unfold casesP at h
  obtain ⟨p, hp, h⟩ := List.mem_flatMap.mp h
  unfold casesQ at h
  obtain ⟨q, hq, h⟩ := List.mem_flatMap.mp h
  rw [List.mem_singleton] at h
  subst h
  unfold arg at ha
  rw [List.mem_range'_1] at ha
  have := List.mem_range.mp ht
  dsimp only
  omega
theorem cases_okS {a : Bool} {n : N3} {e g : Ex} : ∀ s ∈ casesL n (mostN a e g), okS a s := fun s hs => by
  obtain ⟨h1, h2, h3, h4⟩ := cases_mem hs
  refine ⟨h1, h2, fun ha => ?_⟩
  subst ha
  have e1 : mostN false e g = 1 := rfl
  rw [e1] at h3 h4
  exact ⟨h3, h4⟩
abbrev leastB (fk : Fs) : Ev → Ms := pIf (dCmp neD (dCl 3 fk (dCons (dVar 0) (dCons (dVar 1) (dCons (dVar 3) (dNil))))) (dCl 3 fk (dCons (dVar 0) (dCons (dVar 2) (dCons (dVar 3) (dNil)))))) (pRet (dVar 3)) (sNil)
theorem least_loop {fk : Fs} (h : SpCnt fk 30) (a b c : Bool) (n : N3) (z : Bool) (e g : Ex) (he : e.size ≤ 30) (hg : g.size ≤ 30) : ∀ (L : List Cs) (s3 : DL.Slot), (∀ s ∈ L, okS a s) →
    ∃ s3', forGo (.name 3) (leastB fk) (L.map csD) [.dat (wayD a b c n z), .dat e.d, .dat g.d, s3] = match L.find? (difs a b c e g) with
      | some s => rtM (csD s)
      | none => nxM [.dat (wayD a b c n z), .dat e.d, .dat g.d, s3']
  | [], s3, _ => ⟨s3, rfl⟩
  | s :: L, s3, hk => by
    obtain ⟨x0, y0, h1⟩ := hk s (by simp)
    obtain ⟨s3', ih⟩ := least_loop h a b c n z e g he hg L (.dat (csD s)) fun x hx => hk x (by simp [hx])
    refine ⟨s3', ?_⟩
    have q1 := h e he a b c n z s.1 s.2.1 s.2.2.1 s.2.2.2 x0 y0 h1
    have q2 := h g hg a b c n z s.1 s.2.1 s.2.2.1 s.2.2.2 x0 y0 h1
    have q1' : fk [.dat (wayD a b c n z), .dat e.d, .dat (csD s)] = pur (.int (czS a b c e s)) := q1
    have q2' : fk [.dat (wayD a b c n z), .dat g.d, .dat (csD s)] = pur (.int (czS a b c g s)) := q2
    rw [List.map_cons, forGo_cons]
    have turn : leastB fk [.dat (wayD a b c n z), .dat e.d, .dat g.d, .dat (csD s)] = if difs a b c e g s = true then rtM (csD s) else nxM [.dat (wayD a b c n z), .dat e.d, .dat g.d, .dat (csD s)] := by
      simp [leastB, q1', q2', difs]
    show wl (leastB fk [.dat (wayD a b c n z), .dat e.d, .dat g.d, .dat (csD s)]) _ = _
    rw [turn, List.find?_cons]
    cases hd : difs a b c e g s with
    | true => rfl
    | false =>
      rw [if_neg (by decide), wl_nx, ih]
abbrev SpLeast (f : Fs) : Prop := ∀ a b c n z (e g : Ex), OkEx e → OkEx g → f [.dat (wayD a b c n z), .dat e.d, .dat g.d] = pur (ocD (firstD a b c n e g))
theorem most_le {a : Bool} {e g : Ex} (he : OkEx e) (hg : OkEx g) : mostN a e g ≤ 18 := by
  unfold mostN
  have := he.2
  have := hg.2
  split <;> omega
theorem least_ok {fs fe fc fg fk : Fs} (h1 : SpChkS fs) (h2 : SpChkE fe) (h3 : SpCases fc) (h4 : SpGreat fg) (h5 : SpCnt fk 30) : SpLeast (dFun 3 4 (d_least_difference fs fe fc fg fk)) := by
  intro a b c n z e g he hg
  obtain ⟨s3', loop⟩ := least_loop h5 a b c n z e g he.1 hg.1 (casesL n (mostN a e g)) .hid cases_okS
  have q3 := h3 a b c n z _ (most_le (a := a) he hg)
  rw [dFun_eq]
  simp only [d_least_difference]
  simp [h1 _ _ _ _ _, h2.2 e g he hg, h4 a b c n z e g he hg, sFor_f, q3, itmD, loop, firstD]
  cases (casesL n (mostN a e g)).find? (difs a b c e g) <;> rfl
end K01
namespace K01
open PySem PySem.Spec PyProof.Rows L2 DL LW
def prD (pq : Option Bool × Option Bool) : D := .tuple [td pq.1, td pq.2]
def pairsL (n : N3) : List (Option Bool × Option Bool) := (tru n).flatMap fun p => (tru n).map fun q => (p, q)
def mkC (t a : Nat) (pq : Option Bool × Option Bool) : Cs := (((a : Nat) : Int), ((t : Nat) : Int) - ((a : Nat) : Int), pq.1, pq.2)
theorem casesP_pairs (a t : Nat) (n : N3) : (pairsL n).map (mkC t a) = casesP a t n := by
  unfold pairsL casesP casesQ mkC
  rw [List.map_flatMap]
  congr 1
  funext p
  rw [List.map_map, List.map_eq_flatMap]
  rfl
/-- the first that P gives -/
def stp {α β : Type} (d : β → Bool) (P : α → List β) (f : Option β) (x : α) : Option β := match f with
  | some s => some s
  | none => (P x).find? d
theorem stp_fold {α β : Type} (d : β → Bool) (P : α → List β) : ∀ (L : List α) (f : Option β), L.foldl (stp d P) f = match f with
    | some s => some s
    | none => (L.flatMap P).find? d
  | [], none => rfl
  | [], some s => rfl
  | x :: L, some s => by
    rw [List.foldl_cons]
    show List.foldl (stp d P) (some s) L = _
    rw [stp_fold d P L (some s)]
  | x :: L, none => by
    rw [List.foldl_cons, stp_fold d P L]
    show (match (P x).find? d with | some s => some s | none => (L.flatMap P).find? d) = _
    rw [List.flatMap_cons, List.find?_append]
    cases (P x).find? d <;> rfl
def inR (m t a : Nat) : Bool := decide (a ≤ m) && decide (t ≤ a + m)
def lawP (m t : Nat) (n : N3) (a : Nat) : List Cs := if inR m t a = true then casesP a t n else []
theorem arg_filter : ∀ m < 19, ∀ t < 37, (List.range (t + 1)).filter (inR m t) = List.range' (t - m) (min t m + 1 - (t - m)) := by decide +kernel
theorem lawA {m t : Nat} (n : N3) (hm : m ≤ 18) (ht : t < 2 * m + 1) : (List.range (t + 1)).flatMap (lawP m t n) = casesA t m n := by
  unfold casesA arg
  rw [← arg_filter m (by omega) t (by omega)]
  generalize List.range (t + 1) = L
  induction L with
  | nil => rfl
  | cons a L ih =>
    rw [List.flatMap_cons, List.filter_cons, ih]
    unfold lawP
    split <;> simp
def lawS (d : Cs → Bool) (m : Nat) (n : N3) (f : Option Cs) (t : Nat) : Option Cs := (List.range (t + 1)).foldl (stp d (lawP m t n)) f
theorem lawS_eq {d : Cs → Bool} {m : Nat} {n : N3} (hm : m ≤ 18) : ∀ (L : List Nat) (f : Option Cs), (∀ t ∈ L, t < 2 * m + 1) → L.foldl (lawS d m n) f = L.foldl (stp d fun t => casesA t m n) f
  | [], f, _ => rfl
  | t :: L, f, h => by
    rw [List.foldl_cons, List.foldl_cons]
    have e : lawS d m n f t = stp d (fun t => casesA t m n) f t := by
      unfold lawS
      rw [stp_fold]
      cases f with
      | some s => rfl
      | none => rw [lawA n hm (h t (by simp))]; rfl
    rw [e]
    exact lawS_eq hm L _ fun x hx => h x (by simp [hx])
theorem law_first (d : Cs → Bool) (m : Nat) (n : N3) (hm : m ≤ 18) : (List.range (2 * m + 1)).foldl (lawS d m n) none = (casesL n m).find? d := by
  rw [lawS_eq hm _ _ fun t ht => List.mem_range.mp ht, stp_fold]
  rfl
theorem sh_td (t : Option Bool) : PyData.canLay0 (td t) = true ∧ PyData.depth (td t) = 0 := by rcases t with _ | b <;> exact ⟨by simp [td, PyData.canLay0], rfl⟩
theorem lay_cs (s : Cs) : PyData.canLay0 (csD s) = true := by
  simp [csD, caseD, PyData.canLay0, PyData.canLayAll0, (sh_td _).1]
theorem dep_cs (s : Cs) : PyData.depth (csD s) = 1 := by
  have h1 := (sh_td s.2.2.1).2
  have h2 := (sh_td s.2.2.2).2
  simp [csD, caseD, PyData.depth, PyData.depthAll, h1, h2]
theorem sh_csL (L : List Cs) : SeqAt.shaped (.list (L.map csD)) = true := by
  have a : ∀ L : List Cs, PyData.canLayAll0 (L.map csD) = true := by
    intro L
    induction L with
    | nil => rfl
    | cons s L ih => simp [PyData.canLayAll0, lay_cs, ih]
  have b : ∀ L : List Cs, PyData.depthAll (L.map csD) ≤ 1 := by
    intro L
    induction L with
    | nil => simp [PyData.depthAll]
    | cons s L ih => simp only [List.map_cons, PyData.depthAll, dep_cs]; omega
  have := b L
  simp [SeqAt.shaped, PyData.canLay0, PyData.depth, a]
  omega
theorem ne_csL (L : List Cs) : neD (.list (L.map csD)) (.list []) = some (decide (L ≠ [])) := by
  unfold neD
  rw [if_pos ⟨sh_csL L, sh_csL []⟩]
  cases L <;> simp [PyData.eqv, PyData.eqvAll]
abbrev diffF (fc : Fs) : Ev → Mn Bool := dCmp neD (dCl 3 fc (dCons (dVar 3) (dCons (dVar 4) (dCons (dVar 12) (dNil))))) (dCl 3 fc (dCons (dVar 3) (dCons (dVar 5) (dCons (dVar 12) (dNil)))))
abbrev aB (fc : Fs) : Ev → Ms := pIf (dAnd (dCmp isD (dVar 8) (dLit .none)) (dAnd (dCmp leD (dVar 13) (dVar 6)) (dCmp leD (dBin subD (dVar 11) (dVar 13)) (dVar 6)))) (seqM (pSet 14 (dComp [16] (dItm (dVar 9)) (.name 16) (dYes) (dBin addD (dTup (dCons (dVar 13) (dCons (dBin subD (dVar 11) (dVar 13)) (dNil)))) (dVar 16))))
    (seqM (pSet 14 (dComp [12] (dItm (dVar 14)) (.name 12) (diffF fc) (dVar 12)))
    (pSet 8 (dIf (dCmp neD (dVar 14) (dLst (dNil))) (dBin ixD (dVar 14) (dLit (.int 0))) (dLit .none))))) (sNil)
def lev (W : D) (e g : Ex) (m : Nat) (n : N3) (f : Option Cs) (s2 s10 s11 s12 s13 s14 : DL.Slot) : Ev :=
  [.hid, .row, s2, .dat W, .dat e.d, .dat g.d, .dat (.int ((m : Nat) : Int)), .dat (.list ((tru n).map td)), .dat (ocD f), .dat (.list ((pairsL n).map prD)), s10, s11, s12, s13, s14, .hid, .hid]
theorem tru_le (n : N3) : (pairsL n).length ≤ 9 := by
  have h := len_flat (fun p => (tru n).map fun q => (p, q)) 3 (tru n) fun p _ => by rw [List.length_map]; exact tru_len n
  have := tru_len n
  unfold pairsL
  omega
theorem a_turn {fc : Fs} (hc : SpCount fc 30) (a b c : Bool) (n : N3) (z : Bool) (e g : Ex) (he : e.size ≤ 30) (hg : g.size ≤ 30) (m : Nat) (t x : Nat) (f : Option Cs) (s2 s10 s12 s14 : DL.Slot) (hx : x ≤ t) :
    ∃ s14', aB fc (lev (wayD a b c n z) e g m n f s2 s10 (.dat (.int ((t : Nat) : Int))) s12 (.dat (.int ((x : Nat) : Int))) s14) = nxM (lev (wayD a b c n z) e g m n (stp (difs a b c e g) (lawP m t n) f x) s2 s10 (.dat (.int ((t : Nat) : Int))) s12 (.dat (.int ((x : Nat) : Int))) s14') := by
  have le1 : leD (.int ((x : Nat) : Int)) (.int ((m : Nat) : Int)) = some (decide (x ≤ m)) := by
    show some (decide _) = some (decide _)
    congr 1
    exact decide_eq_decide.mpr (by omega)
  have le2 : leD (.int (((t : Nat) : Int) - ((x : Nat) : Int))) (.int ((m : Nat) : Int)) = some (decide (t ≤ x + m)) := by
    show some (decide _) = some (decide _)
    congr 1
    exact decide_eq_decide.mpr (by omega)
  have sb : subD (.int ((t : Nat) : Int)) (.int ((x : Nat) : Int)) = some (.int (((t : Nat) : Int) - ((x : Nat) : Int))) := rfl
  cases f with
  | some s =>
    refine ⟨s14, ?_⟩
    have q : isD (ocD (some s)) .none = some false := rfl
    simp [aB, lev, q]
    rfl
  | none =>
    have q : isD (ocD none) .none = some true := rfl
    have st : stp (difs a b c e g) (lawP m t n) none x = (lawP m t n x).find? (difs a b c e g) := rfl
    rw [st]
    cases hi : inR m t x with
    | false =>
      refine ⟨s14, ?_⟩
      have e1 : lawP m t n x = [] := by unfold lawP; rw [hi]; rfl
      rw [e1]
      unfold inR at hi
      have cnd : dAnd (dCmp isD (dVar 8) (dLit .none)) (dAnd (dCmp leD (dVar 13) (dVar 6)) (dCmp leD (dBin subD (dVar 11) (dVar 13)) (dVar 6))) (lev (wayD a b c n z) e g m n none s2 s10 (.dat (.int ((t : Nat) : Int))) s12 (.dat (.int ((x : Nat) : Int))) s14) = pur false := by
        simp [lev, q, le1, sb, le2]
        intro h1
        by_cases h2 : t ≤ x + m
        · simp [h1, h2] at hi
        · simp [h2]
      unfold aB
      rw [pIf_eq, cnd]
      rfl
    | true =>
      have e1 : lawP m t n x = casesP x t n := by unfold lawP; rw [hi]; rfl
      rw [e1, ← casesP_pairs]
      unfold inR at hi
      have hi' := Bool.and_eq_true_iff.mp hi
      have cnd : dAnd (dCmp isD (dVar 8) (dLit .none)) (dAnd (dCmp leD (dVar 13) (dVar 6)) (dCmp leD (dBin subD (dVar 11) (dVar 13)) (dVar 6))) (lev (wayD a b c n z) e g m n none s2 s10 (.dat (.int ((t : Nat) : Int))) s12 (.dat (.int ((x : Nat) : Int))) s14) = pur true := by
        simp [lev, q, le1, sb, le2, hi'.1, hi'.2]
      have l9 := tru_le n
      have c1 : dComp [16] (dItm (dVar 9)) (.name 16) dYes (dBin addD (dTup (dCons (dVar 13) (dCons (dBin subD (dVar 11) (dVar 13)) (dNil)))) (dVar 16)) (lev (wayD a b c n z) e g m n none s2 s10 (.dat (.int ((t : Nat) : Int))) s12 (.dat (.int ((x : Nat) : Int))) s14) = pur (.list ((pairsL n).map fun pq => csD (mkC t x pq))) := by
        refine dComp_pur (ds := (pairsL n).map prD) rfl ?_ (size_ok _ (by rw [List.length_map]; omega))
        refine compGo_all prD (fun pq => csD (mkC t x pq)) (pairsL n) fun pq _ => ⟨[prD pq], rfl, ?_⟩
        have ad : addD (.tuple [.int ((x : Nat) : Int), .int (((t : Nat) : Int) - ((x : Nat) : Int))]) (prD pq) = some (csD (mkC t x pq)) := by
          simp [addD, prD, csD, caseD, mkC]
        show dBin addD _ _ [.hid, .row, s2, .dat (wayD a b c n z), .dat e.d, .dat g.d, .dat (.int ((m : Nat) : Int)), .dat (.list ((tru n).map td)), .dat (ocD none), .dat (.list ((pairsL n).map prD)), s10, .dat (.int ((t : Nat) : Int)), s12, .dat (.int ((x : Nat) : Int)), s14, .hid, .dat (prD pq)] = _
        simp [sb, ad]
      have c2 : dComp [12] (dItm (dVar 14)) (.name 12) (diffF fc) (dVar 12) (lev (wayD a b c n z) e g m n none s2 s10 (.dat (.int ((t : Nat) : Int))) s12 (.dat (.int ((x : Nat) : Int))) (.dat (.list ((pairsL n).map fun pq => csD (mkC t x pq))))) = pur (.list ((((pairsL n).map (mkC t x)).filter (difs a b c e g)).map csD)) := by
        have em : (pairsL n).map (fun pq => csD (mkC t x pq)) = ((pairsL n).map (mkC t x)).map csD := by rw [List.map_map]; rfl
        rw [em]
        refine dComp_pur (ds := ((pairsL n).map (mkC t x)).map csD) rfl ?_ (size_ok _ ?_)
        · refine compGo_on csD csD (difs a b c e g) _ fun s _ => ⟨[csD s], rfl, ?_, fun _ => ?_⟩
          · have q1 : fc [.dat (wayD a b c n z), .dat e.d, .dat (csD s)] = pur (.int (czS a b c e s)) := hc e he a b c n z _ _ _ _
            have q2 : fc [.dat (wayD a b c n z), .dat g.d, .dat (csD s)] = pur (.int (czS a b c g s)) := hc g hg a b c n z _ _ _ _
            show diffF fc [.hid, .row, s2, .dat (wayD a b c n z), .dat e.d, .dat g.d, .dat (.int ((m : Nat) : Int)), .dat (.list ((tru n).map td)), .dat (ocD none), .dat (.list ((pairsL n).map prD)), s10, .dat (.int ((t : Nat) : Int)), .dat (csD s), .dat (.int ((x : Nat) : Int)), .dat _, .hid, .hid] = _
            simp [q1, q2, difs]
          · rfl
        · have h1 := List.length_filter_le (difs a b c e g) ((pairsL n).map (mkC t x))
          rw [List.length_map] at h1 ⊢
          omega
      unfold aB
      rw [pIf_eq, cnd, bnS_pur, if_pos rfl, seqM_eq, pSet_eq, c1, bnS_pur, sq_nx, seqM_eq, pSet_eq]
      show ∃ s14', sq (bnS (dComp [12] (dItm (dVar 14)) (.name 12) (diffF fc) (dVar 12) (lev (wayD a b c n z) e g m n none s2 s10 (.dat (.int ((t : Nat) : Int))) s12 (.dat (.int ((x : Nat) : Int))) (.dat (.list ((pairsL n).map fun pq => csD (mkC t x pq)))))) _) _ = _
      rw [c2, bnS_pur, sq_nx, pSet_eq]
      generalize hF : ((pairsL n).map (mkC t x)).filter (difs a b c e g) = F
      have hh : ((pairsL n).map (mkC t x)).find? (difs a b c e g) = F.head? := by rw [← hF, List.head?_filter]
      rw [hh]
      refine ⟨.dat (.list (F.map csD)), ?_⟩
      show bnS (dIf _ _ _ [.hid, .row, s2, .dat (wayD a b c n z), .dat e.d, .dat g.d, .dat (.int ((m : Nat) : Int)), .dat (.list ((tru n).map td)), .dat (ocD none), .dat (.list ((pairsL n).map prD)), s10, .dat (.int ((t : Nat) : Int)), s12, .dat (.int ((x : Nat) : Int)), .dat (.list (F.map csD)), .hid, .hid]) _ = _
      have nl : dLst dNil = (fun ev => pur (PyData.list []) : Ev → Mn D) := by funext ev; simp
      cases F with
      | nil =>
        have ne := ne_csL []
        simp only [List.map_nil] at ne
        simp [ne, lev]
        rfl
      | cons s F =>
        have ne := ne_csL (s :: F)
        simp only [List.map_cons] at ne
        simp [ne, lev]
        rfl
end K01
namespace K01
open PySem PySem.Spec PyProof.Rows L2 DL LW
def turnB (ftw fs fl fc fa fd fp ft fca : Fs) : Ev → Ms :=
    seqM (pTgN 3 [4, 5] (dTup (dCons (dCl 1 fs (dRow 1 (dNil))) (dCons (dCl 1 ftw (dRow 1 (dNil))) (dNil)))))
    (seqM (pSet 6 (dIf (dCmp eqD (dBin ixD (dVar 3) (dLit (.int 0))) (dLit (.str "set"))) (dLit (.int 1)) (dBin mulxD (dLit (.int 3)) (dFn max2D (dCons (dCl 1 fl (dCons (dVar 4) (dNil))) (dCons (dCl 1 fl (dCons (dVar 5) (dNil))) (dNil)))))))
    (seqM (pPar3 7 8 9 (dCons (dBin addD (dLst (dCons (dLit (.bool true)) (dCons (dLit (.bool false)) (dNil)))) (dBin mulxD (dLst (dCons (dLit .none) (dNil))) (dFn intD (dCons (dCmpE eqD (dBin ixD (dVar 3) (dLit (.int 3))) (dLit (.str "unknown"))) (dNil))))) (dCons (dLit .none) (dCons (dLst (dNil)) (dNil)))))
    (seqM (sFor false (dItm (dVar 7)) (.name 10) (pSet 9 (dBin addD (dVar 9) (dComp [15] (dItm (dVar 7)) (.name 15) (dYes) (dTup (dCons (dVar 10) (dCons (dVar 15) (dNil))))))))
    (seqM (sFor false (dRng rng1 (dCons (dBin addD (dBin mulxD (dLit (.int 2)) (dVar 6)) (dLit (.int 1))) (dNil))) (.name 11) (sFor false (dRng rng1 (dCons (dBin addD (dVar 11) (dLit (.int 1))) (dNil))) (.name 13) (pIf (dAnd (dCmp isD (dVar 8) (dLit .none)) (dAnd (dCmp leD (dVar 13) (dVar 6)) (dCmp leD (dBin subD (dVar 11) (dVar 13)) (dVar 6)))) (seqM (pSet 14 (dComp [16] (dItm (dVar 9)) (.name 16) (dYes) (dBin addD (dTup (dCons (dVar 13) (dCons (dBin subD (dVar 11) (dVar 13)) (dNil)))) (dVar 16))))
    (seqM (pSet 14 (dComp [12] (dItm (dVar 14)) (.name 12) (dCmp neD (dCl 3 fc (dCons (dVar 3) (dCons (dVar 4) (dCons (dVar 12) (dNil))))) (dCl 3 fc (dCons (dVar 3) (dCons (dVar 5) (dCons (dVar 12) (dNil)))))) (dVar 12)))
    (pSet 8 (dIf (dCmp neD (dVar 14) (dLst (dNil))) (dBin ixD (dVar 14) (dLit (.int 0))) (dLit .none))))) (sNil))))
    (seqM (pIf (dNot (dTru (dCl 2 fa (dCons (dCl 3 fd (dCons (dVar 3) (dCons (dVar 4) (dCons (dVar 5) (dNil))))) (dCons (dVar 8) (dNil)))))) (pRet (dLit (.bool false))) (sNil))
    (seqM (pSet 12 (dTup (dCons (dCl 2 ft (dRow 1 (dCons (dBin addD (dVar 6) (dLit (.int 1))) (dNil)))) (dCons (dCl 2 ft (dRow 1 (dCons (dBin addD (dVar 6) (dLit (.int 1))) (dNil)))) (dCons (dCl 2 fp (dRow 1 (dCons (dVar 7) (dNil)))) (dCons (dCl 2 fp (dRow 1 (dCons (dVar 7) (dNil)))) (dNil)))))))
    (pIf (dNot (dTru (dCl 2 fa (dCons (dCl 3 fca (dCons (dVar 3) (dCons (dVar 4) (dCons (dVar 12) (dNil))))) (dCons (dCl 3 fc (dCons (dVar 3) (dCons (dVar 4) (dCons (dVar 12) (dNil))))) (dNil)))))) (pRet (dLit (.bool false))) (sNil))))))))
def restB (ftw fs fl fc fa fd fp ft fca : Fs) : Ev → Ms := seqM (sFor false (dRng rng1 (dCons (dLit (.int 3)) (dNil))) (.name 2) (turnB ftw fs fl fc fa fd fp ft fca)) (pRet (dLit (.bool true)))
theorem s_rest {G : Gm} {k : Nat} (B : Tp G) {j__law_twins : Nat} {ftw : List Slot → Mn D} (F__law_twins : FO G j__law_twins "_law_twins" 1 ftw) (h__law_twins : j__law_twins ≤ k) {j__law_semantics : Nat} {fs : List Slot → Mn D} (F__law_semantics : FO G j__law_semantics "_law_semantics" 1 fs) (h__law_semantics : j__law_semantics ≤ k) {j__law_leaves : Nat} {fl : List Slot → Mn D} (F__law_leaves : FO G j__law_leaves "_law_leaves" 1 fl) (h__law_leaves : j__law_leaves ≤ k) {j__law_count : Nat} {fc : List Slot → Mn D} (F__law_count : FO G j__law_count "_law_count" 3 fc) (h__law_count : j__law_count ≤ k) {j__law_alike : Nat} {fa : List Slot → Mn D} (F__law_alike : FO G j__law_alike "_law_alike" 2 fa) (h__law_alike : j__law_alike ≤ k) {j_least_difference : Nat} {fd : List Slot → Mn D} (F_least_difference : FO G j_least_difference "least_difference" 3 fd) (h_least_difference : j_least_difference ≤ k) {j__law_pick : Nat} {fp : List Slot → Mn D} (F__law_pick : FO G j__law_pick "_law_pick" 2 fp) (h__law_pick : j__law_pick ≤ k) {j__law_taken : Nat} {ft : List Slot → Mn D} (F__law_taken : FO G j__law_taken "_law_taken" 2 ft) (h__law_taken : j__law_taken ≤ k) {j_count_at : Nat} {fca : List Slot → Mn D} (F_count_at : FO G j_count_at "count_at" 3 fca) (h_count_at : j_count_at ≤ k) : SB G k ⟨defScope st_law, fun _ => true⟩ N_law ((defBody st_law).drop 1) (restB ftw fs fl fc fa fd fp ft fca) :=
    s_cons (s_for false (i_range1 (a_cons (e_int) (a_nil)) B.b_range) (g_name 2) (s_cons (P_tgN 3 [4, 5] (e_tup (a_cons (e_call F__law_semantics (a_row 1 (a_nil)) h__law_semantics) (a_cons (e_call F__law_twins (a_row 1 (a_nil)) h__law_twins) (a_nil)))) (.cons (by rfl) (by rfl) (.cons (by rfl) (by rfl) (.nil))))
    (s_cons (P_set 6 (e_if (T_cmp c_eq (E_ix (e_var 3) (e_int)) (e_str)) (e_int) (e_mulx (e_int) (e_max2 (a_cons (e_call F__law_leaves (a_cons (e_var 4) (a_nil)) h__law_leaves) (a_cons (e_call F__law_leaves (a_cons (e_var 5) (a_nil)) h__law_leaves) (a_nil))) B.b_max))))
    (s_cons (P_par3 7 8 9 (a_cons (E_add (e_lst (a_cons (e_bl) (a_cons (e_bl) (a_nil)))) (e_mulx (e_lst (a_cons (e_non) (a_nil))) (e_intc (a_cons (E_cmp c_eq (E_ix (e_var 3) (e_int)) (e_str)) (a_nil)) B.b_int))) (a_cons (e_non) (a_cons (e_lst (a_nil)) (a_nil)))))
    (s_cons (s_for false (i_seq (e_var 7)) (g_name 10) (s_one (P_set 9 (E_add (e_var 9) (e_lc [("q", 15)] (i_seq (e_var 7)) (g_name 15) (p_nil) (e_tup (a_cons (e_var 10) (a_cons (e_var 15) (a_nil)))))))))
    (s_cons (s_for false (i_range1 (a_cons (E_add (e_mulx (e_int) (e_var 6)) (e_int)) (a_nil)) B.b_range) (g_name 11) (s_one (s_for false (i_range1 (a_cons (E_add (e_var 11) (e_int)) (a_nil)) B.b_range) (g_name 13) (s_one (P_if (t_w (w_and (T_cmp c_is (e_var 8) (e_non)) (w_and (T_cmp c_le (e_var 13) (e_var 6)) (w_and1 (T_cmp c_le (E_sub (e_var 11) (e_var 13)) (e_var 6)))))) (s_cons (P_setLc 14 [("pair", 16)] (i_seq (e_var 9)) (g_name 16) (p_nil) (E_add (e_tup (a_cons (e_var 13) (a_cons (E_sub (e_var 11) (e_var 13)) (a_nil)))) (e_var 16)))
    (s_cons (P_setLc 14 [("case", 12)] (i_seq (e_var 14)) (g_name 12) (p_one (T_cmp c_ne (e_call F__law_count (a_cons (e_var 3) (a_cons (e_var 4) (a_cons (e_var 12) (a_nil)))) h__law_count) (e_call F__law_count (a_cons (e_var 3) (a_cons (e_var 5) (a_cons (e_var 12) (a_nil)))) h__law_count))) (e_var 12))
    (s_one (P_set 8 (e_if (T_cmp c_ne (e_var 14) (e_lst (a_nil))) (E_ix (e_var 14) (e_int)) (e_non)))))) (s_nil))))))
    (s_cons (P_if (t_not (t_val (e_call F__law_alike (a_cons (e_call F_least_difference (a_cons (e_var 3) (a_cons (e_var 4) (a_cons (e_var 5) (a_nil)))) h_least_difference) (a_cons (e_var 8) (a_nil))) h__law_alike))) (s_one (P_ret (e_bl))) (s_nil))
    (s_cons (P_set 12 (e_tup (a_cons (e_call F__law_taken (a_row 1 (a_cons (E_add (e_var 6) (e_int)) (a_nil))) h__law_taken) (a_cons (e_call F__law_taken (a_row 1 (a_cons (E_add (e_var 6) (e_int)) (a_nil))) h__law_taken) (a_cons (e_call F__law_pick (a_row 1 (a_cons (e_var 7) (a_nil))) h__law_pick) (a_cons (e_call F__law_pick (a_row 1 (a_cons (e_var 7) (a_nil))) h__law_pick) (a_nil)))))))
    (s_one (P_if (t_not (t_val (e_call F__law_alike (a_cons (e_call F_count_at (a_cons (e_var 3) (a_cons (e_var 4) (a_cons (e_var 12) (a_nil)))) h_count_at) (a_cons (e_call F__law_count (a_cons (e_var 3) (a_cons (e_var 4) (a_cons (e_var 12) (a_nil)))) h__law_count) (a_nil))) h__law_alike))) (s_one (P_ret (e_bl))) (s_nil)))))))))))
    (s_one (P_ret (e_bl)))
end K01
namespace K01
open PySem PySem.Spec PyProof.Rows L2 DL LW
theorem a_loop {fc : Fs} (hc : SpCount fc 30) (a b c : Bool) (n : N3) (z : Bool) (e g : Ex) (he : e.size ≤ 30) (hg : g.size ≤ 30) (m : Nat) (t : Nat) (s2 s10 s12 : DL.Slot) : ∀ (L : List Nat) (f : Option Cs) (s13 s14 : DL.Slot), (∀ x ∈ L, x ≤ t) →
    ∃ s13' s14', forGo (.name 13) (aB fc) (L.map fun i => PyData.int ((i : Nat) : Int)) (lev (wayD a b c n z) e g m n f s2 s10 (.dat (.int ((t : Nat) : Int))) s12 s13 s14) = nxM (lev (wayD a b c n z) e g m n (L.foldl (stp (difs a b c e g) (lawP m t n)) f) s2 s10 (.dat (.int ((t : Nat) : Int))) s12 s13' s14')
  | [], f, s13, s14, _ => ⟨s13, s14, rfl⟩
  | x :: L, f, s13, s14, h => by
    obtain ⟨s14', e1⟩ := a_turn hc a b c n z e g he hg m t x f s2 s10 s12 s14 (h x (by simp))
    obtain ⟨q13, q14, e2⟩ := a_loop hc a b c n z e g he hg m t s2 s10 s12 L (stp (difs a b c e g) (lawP m t n) f x) (.dat (.int ((x : Nat) : Int))) s14' fun y hy => h y (by simp [hy])
    refine ⟨q13, q14, ?_⟩
    rw [List.map_cons, forGo_cons]
    show wl (aB fc (lev (wayD a b c n z) e g m n f s2 s10 (.dat (.int ((t : Nat) : Int))) s12 (.dat (.int ((x : Nat) : Int))) s14)) _ = _
    rw [e1, wl_nx, e2]
    rfl
abbrev tB (fc : Fs) : Ev → Ms := sFor false (dRng rng1 (dCons (dBin addD (dVar 11) (dLit (.int 1))) (dNil))) (.name 13) (aB fc)
theorem t_turn {fc : Fs} (hc : SpCount fc 30) (a b c : Bool) (n : N3) (z : Bool) (e g : Ex) (he : e.size ≤ 30) (hg : g.size ≤ 30) (m : Nat) (t : Nat) (ht : t ≤ 1000) (s2 s10 s12 s13 s14 : DL.Slot) (f : Option Cs) :
    ∃ s13' s14', tB fc (lev (wayD a b c n z) e g m n f s2 s10 (.dat (.int ((t : Nat) : Int))) s12 s13 s14) = nxM (lev (wayD a b c n z) e g m n (lawS (difs a b c e g) m n f t) s2 s10 (.dat (.int ((t : Nat) : Int))) s12 s13' s14') := by
  obtain ⟨s13', s14', h⟩ := a_loop hc a b c n z e g he hg m t s2 s10 s12 (List.range (t + 1)) f s13 s14 fun x hx => by have := List.mem_range.mp hx; omega
  refine ⟨s13', s14', ?_⟩
  have l := lim_eq
  have src : dRng rng1 (dCons (dBin addD (dVar 11) (dLit (.int 1))) (dNil)) (lev (wayD a b c n z) e g m n f s2 s10 (.dat (.int ((t : Nat) : Int))) s12 s13 s14) = pur ((List.range (t + 1)).map fun i => PyData.int ((i : Nat) : Int)) := by
    rw [← rngD_nat]
    refine dRng_pur (ss := [.dat (.int ((t + 1 : Nat) : Int))]) (ds := [.int ((t + 1 : Nat) : Int)]) ?_ rfl (rng_len (t + 1) (by omega))
    simp [lev, addD]
  rw [tB, sFor_f, src, bnS_pur, h]
  rfl
theorem set11 (W : D) (e g : Ex) (m : Nat) (n : N3) (f : Option Cs) (s2 s10 s11 s12 s13 s14 : DL.Slot) (d : D) : setE (lev W e g m n f s2 s10 s11 s12 s13 s14) [11] [d] = lev W e g m n f s2 s10 (.dat d) s12 s13 s14 := rfl
theorem t_loop {fc : Fs} (hc : SpCount fc 30) (a b c : Bool) (n : N3) (z : Bool) (e g : Ex) (he : e.size ≤ 30) (hg : g.size ≤ 30) (m : Nat) (s2 s10 s12 : DL.Slot) : ∀ (L : List Nat) (f : Option Cs) (s11 s13 s14 : DL.Slot), (∀ x ∈ L, x ≤ 1000) →
    ∃ s11' s13' s14', forGo (.name 11) (tB fc) (L.map fun i => PyData.int ((i : Nat) : Int)) (lev (wayD a b c n z) e g m n f s2 s10 s11 s12 s13 s14) = nxM (lev (wayD a b c n z) e g m n (L.foldl (lawS (difs a b c e g) m n) f) s2 s10 s11' s12 s13' s14')
  | [], f, s11, s13, s14, _ => ⟨s11, s13, s14, rfl⟩
  | t :: L, f, s11, s13, s14, h => by
    obtain ⟨p13, p14, e1⟩ := t_turn hc a b c n z e g he hg m t (h t (by simp)) s2 s10 s12 s13 s14 f
    obtain ⟨q11, q13, q14, e2⟩ := t_loop hc a b c n z e g he hg m s2 s10 s12 L (lawS (difs a b c e g) m n f t) (.dat (.int ((t : Nat) : Int))) p13 p14 fun y hy => h y (by simp [hy])
    refine ⟨q11, q13, q14, ?_⟩
    rw [List.map_cons, forGo_cons, tgt_name, lft_some', bnS_pur, tix_name, set11, e1, wl_nx, e2]
    rfl
/-- the double loop gives the first case -/
theorem walk_ok {fc : Fs} (hc : SpCount fc 30) (a b c : Bool) (n : N3) (z : Bool) (e g : Ex) (he : OkEx e) (hg : OkEx g) (s2 s10 s11 s12 s13 s14 : DL.Slot) :
    ∃ s11' s13' s14', sFor false (dRng rng1 (dCons (dBin addD (dBin mulxD (dLit (.int 2)) (dVar 6)) (dLit (.int 1))) (dNil))) (.name 11) (tB fc) (lev (wayD a b c n z) e g (mostN a e g) n none s2 s10 s11 s12 s13 s14) = nxM (lev (wayD a b c n z) e g (mostN a e g) n (firstD a b c n e g) s2 s10 s11' s12 s13' s14') := by
  have hm := most_le (a := a) he hg
  obtain ⟨s11', s13', s14', h⟩ := t_loop hc a b c n z e g he.1 hg.1 (mostN a e g) s2 s10 s12 (List.range (2 * mostN a e g + 1)) none s11 s13 s14 fun x hx => by have := List.mem_range.mp hx; omega
  refine ⟨s11', s13', s14', ?_⟩
  rw [law_first _ _ _ hm] at h
  have l := lim_eq
  have src : dRng rng1 (dCons (dBin addD (dBin mulxD (dLit (.int 2)) (dVar 6)) (dLit (.int 1))) (dNil)) (lev (wayD a b c n z) e g (mostN a e g) n none s2 s10 s11 s12 s13 s14) = pur ((List.range (2 * mostN a e g + 1)).map fun i => PyData.int ((i : Nat) : Int)) := by
    rw [← rngD_nat]
    refine dRng_pur (ss := [.dat (.int ((2 * mostN a e g + 1 : Nat) : Int))]) ?_ rfl (rng_len _ (by omega))
    simp [lev, addD, mulxD]
  rw [sFor_f, src, bnS_pur, h]
  rfl
/-- the pairs -/
def pev (W : D) (e g : Ex) (m : Nat) (n : N3) (acc : List (Option Bool × Option Bool)) (s2 s10 s11 s12 s13 s14 : DL.Slot) : Ev :=
  [.hid, .row, s2, .dat W, .dat e.d, .dat g.d, .dat (.int ((m : Nat) : Int)), .dat (.list ((tru n).map td)), .dat .none, .dat (.list (acc.map prD)), s10, s11, s12, s13, s14, .hid, .hid]
abbrev pB : Ev → Ms := pSet 9 (dBin addD (dVar 9) (dComp [15] (dItm (dVar 7)) (.name 15) (dYes) (dTup (dCons (dVar 10) (dCons (dVar 15) (dNil))))))
theorem p_turn (W : D) (e g : Ex) (m : Nat) (n : N3) (acc : List (Option Bool × Option Bool)) (ha : acc.length ≤ 100) (s2 s11 s12 s13 s14 : DL.Slot) (p : Option Bool) :
    pB (pev W e g m n acc s2 (.dat (td p)) s11 s12 s13 s14) = nxM (pev W e g m n (acc ++ (tru n).map fun q => (p, q)) s2 (.dat (td p)) s11 s12 s13 s14) := by
  have l3 := tru_len n
  have c1 : dComp [15] (dItm (dVar 7)) (.name 15) (dYes) (dTup (dCons (dVar 10) (dCons (dVar 15) (dNil)))) (pev W e g m n acc s2 (.dat (td p)) s11 s12 s13 s14) = pur (.list ((tru n).map fun q => prD (p, q))) := by
    refine dComp_pur (ds := (tru n).map td) rfl ?_ (size_ok _ (by rw [List.length_map]; omega))
    refine compGo_all td (fun q => prD (p, q)) (tru n) fun q _ => ⟨[td q], rfl, ?_⟩
    show dTup _ [.hid, .row, s2, .dat W, .dat e.d, .dat g.d, .dat (.int ((m : Nat) : Int)), .dat (.list ((tru n).map td)), .dat .none, .dat (.list (acc.map prD)), .dat (td p), s11, s12, s13, s14, .dat (td q), .hid] = _
    simp [prD]
  have ad : addD (.list (acc.map prD)) (.list ((tru n).map fun q => prD (p, q))) = some (.list ((acc ++ (tru n).map fun q => (p, q)).map prD)) := by
    have sz : acc.length + (tru n).length ≤ sizeLine := size_ok _ (by omega)
    simp [addD, sz]
  have v9 : dVar 9 (pev W e g m n acc s2 (.dat (td p)) s11 s12 s13 s14) = pur (.list (acc.map prD)) := rfl
  rw [pB, pSet_eq, dBin_eq, v9, bnd_pur, c1, bnd_pur, ad]
  rfl
theorem p_loop (W : D) (e g : Ex) (m : Nat) (n : N3) (s2 s11 s12 s13 s14 : DL.Slot) : ∀ (L : List (Option Bool)) (acc : List (Option Bool × Option Bool)) (s10 : DL.Slot), acc.length + L.length * 3 ≤ 100 →
    ∃ s10', forGo (.name 10) pB (L.map td) (pev W e g m n acc s2 s10 s11 s12 s13 s14) = nxM (pev W e g m n (acc ++ L.flatMap fun p => (tru n).map fun q => (p, q)) s2 s10' s11 s12 s13 s14)
  | [], acc, s10, _ => ⟨s10, by simp [pev]⟩
  | p :: L, acc, s10, h => by
    have l3 := tru_len n
    rw [List.length_cons] at h
    obtain ⟨s10', e1⟩ := p_loop W e g m n s2 s11 s12 s13 s14 L (acc ++ (tru n).map fun q => (p, q)) (.dat (td p)) (by rw [List.length_append, List.length_map]; omega)
    refine ⟨s10', ?_⟩
    rw [List.map_cons, forGo_cons]
    show wl (pB (pev W e g m n acc s2 (.dat (td p)) s11 s12 s13 s14)) _ = _
    rw [p_turn W e g m n acc (by omega) s2 s11 s12 s13 s14 p, wl_nx, e1, List.flatMap_cons, List.append_assoc]
theorem pairs_ok (W : D) (e g : Ex) (m : Nat) (n : N3) (s2 s10 s11 s12 s13 s14 : DL.Slot) :
    ∃ s10', sFor false (dItm (dVar 7)) (.name 10) pB (pev W e g m n [] s2 s10 s11 s12 s13 s14) = nxM (lev W e g m n none s2 s10' s11 s12 s13 s14) := by
  have l3 := tru_len n
  obtain ⟨s10', h⟩ := p_loop W e g m n s2 s11 s12 s13 s14 (tru n) [] s10 (by simp; omega)
  refine ⟨s10', ?_⟩
  have src : dItm (dVar 7) (pev W e g m n [] s2 s10 s11 s12 s13 s14) = pur ((tru n).map td) := rfl
  rw [sFor_f, src, bnS_pur, h]
  rfl
end K01
namespace K01
open PySem PySem.Spec PyProof.Rows L2 DL LW
def LEv (ev : Ev) : Prop := ∃ s2 s3 s4 s5 s6 s7 s8 s9 s10 s11 s12 s13 s14, ev = [.hid, .row, s2, s3, s4, s5, s6, s7, s8, s9, s10, s11, s12, s13, s14, .hid, .hid]
theorem lev_ok (W : D) (e g : Ex) (m : Nat) (n : N3) (f : Option Cs) (s2 s10 s11 s12 s13 s14 : DL.Slot) : LEv (lev W e g m n f s2 s10 s11 s12 s13 s14) := ⟨_, _, _, _, _, _, _, _, _, _, _, _, _, rfl⟩
theorem most_set {fl : Fs} (hl : SpLeaves fl 30) (a b c : Bool) (n : N3) (z : Bool) (e g : Ex) (he : OkEx e) (hg : OkEx g) (s2 s6 s7 s8 s9 s10 s11 s12 s13 s14 : DL.Slot) :
    pSet 6 (dIf (dCmp eqD (dBin ixD (dVar 3) (dLit (.int 0))) (dLit (.str "set"))) (dLit (.int 1)) (dBin mulxD (dLit (.int 3)) (dFn max2D (dCons (dCl 1 fl (dCons (dVar 4) (dNil))) (dCons (dCl 1 fl (dCons (dVar 5) (dNil))) (dNil)))))) [.hid, .row, s2, .dat (wayD a b c n z), .dat e.d, .dat g.d, s6, s7, s8, s9, s10, s11, s12, s13, s14, .hid, .hid] = nxM [.hid, .row, s2, .dat (wayD a b c n z), .dat e.d, .dat g.d, .dat (.int ((mostN a e g : Nat) : Int)), s7, s8, s9, s10, s11, s12, s13, s14, .hid, .hid] := by
  have q1 := hl e he.1
  have q2 := hl g hg.1
  cases a with
  | false => simp [way_0, mostN]
  | true =>
    have mx : max2D [.int ((e.leaves : Nat) : Int), .int ((g.leaves : Nat) : Int)] = some (.int ((max e.leaves g.leaves : Nat) : Int)) := by
      simp only [max2D]
      congr 2
      split <;> omega
    have ml : mulxD (.int 3) (.int ((max e.leaves g.leaves : Nat) : Int)) = some (.int ((3 * max e.leaves g.leaves : Nat) : Int)) := by
      show some (PyData.int _) = some (PyData.int _)
      congr 2
    simp only [pSet_eq, dIf_eq, dCmp_eq, dBin_eq, dVar_eq, dLit_eq, dFn_eq, dCons_eq, dCl_eq, dNil_eq]
    simp [way_0, q1, q2, mx, ml, mostN]
theorem par_set (a b c : Bool) (n : N3) (z : Bool) (e g : Ex) (m : Nat) (s2 s7 s8 s9 s10 s11 s12 s13 s14 : DL.Slot) :
    pPar3 7 8 9 (dCons (dBin addD (dLst (dCons (dLit (.bool true)) (dCons (dLit (.bool false)) (dNil)))) (dBin mulxD (dLst (dCons (dLit .none) (dNil))) (dFn intD (dCons (dCmpE eqD (dBin ixD (dVar 3) (dLit (.int 3))) (dLit (.str "unknown"))) (dNil))))) (dCons (dLit .none) (dCons (dLst (dNil)) (dNil)))) [.hid, .row, s2, .dat (wayD a b c n z), .dat e.d, .dat g.d, .dat (.int ((m : Nat) : Int)), s7, s8, s9, s10, s11, s12, s13, s14, .hid, .hid] = nxM (pev (wayD a b c n z) e g m n [] s2 s10 s11 s12 s13 s14) := by
  have m1 : mulxD (.list [.none]) (.int (if n.unk = true then 1 else 0)) = some (.list (if n.unk = true then [.none] else [])) := by
    cases n.unk <;> simp [mulxD, repL]
  have ad : addD (.list [.bool true, .bool false]) (.list (if n.unk = true then [.none] else [])) = some (.list ((tru n).map td)) := by
    unfold tru
    cases n.unk <;> simp [addD, td]
  simp [pPar3_eq, way_3', unk_eq, int_b', m1, ad, pev]
theorem okA_td (t : Option Bool) : Atom (td t) := by rcases t with _ | b <;> trivial
theorem okA_oc (f : Option Cs) : OkA 1 (ocD f) := by
  cases f with
  | none => exact .inl trivial
  | some s =>
    refine .inr ⟨[.int s.1, .int s.2.1, td s.2.2.1, td s.2.2.2], .inl rfl, by show 4 ≤ lim; rw [lim_eq]; decide, fun x hx => ?_⟩
    simp only [List.mem_cons, List.not_mem_nil, or_false] at hx
    rcases hx with rfl | rfl | rfl | rfl
    · trivial
    · trivial
    · exact okA_td _
    · exact okA_td _
theorem chk1 {fa fd : Fs} (ha : SpAlikeM fa 1) (hd : SpLeast fd) (a b c : Bool) (n : N3) (z : Bool) (e g : Ex) (he : OkEx e) (hg : OkEx g) (m : Nat) (s2 s10 s11 s12 s13 s14 : DL.Slot) :
    pIf (dNot (dTru (dCl 2 fa (dCons (dCl 3 fd (dCons (dVar 3) (dCons (dVar 4) (dCons (dVar 5) (dNil))))) (dCons (dVar 8) (dNil)))))) (pRet (dLit (.bool false))) (sNil) (lev (wayD a b c n z) e g m n (firstD a b c n e g) s2 s10 s11 s12 s13 s14) = nxM (lev (wayD a b c n z) e g m n (firstD a b c n e g) s2 s10 s11 s12 s13 s14) := by
  have q1 := hd a b c n z e g he hg
  have q2 := ha _ (okA_oc (firstD a b c n e g))
  simp [lev, q1, q2, truD]
theorem mem_tru {n : N3} {d : D} (h : d ∈ (tru n).map td) : ∃ p : Option Bool, d = td p ∧ (p = none → n.unk = true) := by
  obtain ⟨p, hp, rfl⟩ := List.mem_map.mp h
  refine ⟨p, rfl, fun e => ?_⟩
  subst e
  unfold tru at hp
  cases hn : n.unk with
  | true => rfl
  | false => rw [hn] at hp; simp at hp
theorem draw_case {ft fp : Fs} (h1 : SpTk ft) (h2 : SpPick fp) (a b c : Bool) (n : N3) (z : Bool) (e g : Ex) (he : OkEx e) (hg : OkEx g) (f : Option Cs) (s2 s10 s11 s12 s13 s14 : DL.Slot) :
    GvS (pSet 12 (dTup (dCons (dCl 2 ft (dRow 1 (dCons (dBin addD (dVar 6) (dLit (.int 1))) (dNil)))) (dCons (dCl 2 ft (dRow 1 (dCons (dBin addD (dVar 6) (dLit (.int 1))) (dNil)))) (dCons (dCl 2 fp (dRow 1 (dCons (dVar 7) (dNil)))) (dCons (dCl 2 fp (dRow 1 (dCons (dVar 7) (dNil)))) (dNil)))))) (lev (wayD a b c n z) e g (mostN a e g) n f s2 s10 s11 s12 s13 s14)) fun ev => ∃ x y p q, OkC a n x y p q ∧ ev = lev (wayD a b c n z) e g (mostN a e g) n f s2 s10 s11 (.dat (caseD x y p q)) s13 s14 := by
  have ad : addD (.int ((mostN a e g : Nat) : Int)) (.int 1) = some (.int (((mostN a e g : Nat) : Int) + 1)) := rfl
  have hm := most_le (a := a) he hg
  have l3 := tru_len n
  have l0 : 0 < ((tru n).map td).length := by unfold tru; split <;> simp
  have b1 : ∀ i : Int, i < ((mostN a e g : Nat) : Int) + 1 → (if a = true then i ≤ 99 else i ≤ 1) := by
    intro i hi
    cases a with
    | true => simp; omega
    | false =>
      have e1 : mostN false e g = 1 := rfl
      rw [e1] at hi
      simp
      omega
  simp [lev, bnS_bnd, bnd_bnd, ad]
  refine GvS.bnS (h1 _ (by omega) (by omega)) fun d ⟨x, x0, x1, ex⟩ => ?_
  subst ex
  refine GvS.bnS (h1 _ (by omega) (by omega)) fun d ⟨y, y0, y1, ey⟩ => ?_
  subst ey
  refine GvS.bnS (h2 _ l0 (by rw [List.length_map]; omega)) fun d mp => ?_
  obtain ⟨p, rfl, hp⟩ := mem_tru mp
  refine GvS.bnS (h2 _ l0 (by rw [List.length_map]; omega)) fun d mq => ?_
  obtain ⟨q, rfl, hq⟩ := mem_tru mq
  exact GvS.nx ⟨x, y, p, q, ⟨x0, y0, b1 x x1, b1 y y1, hp, hq⟩, rfl⟩
theorem chk2 {fa fca fc : Fs} (ha : SpAlikeM fa 1) (h1 : SpCAt fca) (h2 : SpCount fc 30) (a b c : Bool) (n : N3) (z : Bool) (e g : Ex) (he : OkEx e) (m : Nat) (f : Option Cs) (s2 s10 s11 s13 s14 : DL.Slot) (x y : Int) (p q : Option Bool) (hc : OkC a n x y p q) :
    pIf (dNot (dTru (dCl 2 fa (dCons (dCl 3 fca (dCons (dVar 3) (dCons (dVar 4) (dCons (dVar 12) (dNil))))) (dCons (dCl 3 fc (dCons (dVar 3) (dCons (dVar 4) (dCons (dVar 12) (dNil))))) (dNil)))))) (pRet (dLit (.bool false))) (sNil) (lev (wayD a b c n z) e g m n f s2 s10 s11 (.dat (caseD x y p q)) s13 s14) = nxM (lev (wayD a b c n z) e g m n f s2 s10 s11 (.dat (caseD x y p q)) s13 s14) := by
  have q1 := h1 e he a b c n z x y p q hc
  have q2 := h2 e he.1 a b c n z x y p q
  have q3 := ha (.int (cz a b c x y p q e)) (.inl trivial)
  simp [lev, q1, q2, q3, truD]
def St1 (s2 s6 s7 s8 s9 s10 s11 s12 s13 s14 : DL.Slot) (ev : Ev) : Prop := ∃ a b c n z e g, OkEx e ∧ OkEx g ∧ ev = [.hid, .row, s2, .dat (wayD a b c n z), .dat (Ex.d e), .dat (Ex.d g), s6, s7, s8, s9, s10, s11, s12, s13, s14, .hid, .hid]
theorem turn_ok {ftw fs fl fc fa fd fp ft fca : Fs} (hw : SpTwins ftw) (hs : SpLawSem fs) (hl : SpLeaves fl 30) (hc : SpCount fc 30) (ha : SpAlikeM fa 1) (hd : SpLeast fd) (hp : SpPick fp) (ht : SpTk ft) (hca : SpCAt fca) (ev : Ev) (h : LEv ev) : GvS (turnB ftw fs fl fc fa fd fp ft fca ev) LEv := by
  obtain ⟨s2, s3, s4, s5, s6, s7, s8, s9, s10, s11, s12, s13, s14, rfl⟩ := h
  unfold turnB
  rw [seqM_eq]
  refine GvS.sq (P := St1 s2 s6 s7 s8 s9 s10 s11 s12 s13 s14) ?_ fun ev ⟨a, b, c, n, z, e, g, he, hg, eev⟩ => ?_
  · simp [bnS_bnd, bnd_bnd]
    refine GvS.bnS hs fun d ⟨a, b, c, n, z, ed⟩ => ?_
    subst ed
    refine GvS.bnS hw fun d ⟨e, g, ed, he, hg⟩ => ?_
    subst ed
    exact GvS.nx ⟨a, b, c, n, z, e, g, he, hg, rfl⟩
  subst eev
  rw [seqM_eq, most_set hl a b c n z e g he hg, sq_nx, seqM_eq, par_set, sq_nx, seqM_eq]
  obtain ⟨t10, e1⟩ := pairs_ok (wayD a b c n z) e g (mostN a e g) n s2 s10 s11 s12 s13 s14
  rw [e1, sq_nx, seqM_eq]
  obtain ⟨t11, t13, t14, e2⟩ := walk_ok hc a b c n z e g he hg s2 t10 s11 s12 s13 s14
  rw [e2, sq_nx, seqM_eq, chk1 ha hd a b c n z e g he hg, sq_nx, seqM_eq]
  refine GvS.sq (draw_case ht hp a b c n z e g he hg (firstD a b c n e g) s2 t10 t11 s12 t13 t14) fun ev ⟨x, y, p, q, ok, eev⟩ => ?_
  subst eev
  rw [chk2 ha hca hc a b c n z e g he (mostN a e g) (firstD a b c n e g) s2 t10 t11 t13 t14 x y p q ok]
  exact GvS.nx (lev_ok ..)
theorem rest_ok {ftw fs fl fc fa fd fp ft fca : Fs} (hw : SpTwins ftw) (hs : SpLawSem fs) (hl : SpLeaves fl 30) (hc : SpCount fc 30) (ha : SpAlikeM fa 1) (hd : SpLeast fd) (hp : SpPick fp) (ht : SpTk ft) (hca : SpCAt fca) (rs : RS) :
    ∃ rs', restB ftw fs fl fc fa fd fp ft fca [.hid, .row, .hid, .hid, .hid, .hid, .hid, .hid, .hid, .hid, .hid, .hid, .hid, .hid, .hid, .hid, .hid] rs = some (.ret (.bool true), rs') := by
  have go : ∀ (ds : List D) (ev : Ev), LEv ev → GvS (forGo (.name 2) (turnB ftw fs fl fc fa fd fp ft fca) ds ev) LEv := by
    intro ds
    induction ds with
    | nil => intro ev h; exact GvS.nx h
    | cons d ds ih =>
      intro ev h
      obtain ⟨s2, s3, s4, s5, s6, s7, s8, s9, s10, s11, s12, s13, s14, rfl⟩ := h
      rw [forGo_cons, tgt_name, lft_some', bnS_pur, tix_name]
      exact GvS.wl (turn_ok hw hs hl hc ha hd hp ht hca _ ⟨_, _, _, _, _, _, _, _, _, _, _, _, _, rfl⟩) fun ev g => ih ev g
  have src : dRng rng1 (dCons (dLit (.int 3)) (dNil)) [.hid, .row, .hid, .hid, .hid, .hid, .hid, .hid, .hid, .hid, .hid, .hid, .hid, .hid, .hid, .hid, .hid] = pur (rngD 0 ((3 : Nat) : Int)) := by
    refine dRng_pur (ss := [.dat (.int ((3 : Nat) : Int))]) (ds := [.int ((3 : Nat) : Int)]) rfl rfl (rng_len 3 (by rw [lim_eq]; decide))
  obtain ⟨ev, rs', e1, _⟩ := go (rngD 0 ((3 : Nat) : Int)) [.hid, .row, .hid, .hid, .hid, .hid, .hid, .hid, .hid, .hid, .hid, .hid, .hid, .hid, .hid, .hid, .hid] ⟨_, _, _, _, _, _, _, _, _, _, _, _, _, rfl⟩ rs
  refine ⟨rs', ?_⟩
  unfold restB
  rw [seqM_eq, sFor_f, src, bnS_pur]
  unfold sq
  rw [e1]
  rfl
end K01
namespace K01
open PySem PySem.Spec PyProof.Rows L2 DL LW
theorem cmul2 (i : Int) : CMul i 48271 := .inr ⟨by decide, by decide⟩
theorem dat1 {K : PySem.W.Frag} {M : Addr → Prop} {r : Rw} {H : Hp} {vs : List V} {m : Int} (h : ArgL K M r H vs [.row, .dat (.int m)]) : vs = [.ref r.a, .int m] := by
  cases h with
  | row h => cases h with
    | dat d h => cases h; cases d; rfl
theorem tkF_some {ss : List Slot} {rs rs' : RS} {o : Out D} (h : tkF ss rs = some (o, rs')) : ∃ m : Int, ss = [.row, .dat (.int m)] ∧ 0 < m ∧ m < 1073741824 ∧ o = .val (.int (tk m rs).1) ∧ rs' = (tk m rs).2 := by
  unfold tkF at h
  split at h
  · rename_i m
    split at h
    · rename_i c
      cases h
      exact ⟨m, rfl, c.1, c.2, rfl, rfl⟩
    · cases h
  · cases h
theorem upd_upd' {H : Hp} {a : Addr} {o o' : HO} : upd (upd H a o) a o' = upd H a o' := by
  funext b
  by_cases h : b = a
  · subst h; rw [upd_same, upd_same]
  · rw [upd_ne h, upd_ne h, upd_ne h]
theorem fo_taken {G : Gm} (h : HasF G "_law_taken" st__law_taken P__law_taken) (B : Tp G) : FO G 1 "_law_taken" 2 tkF := by
  obtain ⟨f, fd, hmg, F, bd⟩ := h.ex
  refine ⟨f, fd, _, hmg, F.kp, bd, rfl, F.okX sc__law_taken (fun vs H Q E h => h.1) fun cdv A outer s H vs Q E hr hsp => ?_⟩
  obtain ⟨hn, M, r, ss, rs, mr, ml, row, ar, o, rs', e, w⟩ := hsp
  obtain ⟨m, rfl, h0, h1, rfl, rfl⟩ := tkF_some e
  obtain rfl := dat1 ar
  refine ⟨_, pss_cons (ps_if (pt_cmpR op_gt (pe_ix ix_list (pv 0) pe_int (fun _ _ => rfl)) pe_int (nomark _))
      (pss_cons (ps_set (i := 3) sc__law_taken.nd rfl (Or.inl rfl) (pe_op op_mod (pe_callTy call_int1 rfl B.b_int PyProof.Rows.boot_int (pa_cons (pe_ix ix_list (pv 0) pe_int (fun _ _ => rfl)) pa_nil)) (pv 1)))
      (pss_cons (ps_asg (pe_op op_fdiv (pe_ix ix_list (pv 0) pe_int (fun _ _ => rfl)) (pv 1)) (pg_sub (pv 0) pe_int set_list))
      (pss_one (ps_ret (pv 3))))) pss_nil)
    (pss_cons (ps_asg (pe_op op_add (pe_ix ix_list (pv 0) pe_int (fun _ _ => rfl)) pe_int) (pg_sub (pv 0) pe_int set_list))
    (pss_cons (ps_if (pt_cmpR op_gt (pe_ix ix_list (pv 0) pe_int (fun _ _ => rfl)) (pe_callB call_len_seq rfl B.b_len PySem.boot_len (pa_cons (pe_ix ix_list (pv 0) pe_int (fun _ _ => rfl)) pa_nil)) (nomark _))
      (pss_cons (ps_asg (pe_op op_mod (pe_callTy call_int1 rfl B.b_int PyProof.Rows.boot_int (pa_cons (pe_op op_add (pe_op op_mul (pe_ix ix_list (pv 0) pe_int (fun _ _ => rfl)) pe_int) pe_int) pa_nil)) pe_int) (pg_sub (pv 0) pe_int set_list))
      (pss_one (ps_ret (pe_op op_mod (pe_callTy call_int1 rfl B.b_int PyProof.Rows.boot_int (pa_cons (pe_op op_fdiv (pe_ix ix_list (pv 0) pe_int (fun _ _ => rfl)) pe_int) pa_nil)) (pv 1))))) pss_nil)
    (pss_cons (ps_set (i := 2) sc__law_taken.nd rfl (Or.inl rfl) (pe_ix ix_list (pe_ix ix_list (pv 0) pe_int (fun _ _ => rfl)) (pe_op op_sub (pe_ix ix_list (pv 0) pe_int (fun _ _ => rfl)) pe_int) (fun _ _ => rfl)))
    (pss_cons (ps_asg (pe_op op_mod (pe_callTy call_int1 rfl B.b_int PyProof.Rows.boot_int (pa_cons (pe_op op_add (pe_op op_add (pe_op op_mul (pe_ix ix_list (pv 0) pe_int (fun _ _ => rfl)) pe_int) (pv 2)) pe_int) pa_nil)) pe_int) (pg_sub (pv 0) pe_int set_list))
    (pss_cons (ps_if (pt_cmpR op_ge (pv 2) (pe_op op_pow pe_int pe_int) (nomark _))
      (pss_one (ps_asg (pe_op op_fdiv (pv 2) (pv 1)) (pg_sub (pv 0) pe_int set_list))) pss_nil)
    (pss_one (ps_ret (pe_op op_mod (pe_callTy call_int1 rfl B.b_int PyProof.Rows.boot_int (pa_cons (pv 2) pa_nil)) (pv 1))))))))), ?_⟩
  have hR : H r.a = some (.lst (rowV r rs)) := row.1.1
  have en : rs.ns = r.ns := row.1.2
  have hS : SqL G.K H r.sc (r.ns.map V.int) := row.2.sq
  have fin : ∀ (rs2 : RS) (d : Int) (H' : Hp), tk m rs = (d, rs2) → rs2.ns = rs.ns → H' = upd H r.a (.lst (rowV r rs2)) → Q (.int d) H' := fun rs2 d H' e1 e2 e3 => by
    subst e3
    rw [e1] at w
    exact w _ stp_upd (row_put mr row stp_upd upd_same e2) _ (.int d)
  refine ⟨_, rfl, r.a, _, _, _, rfl, rfl, .of hR, rfl, _, _, rfl, rfl, _, rfl, ?_⟩
  refine ite2 (fun c => ?_) (fun c => ?_)
  · have c' : 0 < rs.c := of_decide_eq_true c
    refine ⟨_, rfl, r.a, _, _, _, rfl, rfl, .of hR, rfl, .inl ⟨_, rfl, _, rfl, _, _, rfl, rfl, h0, ?_⟩⟩
    refine ⟨_, rfl, r.a, _, _, _, rfl, rfl, .of hR, rfl, _, rfl, _, _, rfl, rfl, ⟨h0, h1⟩, _, rfl, r.a, _, _, 3, rfl, rfl, hR, rfl, ?_⟩
    exact ⟨_, rfl, fin { rs with c := rs.c / m } _ _ (by unfold tk; rw [if_pos c']) rfl rfl⟩
  · have c' : ¬ 0 < rs.c := of_decide_eq_false (Bool.eq_false_iff.mpr c)
    -- row[1] = row[1] + 1
    refine ⟨_, rfl, r.a, _, _, _, rfl, rfl, .of hR, rfl, _, _, rfl, rfl, _, rfl, r.a, _, _, 1, rfl, rfl, hR, rfl, ?_⟩
    have hR1 : upd H r.a (.lst [.ref r.sc, .int ((rs.a : Int) + 1), .int rs.b, .int rs.c]) r.a = some (.lst [.ref r.sc, .int ((rs.a : Int) + 1), .int rs.b, .int rs.c]) := upd_same
    have hS1 : ∀ xs, SqL G.K (upd H r.a (.lst xs)) r.sc (r.ns.map V.int) := fun xs => (sqlm_kp row.2 (stp_upd.kp mr)).sq
    refine ⟨_, rfl, r.a, _, _, _, rfl, rfl, .of hR1, rfl, _, rfl, r.a, _, _, _, rfl, rfl, .of hR1, rfl, r.sc, _, rfl, .inl (hS1 _), _, _, rfl, rfl, _, rfl, ?_⟩
    refine ite2 (fun d => ?_) (fun d => ?_)
    · have d' : ((r.ns.map V.int).length : Int) < (rs.a : Int) + 1 := of_decide_eq_true d
      rw [List.length_map] at d'
      refine ⟨_, rfl, r.a, _, _, _, rfl, rfl, .of hR1, rfl, _, _, rfl, rfl, cmul2 _, _, _, rfl, rfl, .inl ⟨_, rfl, _, _, rfl, rfl, (by show (0 : Int) < 2147483647; decide), _, rfl, r.a, _, _, 2, rfl, rfl, hR1, rfl, ?_⟩⟩
      rw [upd_upd']
      refine ⟨_, rfl, r.a, _, _, _, rfl, rfl, .of upd_same, rfl, _, _, rfl, rfl, ⟨by decide, by decide⟩, .inl ⟨_, rfl, _, rfl, _, _, rfl, rfl, h0, ?_⟩⟩
      exact fin { rs with a := rs.a + 1, b := (rs.b * 48271 + 11) % 2147483647 } _ _ (by unfold tk; rw [if_neg c', if_pos (by rw [en]; omega)]) rfl rfl
    · have d' : ¬ ((r.ns.map V.int).length : Int) < (rs.a : Int) + 1 := of_decide_eq_false (Bool.eq_false_iff.mpr d)
      rw [List.length_map] at d'
      have hcell : atI (r.ns.map V.int) ((rs.a : Int) + 1 - 1) = some (.int (rs.ns.getD rs.a 0)) := by
        rw [show ((rs.a : Int) + 1 - 1) = ((rs.a : Nat) : Int) by omega]
        refine atI_nat ?_
        have hl : rs.a < r.ns.length := by omega
        rw [List.getElem?_map, List.getElem?_eq_getElem hl, en]
        simp [List.getD_eq_getElem?_getD, List.getElem?_eq_getElem hl]
      refine ⟨_, rfl, r.a, _, _, _, rfl, rfl, .of hR1, rfl, _, rfl, r.a, _, _, _, rfl, rfl, .of hR1, rfl, _, _, rfl, rfl, r.sc, _, _, _, rfl, rfl, hS1 _, hcell, ?_⟩
      refine ⟨_, rfl, r.a, _, _, _, rfl, rfl, .of hR1, rfl, _, _, rfl, rfl, cmul2 _, _, rfl, _, _, rfl, rfl, _, _, rfl, rfl, .inl ⟨_, rfl, _, _, rfl, rfl, (by show (0 : Int) < 2147483647; decide), _, rfl, r.a, _, _, 2, rfl, rfl, hR1, rfl, ?_⟩⟩
      rw [upd_upd']
      refine ⟨_, rfl, _, _, rfl, rfl, ⟨by decide, by decide, by decide⟩, _, _, rfl, rfl, _, rfl, ?_⟩
      refine ite2 (fun z => ?_) (fun z => ?_)
      · have z' : (10 : Int) ^ 18 ≤ rs.ns.getD rs.a 0 := of_decide_eq_true z
        refine ⟨_, rfl, _, rfl, _, _, rfl, rfl, ⟨h0, h1⟩, _, rfl, r.a, _, _, 3, rfl, rfl, upd_same, rfl, ?_⟩
        rw [upd_upd']
        refine ⟨_, rfl, .inl ⟨_, rfl, _, rfl, _, _, rfl, rfl, h0, ?_⟩⟩
        exact fin { rs with a := rs.a + 1, b := (rs.b * 48271 + rs.ns.getD rs.a 0 + 11) % 2147483647, c := rs.ns.getD rs.a 0 / m } _ _ (by unfold tk; rw [if_neg c', if_neg (by rw [en]; omega)]; dsimp only; rw [if_pos z']) rfl rfl
      · have z' : ¬ (10 : Int) ^ 18 ≤ rs.ns.getD rs.a 0 := of_decide_eq_false (Bool.eq_false_iff.mpr z)
        refine ⟨_, rfl, .inl ⟨_, rfl, _, rfl, _, _, rfl, rfl, h0, ?_⟩⟩
        exact fin { rs with a := rs.a + 1, b := (rs.b * 48271 + rs.ns.getD rs.a 0 + 11) % 2147483647 } _ _ (by unfold tk; rw [if_neg c', if_neg (by rw [en]; omega)]; dsimp only; rw [if_neg z']) rfl rfl
structure Df (G : Gm) : Prop where
  h_is_semantics : HasF G "is_semantics" st_is_semantics P_is_semantics
  h_check_semantics : HasF G "check_semantics" st_check_semantics P_check_semantics
  h_is_integer_to : HasF G "is_integer_to" st_is_integer_to P_is_integer_to
  h_tuples_of : HasF G "tuples_of" st_tuples_of P_tuples_of
  h__has_form : HasF G "_has_form" st__has_form P__has_form
  h__fits : HasF G "_fits" st__fits P__fits
  h__inner_tuples : HasF G "_inner_tuples" st__inner_tuples P__inner_tuples
  h_connected : HasF G "connected" st_connected P_connected
  h__negation : HasF G "_negation" st__negation P__negation
  h__conjunction : HasF G "_conjunction" st__conjunction P__conjunction
  h__disjunction : HasF G "_disjunction" st__disjunction P__disjunction
  h_combined_count : HasF G "combined_count" st_combined_count P_combined_count
  h__count_with_repeats : HasF G "_count_with_repeats" st__count_with_repeats P__count_with_repeats
  h_is_expression : HasF G "is_expression" st_is_expression P_is_expression
  h__leaves_among : HasF G "_leaves_among" st__leaves_among P__leaves_among
  h__check_expressions : HasF G "_check_expressions" st__check_expressions P__check_expressions
  h_count_at : HasF G "count_at" st_count_at P_count_at
  h__is_case : HasF G "_is_case" st__is_case P__is_case
  h__is_truth : HasF G "_is_truth" st__is_truth P__is_truth
  h__count_of : HasF G "_count_of" st__count_of P__count_of
  h__condition_truth : HasF G "_condition_truth" st__condition_truth P__condition_truth
  h_least_difference : HasF G "least_difference" st_least_difference P_least_difference
  h__greatest_needed : HasF G "_greatest_needed" st__greatest_needed P__greatest_needed
  h__cases : HasF G "_cases" st__cases P__cases
  h__law_taken : HasF G "_law_taken" st__law_taken P__law_taken
  h__law_pick : HasF G "_law_pick" st__law_pick P__law_pick
  h__law_alike : HasF G "_law_alike" st__law_alike P__law_alike
  h__law_semantics : HasF G "_law_semantics" st__law_semantics P__law_semantics
  h__law_join : HasF G "_law_join" st__law_join P__law_join
  h__law_many : HasF G "_law_many" st__law_many P__law_many
  h__law_condition : HasF G "_law_condition" st__law_condition P__law_condition
  h__law_expression : HasF G "_law_expression" st__law_expression P__law_expression
  h__law_leaves : HasF G "_law_leaves" st__law_leaves P__law_leaves
  h__law_known : HasF G "_law_known" st__law_known P__law_known
  h__law_count : HasF G "_law_count" st__law_count P__law_count
  h__law_twins : HasF G "_law_twins" st__law_twins P__law_twins
  h__law_tuples : HasF G "_law_tuples" st__law_tuples P__law_tuples
  h__law_tree : HasF G "_law_tree" st__law_tree P__law_tree
section
variable {G : Gm}
theorem fo_is_integer_to (B : Tp G) (h : Df G) : ∃ f, FO G 1 "is_integer_to" 2 f ∧ SpIntTo f := by
  exact ⟨_, fo_has (k := 0) h.h_is_integer_to sc_is_integer_to (s_is_integer_to B), int_to⟩
theorem fo_is_semantics (B : Tp G) (h : Df G) : ∃ f, FO G 2 "is_semantics" 1 f ∧ SpSem f := by
  exact ⟨_, fo_has (k := 1) h.h_is_semantics sc_is_semantics (s_is_semantics B (by omega)), sem⟩
theorem fo_check_semantics (B : Tp G) (h : Df G) : ∃ f, FO G 3 "check_semantics" 1 f ∧ SpChkS f := by
  obtain ⟨g0, F0, p0⟩ := fo_is_semantics B h
  exact ⟨_, fo_has (k := 2) h.h_check_semantics sc_check_semantics (s_check_semantics B F0 (by omega)), chk_sem p0⟩
theorem fo__fits (B : Tp G) (h : Df G) : ∃ f, FO G 2 "_fits" 2 f ∧ SpFits f := by
  obtain ⟨g0, F0, p0⟩ := fo_is_integer_to B h
  exact ⟨_, fo_has (k := 1) h.h__fits sc__fits (s__fits B F0 (by omega)), fits p0⟩
theorem fo__has_form (B : Tp G) (h : Df G) : ∃ f, FO G 3 "_has_form" 2 f ∧ SpHas f := by
  obtain ⟨g0, F0, p0⟩ := fo__fits B h
  exact ⟨_, fo_has (k := 2) h.h__has_form sc__has_form (s__has_form B F0 (by omega)), has_form p0⟩
theorem fo__inner_tuples (B : Tp G) (h : Df G) : ∃ f, FO G 3 "_inner_tuples" 2 f ∧ SpInn f := by
  exact ⟨_, fo_has (k := 2) h.h__inner_tuples sc__inner_tuples (s__inner_tuples B), inner_t⟩
theorem fo_tuples_of (B : Tp G) (h : Df G) : ∃ f, FO G 4 "tuples_of" 3 f ∧ SpTup f := by
  obtain ⟨g0, F0, p0⟩ := fo__has_form B h
  obtain ⟨g1, F1, p1⟩ := fo__inner_tuples B h
  exact ⟨_, fo_has (k := 3) h.h_tuples_of sc_tuples_of (s_tuples_of B F0 (by omega) F1 (by omega)), tuples_ok p0 p1⟩
theorem fo__leaves_among (B : Tp G) (h : Df G) : ∃ f, FO G 2 "_leaves_among" 1 f ∧ SpAmong f := by
  exact ⟨_, fo_has (k := 1) h.h__leaves_among sc__leaves_among (s__leaves_among B), among_ok⟩
theorem fo_is_expression (B : Tp G) (h : Df G) : ∃ f, FO G 5 "is_expression" 1 f ∧ SpIsEx f := by
  obtain ⟨g0, F0, p0⟩ := fo_tuples_of B h
  obtain ⟨g1, F1, p1⟩ := fo__leaves_among B h
  exact ⟨_, fo_has (k := 4) h.h_is_expression sc_is_expression (s_is_expression B F0 (by omega) F1 (by omega)), is_ex p0 p1⟩
theorem fo__check_expressions (B : Tp G) (h : Df G) : ∃ f, FO G 6 "_check_expressions" 1 f ∧ SpChkE f := by
  obtain ⟨g0, F0, p0⟩ := fo_is_expression B h
  exact ⟨_, fo_has (k := 5) h.h__check_expressions sc__check_expressions (s__check_expressions B F0 (by omega)), chk_ex p0⟩
theorem fo__negation (B : Tp G) (h : Df G) : ∃ f, FO G 1 "_negation" 1 f ∧ SpNeg f := by
  exact ⟨_, fo_has (k := 0) h.h__negation sc__negation (s__negation), neg⟩
theorem fo__conjunction (B : Tp G) (h : Df G) : ∃ f, FO G 1 "_conjunction" 2 f ∧ SpAnd f := by
  exact ⟨_, fo_has (k := 0) h.h__conjunction sc__conjunction (s__conjunction), conj⟩
theorem fo__disjunction (B : Tp G) (h : Df G) : ∃ f, FO G 1 "_disjunction" 2 f ∧ SpOr f := by
  exact ⟨_, fo_has (k := 0) h.h__disjunction sc__disjunction (s__disjunction), disj⟩
theorem fo_connected (B : Tp G) (h : Df G) : ∃ f, FO G 2 "connected" 2 f ∧ SpConn f := by
  obtain ⟨g0, F0, p0⟩ := fo__negation B h
  obtain ⟨g1, F1, p1⟩ := fo__conjunction B h
  obtain ⟨g2, F2, p2⟩ := fo__disjunction B h
  exact ⟨_, fo_has (k := 1) h.h_connected sc_connected (s_connected F0 (by omega) F1 (by omega) F2 (by omega)), conn p0 p1 p2⟩
theorem fo__condition_truth (B : Tp G) (h : Df G) : ∀ m : Nat, ∃ f, FO G (3 + m) "_condition_truth" 2 f ∧ SpCT f m
  | 0 => ⟨_, fo_zero h.h__condition_truth rfl, fun x hx => absurd (cnd_pos x) (by omega)⟩
  | m + 1 => by
    obtain ⟨g, F, p⟩ := fo__condition_truth B h m
    obtain ⟨g0, F0, p0⟩ := fo_connected B h
    exact ⟨_, fo_has (k := 3 + m) h.h__condition_truth sc__condition_truth (s__condition_truth B F0 (by omega) F (by omega) (by omega)), ctruth p0 p⟩
theorem fo__count_with_repeats (B : Tp G) (h : Df G) : ∃ f, FO G 1 "_count_with_repeats" 4 f ∧ SpRaw f := by
  exact ⟨_, fo_has (k := 0) h.h__count_with_repeats sc__count_with_repeats (s__count_with_repeats B), raw_ok⟩
theorem fo_combined_count (B : Tp G) (h : Df G) : ∃ f, FO G 2 "combined_count" 4 f ∧ SpComb f := by
  obtain ⟨g0, F0, p0⟩ := fo__count_with_repeats B h
  exact ⟨_, fo_has (k := 1) h.h_combined_count sc_combined_count (s_combined_count B F0 (by omega)), comb_ok p0⟩
theorem fo__count_of (B : Tp G) (h : Df G) : ∀ m : Nat, ∃ f, FO G (10 + m) "_count_of" 3 f ∧ SpCnt f m
  | 0 => ⟨_, fo_zero h.h__count_of rfl, fun x hx => absurd (ex_pos x) (by omega)⟩
  | m + 1 => by
    obtain ⟨g, F, p⟩ := fo__count_of B h m
    obtain ⟨g0, F0, p0⟩ := fo__condition_truth B h m
    obtain ⟨g1, F1, p1⟩ := fo_combined_count B h
    exact ⟨_, fo_has (k := 10 + m) h.h__count_of sc__count_of (s__count_of F0 (by omega) F (by omega) F1 (by omega)), cnt_ok p p0 p1⟩
theorem fo__is_truth (B : Tp G) (h : Df G) : ∃ f, FO G 1 "_is_truth" 2 f ∧ SpIsT f := by
  exact ⟨_, fo_has (k := 0) h.h__is_truth sc__is_truth (s__is_truth B), ist_ok⟩
theorem fo__is_case (B : Tp G) (h : Df G) : ∃ f, FO G 2 "_is_case" 2 f ∧ SpCase f := by
  obtain ⟨g0, F0, p0⟩ := fo_is_integer_to B h
  obtain ⟨g1, F1, p1⟩ := fo__is_truth B h
  exact ⟨_, fo_has (k := 1) h.h__is_case sc__is_case (s__is_case B F0 (by omega) F1 (by omega)), case_ok p0 p1⟩
theorem fo_count_at (B : Tp G) (h : Df G) : ∃ f, FO G 41 "count_at" 3 f ∧ SpCAt f := by
  obtain ⟨g0, F0, p0⟩ := fo_check_semantics B h
  obtain ⟨g1, F1, p1⟩ := fo__check_expressions B h
  obtain ⟨g2, F2, p2⟩ := fo__is_case B h
  obtain ⟨g3, F3, p3⟩ := fo__count_of B h 30
  exact ⟨_, fo_has (k := 40) h.h_count_at sc_count_at (s_count_at B F0 (by omega) F1 (by omega) F2 (by omega) F3 (by omega)), cat_ok p0 p1 p2 p3⟩
theorem fo__greatest_needed (B : Tp G) (h : Df G) : ∃ f, FO G 5 "_greatest_needed" 3 f ∧ SpGreat f := by
  obtain ⟨g0, F0, p0⟩ := fo_tuples_of B h
  obtain ⟨g1, F1, p1⟩ := fo__leaves_among B h
  exact ⟨_, fo_has (k := 4) h.h__greatest_needed sc__greatest_needed (s__greatest_needed B F1 (by omega) F0 (by omega)), great_ok p0 p1⟩
theorem fo__cases (B : Tp G) (h : Df G) : ∃ f, FO G 1 "_cases" 2 f ∧ SpCases f := by
  exact ⟨_, fo_has (k := 0) h.h__cases sc__cases (s__cases B), cases_ok⟩
theorem fo_least_difference (B : Tp G) (h : Df G) : ∃ f, FO G 41 "least_difference" 3 f ∧ SpLeast f := by
  obtain ⟨g0, F0, p0⟩ := fo_check_semantics B h
  obtain ⟨g1, F1, p1⟩ := fo__check_expressions B h
  obtain ⟨g2, F2, p2⟩ := fo__cases B h
  obtain ⟨g3, F3, p3⟩ := fo__greatest_needed B h
  obtain ⟨g4, F4, p4⟩ := fo__count_of B h 30
  exact ⟨_, fo_has (k := 40) h.h_least_difference sc_least_difference (s_least_difference F0 (by omega) F1 (by omega) F2 (by omega) F3 (by omega) F4 (by omega)), least_ok p0 p1 p2 p3 p4⟩
theorem fo__law_pick (B : Tp G) (h : Df G) : ∃ f, FO G 2 "_law_pick" 2 f ∧ SpPick f := by
  exact ⟨_, fo_has (k := 1) h.h__law_pick sc__law_pick (s__law_pick B (fo_taken h.h__law_taken B) (by omega)), pick taken⟩
theorem fo__law_semantics (B : Tp G) (h : Df G) : ∃ f, FO G 3 "_law_semantics" 1 f ∧ SpLawSem f := by
  obtain ⟨g0, F0, p0⟩ := fo__law_pick B h
  exact ⟨_, fo_has (k := 2) h.h__law_semantics sc__law_semantics (s__law_semantics F0 (by omega)), law_sem p0⟩
theorem fo_alike0 (B : Tp G) (h : Df G) : ∃ f, FO G 3 "_law_alike" 2 f ∧ SpAlikeM f 0 := by
  exact ⟨_, fo_has (k := 2) h.h__law_alike sc__law_alike (s__law_alike B (fo_zero (k := 2) h.h__law_alike rfl) (by omega)), alike_zero⟩
theorem fo_alike1 (B : Tp G) (h : Df G) : ∃ f, FO G 4 "_law_alike" 2 f ∧ SpAlikeM f 1 := by
  obtain ⟨g0, F0, p0⟩ := fo_alike0 B h
  exact ⟨_, fo_has (k := 3) h.h__law_alike sc__law_alike (s__law_alike B F0 (by omega)), alike_step p0⟩
theorem fo__law_join (B : Tp G) (h : Df G) : ∃ f, FO G 3 "_law_join" 3 f ∧ SpJoin f := by
  exact ⟨_, fo_has (k := 2) h.h__law_join sc__law_join (s__law_join (by omega)), joins⟩
theorem fo__law_known (B : Tp G) (h : Df G) : ∀ m : Nat, ∃ f, FO G (5 + m) "_law_known" 3 f ∧ SpKnown f m
  | 0 => ⟨_, fo_zero h.h__law_known rfl, fun x hx => absurd (cnd_pos x) (by omega)⟩
  | m + 1 => by
    obtain ⟨g, F, p⟩ := fo__law_known B h m
    obtain ⟨g0, F0, p0⟩ := fo__law_join B h
    exact ⟨_, fo_has (k := 5 + m) h.h__law_known sc__law_known (s__law_known F (by omega) F0 (by omega) (by omega)), known_ok p p0⟩
theorem fo__law_many (B : Tp G) (h : Df G) : ∃ f, FO G 2 "_law_many" 4 f ∧ LW.SpMany f := by
  exact ⟨_, fo_has (k := 1) h.h__law_many sc__law_many (s__law_many B), many_ok⟩
theorem fo__law_count (B : Tp G) (h : Df G) : ∀ m : Nat, ∃ f, FO G (10 + m) "_law_count" 3 f ∧ SpCount f m
  | 0 => ⟨_, fo_zero h.h__law_count rfl, fun x hx => absurd (ex_pos x) (by omega)⟩
  | m + 1 => by
    obtain ⟨g, F, p⟩ := fo__law_count B h m
    obtain ⟨g0, F0, p0⟩ := fo__law_known B h m
    obtain ⟨g1, F1, p1⟩ := fo__law_many B h
    exact ⟨_, fo_has (k := 10 + m) h.h__law_count sc__law_count (s__law_count F0 (by omega) F (by omega) F1 (by omega)), count_ok p p0 p1⟩
theorem fo__law_condition (B : Tp G) (h : Df G) : ∀ m : Nat, ∃ f, FO G (5 + m) "_law_condition" 2 f ∧ SpCond f m
  | 0 => ⟨_, fo_zero h.h__law_condition rfl, fun k hk => absurd hk (by omega)⟩
  | m + 1 => by
    obtain ⟨g, F, p⟩ := fo__law_condition B h m
    obtain ⟨g1, F1, p1⟩ := fo__law_pick B h
    exact ⟨_, fo_has (k := 5 + m) h.h__law_condition sc__law_condition (s__law_condition B (fo_taken h.h__law_taken B) (by omega) F1 (by omega) F (by omega)), cond_ok taken p1 p⟩
theorem fo__law_expression (B : Tp G) (h : Df G) : ∀ m : Nat, ∃ f, FO G (8 + m) "_law_expression" 2 f ∧ SpLawEx f m
  | 0 => ⟨_, fo_zero h.h__law_expression rfl, fun k k1 km => absurd km (by omega)⟩
  | m + 1 => by
    obtain ⟨g, F, p⟩ := fo__law_expression B h m
    obtain ⟨g1, F1, p1⟩ := fo__law_condition B h 2
    obtain ⟨g2, F2, p2⟩ := fo__law_pick B h
    exact ⟨_, fo_has (k := 8 + m) h.h__law_expression sc__law_expression (s__law_expression (fo_taken h.h__law_taken B) (by omega) F1 (by omega) F2 (by omega) F (by omega)), law_ex taken p1 p2 p⟩
theorem fo__law_tuples (B : Tp G) (h : Df G) : ∀ m : Nat, ∃ f, FO G (3 + m) "_law_tuples" 1 f ∧ SpTuples f m
  | 0 => ⟨_, fo_zero h.h__law_tuples rfl, ⟨fun x hx => absurd (cnd_pos x) (by omega), fun x hx => absurd (ex_pos x) (by omega)⟩⟩
  | m + 1 => by
    obtain ⟨g, F, p⟩ := fo__law_tuples B h m
    exact ⟨_, fo_has (k := 3 + m) h.h__law_tuples sc__law_tuples (s__law_tuples B F (by omega)), tuples_step p⟩
theorem fo__law_leaves (B : Tp G) (h : Df G) : ∀ m : Nat, ∃ f, FO G (3 + m) "_law_leaves" 1 f ∧ SpLeaves f m
  | 0 => ⟨_, fo_zero h.h__law_leaves rfl, fun x hx => absurd (ex_pos x) (by omega)⟩
  | m + 1 => by
    obtain ⟨g, F, p⟩ := fo__law_leaves B h m
    exact ⟨_, fo_has (k := 3 + m) h.h__law_leaves sc__law_leaves (s__law_leaves F (by omega)), leaves_step p⟩
theorem fo__law_tree (B : Tp G) (h : Df G) : ∃ f, FO G 40 "_law_tree" 2 f ∧ SpTree f := by
  obtain ⟨g0, F0, p0⟩ := fo__law_expression B h 4
  obtain ⟨g1, F1, p1⟩ := fo__law_tuples B h 35
  exact ⟨_, fo_has (k := 39) h.h__law_tree sc__law_tree (s__law_tree F0 (by omega) F1 (by omega)), tree_ok p0 p1⟩
theorem fo__law_twins (B : Tp G) (h : Df G) : ∃ f, FO G 41 "_law_twins" 1 f ∧ SpTwins f := by
  obtain ⟨g0, F0, p0⟩ := fo__law_tree B h
  obtain ⟨g1, F1, p1⟩ := fo__law_pick B h
  exact ⟨_, fo_has (k := 40) h.h__law_twins sc__law_twins (s__law_twins F0 (by omega) F1 (by omega)), twins_ok p0 p1⟩
end
end K01
namespace K01
open PySem PySem.Spec PyProof.Rows L2 DL LW LamX
def spLaw (K : PySem.W.Frag) : Sp := fun vs H Q _ => ∃ (a : Addr) (ns : List Int), vs = [.ref a] ∧ SqL K H a (ns.map V.int) ∧ ∀ H', Q (.bl true) H'
def ev0 : Ev := [.hid, .row, .hid, .hid, .hid, .hid, .hid, .hid, .hid, .hid, .hid, .hid, .hid, .hid, .hid, .hid, .hid]
theorem ev0_own (i : Nat) (ds : List D) (e : ev0[i]? = some (DL.Slot.own ds)) : False := by
  have h : (DL.Slot.own ds) ∈ ev0 := List.mem_of_getElem? e
  simp [ev0] at h
abbrev sxL : Sx := ⟨defScope st_law, fun _ => true⟩
theorem ok_law {G : Gm} {fa : Addr} {oc : Value} {od : Option Addr} {kV doc pm ct cdv : Value} {an : Option Addr} {osl : Array (Option Value)} (B : Tp G) (h : Df G)
    (lk : G.K.lookup fa = some ⟨oc, od, .func (PySem.W.fnOf "law" "law" (defArgs st_law) (defBody st_law) (defScope st_law) .none kV doc pm an cdv ct), osl⟩) (hcd : PySem.W.codeIn G.K cdv "law" = true) :
    FnOk G.P G.w G.K G.mg G.base (L2.CX G.P G.w) 43 fa (PySem.W.fnOf "law" "law" (defArgs st_law) (defBody st_law) (defScope st_law) .none kV doc pm an cdv ct) ["script"] (spLaw G.K) := by
  obtain ⟨fw, FW, pW⟩ := fo__law_twins B h
  obtain ⟨fs, FS, pS⟩ := fo__law_semantics B h
  obtain ⟨fl, FL, pL⟩ := fo__law_leaves B h 30
  obtain ⟨fc, FC, pC⟩ := fo__law_count B h 30
  obtain ⟨fal, FA, pA⟩ := fo_alike1 B h
  obtain ⟨fd, FD, pD⟩ := fo_least_difference B h
  obtain ⟨fp, FP, pP⟩ := fo__law_pick B h
  obtain ⟨fca, FCA, pCA⟩ := fo_count_at B h
  refine fn_of lk hcd sc_law (fun vs H Q E q => ?_) (fun A outer s H vs Q E hr hsp => ?_)
  · obtain ⟨a, ns, rfl, _⟩ := q
    rfl
  have g : Gd G 42 sxL N_law (cxOf (L2.CX G.P G.w) G.P G.w G.K G.mg G.base N_law "law" (defScope st_law) fa cdv A outer s H E) := ⟨rfl, sc_law.nd, rfl, fun _ _ => rfl, rfl, hr, rfl, rfl, rfl, rfl, rfl⟩
  obtain ⟨a, ns, rfl, hS, q⟩ := hsp
  have tk : Takes (cxOf (L2.CX G.P G.w) G.P G.w G.K G.mg G.base N_law "law" (defScope st_law) fa cdv A outer s H E) (fun cls d _ H => E cls d H) := takes_of rfl rfl rfl rfl
  refine ⟨_, pss_cons (ps_set (i := 1) sc_law.nd rfl (.inl rfl) (pe_lst (pa_cons (pv 0) (pa_cons pe_int (pa_cons pe_int (pa_cons pe_int pa_nil))))))
    (s_rest B FW (by omega) FS (by omega) FL (by omega) FC (by omega) FA (by omega) FD (by omega) FP (by omega) (fo_taken h.h__law_taken B) (by omega) FCA (by omega) _ _ g tk (passes_of rfl)), ?_⟩
  refine ⟨_, rfl, by show 4 ≤ sizeLine; exact size_ok 4, fun p hp => ?_⟩
  have sm : Same H (upd H p (.lst [.ref a, .int 0, .int 15321, .int 0])) := same_upd hp
  generalize hH1 : upd H p (.lst [.ref a, .int 0, .int 15321, .int 0]) = H1 at sm
  have hrow : H1 p = some (.lst [.ref a, .int 0, .int 15321, .int 0]) := by rw [← hH1]; exact upd_same
  have R : RelS G.K (fun b => b = p) ⟨p, a, ns⟩ (fun b o => H1 b = some o ∧ b ≠ p) ((L2.start N_law [.ref a]).set 1 (some (.ref p))) H1 ev0 ⟨ns, 0, 15321, 0⟩ fun _ => 0 := by
    have av : ∀ b, Av (fun b => b = p) ev0 (fun _ => 0) b → b = p := fun b m => m.elim id fun ⟨i, ⟨ds, e⟩, _⟩ => (ev0_own i ds e).elim
    refine ⟨⟨.inl rfl, fun b m => ⟨[.ref a, .int 0, .int 15321, .int 0], by rw [av b m]; exact hrow⟩, ⟨⟨hrow, rfl⟩, ?_⟩, fun i s e => ?_, by show 17 ≤ 17; exact Nat.le_refl 17⟩, rfl, fun b o q => q.1, fun o q => q.2 rfl, fun b m n => absurd m n, fun i ds e => (ev0_own i ds e).elim, fun i j ⟨ds, e⟩ => (ev0_own i ds e).elim⟩
    · rcases hS with hS | hS
      · refine .inl ⟨?_, fun m => ?_⟩
        · rcases hS with z | ⟨o, z⟩
          · exact .inl (sm _ _ z)
          · exact .inr ⟨o, sm _ _ z⟩
        · have e := av _ m
          rcases hS with z | ⟨o, z⟩
          · exact absurd e (ne_of_none z hp)
          · exact absurd e (ne_of_none z hp)
      · exact .inr hS
    · match i, e with
      | 0, e => cases e; trivial
      | 1, e => cases e; exact rfl
      | 2, e => cases e; trivial
      | 3, e => cases e; trivial
      | 4, e => cases e; trivial
      | 5, e => cases e; trivial
      | 6, e => cases e; trivial
      | 7, e => cases e; trivial
      | 8, e => cases e; trivial
      | 9, e => cases e; trivial
      | 10, e => cases e; trivial
      | 11, e => cases e; trivial
      | 12, e => cases e; trivial
      | 13, e => cases e; trivial
      | 14, e => cases e; trivial
      | 15, e => cases e; trivial
      | 16, e => cases e; trivial
      | i + 17, e => simp [ev0] at e
  obtain ⟨rs1, e1⟩ := rest_ok pW pS pL pC pA pD pP taken pCA ⟨ns, 0, 15321, 0⟩
  exact ⟨_, _, _, _, _, _, R, _, _, e1, fun v H2 pk w2 dv => by cases dv; exact q H2⟩
theorem law_mk {l : PySem.W.OpenLaw} {w : World} {K : PySem.W.Frag} {h : Heap} {mg : Str → Option Value} {f : Addr} {oc : Value} {od : Option Addr} {kV doc pm cdv ct : Value} {an : Option Addr} {osl : Array (Option Value)}
    (tp : ∀ base, Tp ⟨l.prog, w, K, mg, base⟩) (df : ∀ base, Df ⟨l.prog, w, K, mg, base⟩)
    (lk : K.lookup f = some ⟨oc, od, .func (PySem.W.fnOf "law" "law" (defArgs st_law) (defBody st_law) (defScope st_law) .none kV doc pm an cdv ct), osl⟩) (cd : PySem.W.codeIn K cdv "law" = true) : LawAtS l w K (L2.CX l.prog w) 43 63 "script" mg f h := by
  refine ⟨PySem.W.fnOf "law" "law" (defArgs st_law) (defBody st_law) (defScope st_law) .none kV doc pm an cdv ct, [], spLaw K, fun q hq => (nomatch hq), fun q hq => (nomatch hq), fun q hq => (nomatch hq), fun s v => .of_eq rfl, fun H a ns _ _ _ hS => ?_, fun base _ _ _ => ?_⟩
  · exact ⟨a, ns, rfl, hS, fun _ => rfl⟩
  · exact ok_law (G := ⟨l.prog, w, K, mg, base⟩) (tp base) (df base) lk cd
theorem cx_end {l : PySem.W.OpenLaw} (w : World) (H : Hp) (s : Shared) (e : Value) (s' : Shared) (h : L2.CX l.prog w [] H s (fun _ _ _ => False) e s') : False := by
  obtain ⟨_, _, _, _, _, _, _, _, _, _, _, _, z⟩ := h
  exact z
end K01
set_option maxHeartbeats 0
noncomputable section
namespace K01
open PySem PySem.W PySem.Calls PyProof.Rows HandSHeadRun HM DL
open L2 (defArgs defBody defScope)
abbrev RW : OpenRow := OpenLaw.row PySem.Challenge.rw_queryheld_k01_whole_least_differences
def fstS : Stmt := RW.prog.main.body.getD 15 (.Pass ⟨0, 0, 0, 0⟩)
def keysOf : Stmt → List (Option PySem.Expr)
  | .Assign _ (.Dict ks _ _) _ => ks
  | _ => []
def valsOf : Stmt → List PySem.Expr
  | .Assign _ (.Dict _ vs _) _ => vs
  | _ => []
def tgOf : Stmt → PySem.Expr
  | .Assign [t] _ _ => t
  | _ => .Constant .none 0 ⟨0, 0, 0, 0⟩
def posOf : Stmt → Pos
  | .Assign _ _ p => p
  | _ => ⟨0, 0, 0, 0⟩
def pos2Of : Stmt → Pos
  | .Assign _ (.Dict _ _ p) _ => p
  | _ => ⟨0, 0, 0, 0⟩
def l1 : List Stmt := RW.prog.main.body.take 15
def l2 : List Stmt := RW.prog.main.body.drop 16
def lse0 : List Str := ["QueryError", "BadSemantics", "BadExpression", "BadCase", "WORDS", "DUPLICATES", "UNION", "DIFFERENCE", "NULLS", "is_semantics", "check_semantics", "is_integer_to", "FORMS", "GREATEST", "tuples_of", "_has_form", "_fits", "_inner_tuples", "CONNECTIVES", "connected", "_negation", "_conjunction", "_disjunction", "combined_count", "_count_with_repeats"]
def lse1 : List Str := ["MOST_LEAVES", "MOST_TUPLES", "GREATEST_COUNT", "CASE_LENGTH", "is_expression", "_leaves_among", "_check_expressions", "count_at", "_is_case", "_is_truth", "_count_of", "_condition_truth", "least_difference", "_greatest_needed", "_cases", "_law_taken", "_law_pick", "_law_alike", "_law_semantics", "_law_join", "_law_many", "_law_condition", "_law_expression", "_law_leaves", "_law_known"]
def lse2 : List Str := ["_law_count", "_law_twins", "_law_tuples", "_law_tree"]
def lse : List Str := lse0 ++ (lse1 ++ (lse2))
def fcs0 : List Fc := [.no "all", .no "bool", .no "enumerate", .no "int", .no "isinstance", .no "len", .no "list", .no "max", .no "min", .no "range", .no "str", .no "sum", .no "tuple", .no "zip", .con "CASE_LENGTH" c_CASE_LENGTH, .con "CONNECTIVES" c_CONNECTIVES, .con "DIFFERENCE" c_DIFFERENCE, .con "DUPLICATES" c_DUPLICATES, .con "GREATEST_COUNT" c_GREATEST_COUNT, .con "MOST_LEAVES" c_MOST_LEAVES, .con "MOST_TUPLES" c_MOST_TUPLES, .con "NULLS" c_NULLS, .con "UNION" c_UNION, .con "WORDS" c_WORDS, .ex "BadCase"]
def fcs1 : List Fc := [.ex "BadSemantics", .fn "is_semantics", .fn "check_semantics", .fn "is_integer_to", .fn "tuples_of", .fn "_has_form", .fn "_fits", .fn "_inner_tuples", .fn "connected", .fn "_negation", .fn "_conjunction", .fn "_disjunction", .fn "combined_count", .fn "_count_with_repeats", .fn "is_expression", .fn "_leaves_among", .fn "_check_expressions", .fn "count_at", .fn "_is_case", .fn "_is_truth", .fn "_count_of", .fn "_condition_truth", .fn "least_difference", .fn "_greatest_needed", .fn "_cases"]
def fcs2 : List Fc := [.fn "_law_taken", .fn "_law_pick", .fn "_law_alike", .fn "_law_semantics", .fn "_law_join", .fn "_law_many", .fn "_law_condition", .fn "_law_expression", .fn "_law_leaves", .fn "_law_known", .fn "_law_count", .fn "_law_twins", .fn "_law_tuples", .fn "_law_tree", .fn "law"]
def fcs : List Fc := fcs0 ++ (fcs1 ++ (fcs2))
def fds0 : List He.FnD := [fnd "is_semantics" st_is_semantics, fnd "check_semantics" st_check_semantics, fnd "is_integer_to" st_is_integer_to, fnd "tuples_of" st_tuples_of, fnd "_has_form" st__has_form, fnd "_fits" st__fits, fnd "_inner_tuples" st__inner_tuples, fnd "connected" st_connected, fnd "_negation" st__negation, fnd "_conjunction" st__conjunction, fnd "_disjunction" st__disjunction, fnd "combined_count" st_combined_count, fnd "_count_with_repeats" st__count_with_repeats, fnd "is_expression" st_is_expression, fnd "_leaves_among" st__leaves_among, fnd "_check_expressions" st__check_expressions, fnd "count_at" st_count_at, fnd "_is_case" st__is_case, fnd "_is_truth" st__is_truth, fnd "_count_of" st__count_of, fnd "_condition_truth" st__condition_truth, fnd "least_difference" st_least_difference, fnd "_greatest_needed" st__greatest_needed, fnd "_cases" st__cases, fnd "_law_taken" st__law_taken]
def fds1 : List He.FnD := [fnd "_law_pick" st__law_pick, fnd "_law_alike" st__law_alike, fnd "_law_semantics" st__law_semantics, fnd "_law_join" st__law_join, fnd "_law_many" st__law_many, fnd "_law_condition" st__law_condition, fnd "_law_expression" st__law_expression, fnd "_law_leaves" st__law_leaves, fnd "_law_known" st__law_known, fnd "_law_count" st__law_count, fnd "_law_twins" st__law_twins, fnd "_law_tuples" st__law_tuples, fnd "_law_tree" st__law_tree, fnd "law" st_law]
def fds : List He.FnD := fds0 ++ (fds1)
def sp1 : Spec1 := ⟨fcs, fds, [("GREATEST", k_GREATEST)], [("FORMS", t_FORMS)]⟩
def qv : Program := view RW.prog [61]
abbrev Rn (w : World) : Prop := Runs1 RW qv lse sp1 11 6000 l1 l2 (tgOf fstS) (keysOf fstS) (valsOf fstS) (pos2Of fstS) w
theorem size_w (w : World) : (boot_heap w.params).objs.size = 11 := by kernel_rfl
theorem main_f (w : World) : MainP RW qv lse sp1 11 6000 l1 l2 (tgOf fstS) (keysOf fstS) (valsOf fstS) (pos2Of fstS) (w.withFollow "special-get-raises" false) := by intro os pX; kernel_rfl
theorem main_t (w : World) : MainP RW qv lse sp1 11 6000 l1 l2 (tgOf fstS) (keysOf fstS) (valsOf fstS) (pos2Of fstS) (w.withFollow "special-get-raises" true) := by intro os pX; kernel_rfl
theorem dict_f (w : World) : DictP RW 6000 l1 l2 (tgOf fstS) (keysOf fstS) (valsOf fstS) (pos2Of fstS) (w.withFollow "special-get-raises" false) := by intro os pX; kernel_rfl
theorem dict_t (w : World) : DictP RW 6000 l1 l2 (tgOf fstS) (keysOf fstS) (valsOf fstS) (pos2Of fstS) (w.withFollow "special-get-raises" true) := by intro os pX; kernel_rfl
theorem runs (w : World) : Rn w := byRow2 "special-get-raises" (P := Rn) (fun w => runs_of (size_w _) (main_f w) (dict_f w)) (fun w => runs_of (size_w _) (main_t w) (dict_t w)) w
section
variable {P : Program} {w : World} {K : PySem.W.Frag} {h base : Heap} {mg : Str → Option Value}
theorem nd_FORMS : (t_FORMS.map (·.1)).Nodup := by decide +kernel
theorem tp_all (X : K.In h) (Gn : h.Ns mainGlobals mg) (c : obsK sp1 K = valK sp1 P w) : Tp ⟨P, w, K, mg, base⟩ where
  b_all := f_no X Gn (fact c 0)
  b_bool := f_no X Gn (fact c 1)
  b_enumerate := f_no X Gn (fact c 2)
  b_int := f_no X Gn (fact c 3)
  b_isinstance := f_no X Gn (fact c 4)
  b_len := f_no X Gn (fact c 5)
  b_list := f_no X Gn (fact c 6)
  b_max := f_no X Gn (fact c 7)
  b_min := f_no X Gn (fact c 8)
  b_range := f_no X Gn (fact c 9)
  b_str := f_no X Gn (fact c 10)
  b_sum := f_no X Gn (fact c 11)
  b_tuple := f_no X Gn (fact c 12)
  b_zip := f_no X Gn (fact c 13)
  c_CASE_LENGTH := f_con X Gn (fact c 14)
  c_CONNECTIVES := f_con X Gn (fact c 15)
  c_DIFFERENCE := f_con X Gn (fact c 16)
  c_DUPLICATES := f_con X Gn (fact c 17)
  c_GREATEST_COUNT := f_con X Gn (fact c 18)
  c_MOST_LEAVES := f_con X Gn (fact c 19)
  c_MOST_TUPLES := f_con X Gn (fact c 20)
  c_NULLS := f_con X Gn (fact c 21)
  c_UNION := f_con X Gn (fact c 22)
  c_WORDS := f_con X Gn (fact c 23)
  k_GREATEST := f_td X Gn c 0 rfl
  t_FORMS := f_tt X Gn c 0 rfl nd_FORMS
  x_BadCase := f_ex X Gn (fact c 24)
  x_BadSemantics := f_ex X Gn (fact c 25)
theorem df_all (X : K.In h) (Gn : h.Ns mainGlobals mg) (c : obsK sp1 K = valK sp1 P w) : Df ⟨P, w, K, mg, base⟩ where
  h_is_semantics := f_has X Gn c 0 26 rfl rfl fun _ _ _ _ _ _ us hl => match us, hl with | [_], _ => rfl
  h_check_semantics := f_has X Gn c 1 27 rfl rfl fun _ _ _ _ _ _ us hl => match us, hl with | [_], _ => rfl
  h_is_integer_to := f_has X Gn c 2 28 rfl rfl fun _ _ _ _ _ _ us hl => match us, hl with | [_, _], _ => rfl
  h_tuples_of := f_has X Gn c 3 29 rfl rfl fun _ _ _ _ _ _ us hl => match us, hl with | [_, _, _], _ => rfl
  h__has_form := f_has X Gn c 4 30 rfl rfl fun _ _ _ _ _ _ us hl => match us, hl with | [_, _], _ => rfl
  h__fits := f_has X Gn c 5 31 rfl rfl fun _ _ _ _ _ _ us hl => match us, hl with | [_, _], _ => rfl
  h__inner_tuples := f_has X Gn c 6 32 rfl rfl fun _ _ _ _ _ _ us hl => match us, hl with | [_, _], _ => rfl
  h_connected := f_has X Gn c 7 33 rfl rfl fun _ _ _ _ _ _ us hl => match us, hl with | [_, _], _ => rfl
  h__negation := f_has X Gn c 8 34 rfl rfl fun _ _ _ _ _ _ us hl => match us, hl with | [_], _ => rfl
  h__conjunction := f_has X Gn c 9 35 rfl rfl fun _ _ _ _ _ _ us hl => match us, hl with | [_, _], _ => rfl
  h__disjunction := f_has X Gn c 10 36 rfl rfl fun _ _ _ _ _ _ us hl => match us, hl with | [_, _], _ => rfl
  h_combined_count := f_has X Gn c 11 37 rfl rfl fun _ _ _ _ _ _ us hl => match us, hl with | [_, _, _, _], _ => rfl
  h__count_with_repeats := f_has X Gn c 12 38 rfl rfl fun _ _ _ _ _ _ us hl => match us, hl with | [_, _, _, _], _ => rfl
  h_is_expression := f_has X Gn c 13 39 rfl rfl fun _ _ _ _ _ _ us hl => match us, hl with | [_], _ => rfl
  h__leaves_among := f_has X Gn c 14 40 rfl rfl fun _ _ _ _ _ _ us hl => match us, hl with | [_], _ => rfl
  h__check_expressions := f_has X Gn c 15 41 rfl rfl fun _ _ _ _ _ _ us hl => match us, hl with | [_], _ => rfl
  h_count_at := f_has X Gn c 16 42 rfl rfl fun _ _ _ _ _ _ us hl => match us, hl with | [_, _, _], _ => rfl
  h__is_case := f_has X Gn c 17 43 rfl rfl fun _ _ _ _ _ _ us hl => match us, hl with | [_, _], _ => rfl
  h__is_truth := f_has X Gn c 18 44 rfl rfl fun _ _ _ _ _ _ us hl => match us, hl with | [_, _], _ => rfl
  h__count_of := f_has X Gn c 19 45 rfl rfl fun _ _ _ _ _ _ us hl => match us, hl with | [_, _, _], _ => rfl
  h__condition_truth := f_has X Gn c 20 46 rfl rfl fun _ _ _ _ _ _ us hl => match us, hl with | [_, _], _ => rfl
  h_least_difference := f_has X Gn c 21 47 rfl rfl fun _ _ _ _ _ _ us hl => match us, hl with | [_, _, _], _ => rfl
  h__greatest_needed := f_has X Gn c 22 48 rfl rfl fun _ _ _ _ _ _ us hl => match us, hl with | [_, _, _], _ => rfl
  h__cases := f_has X Gn c 23 49 rfl rfl fun _ _ _ _ _ _ us hl => match us, hl with | [_, _], _ => rfl
  h__law_taken := f_has X Gn c 24 50 rfl rfl fun _ _ _ _ _ _ us hl => match us, hl with | [_, _], _ => rfl
  h__law_pick := f_has X Gn c 25 51 rfl rfl fun _ _ _ _ _ _ us hl => match us, hl with | [_, _], _ => rfl
  h__law_alike := f_has X Gn c 26 52 rfl rfl fun _ _ _ _ _ _ us hl => match us, hl with | [_, _], _ => rfl
  h__law_semantics := f_has X Gn c 27 53 rfl rfl fun _ _ _ _ _ _ us hl => match us, hl with | [_], _ => rfl
  h__law_join := f_has X Gn c 28 54 rfl rfl fun _ _ _ _ _ _ us hl => match us, hl with | [_, _, _], _ => rfl
  h__law_many := f_has X Gn c 29 55 rfl rfl fun _ _ _ _ _ _ us hl => match us, hl with | [_, _, _, _], _ => rfl
  h__law_condition := f_has X Gn c 30 56 rfl rfl fun _ _ _ _ _ _ us hl => match us, hl with | [_, _], _ => rfl
  h__law_expression := f_has X Gn c 31 57 rfl rfl fun _ _ _ _ _ _ us hl => match us, hl with | [_, _], _ => rfl
  h__law_leaves := f_has X Gn c 32 58 rfl rfl fun _ _ _ _ _ _ us hl => match us, hl with | [_], _ => rfl
  h__law_known := f_has X Gn c 33 59 rfl rfl fun _ _ _ _ _ _ us hl => match us, hl with | [_, _, _], _ => rfl
  h__law_count := f_has X Gn c 34 60 rfl rfl fun _ _ _ _ _ _ us hl => match us, hl with | [_, _, _], _ => rfl
  h__law_twins := f_has X Gn c 35 61 rfl rfl fun _ _ _ _ _ _ us hl => match us, hl with | [_], _ => rfl
  h__law_tuples := f_has X Gn c 36 62 rfl rfl fun _ _ _ _ _ _ us hl => match us, hl with | [_], _ => rfl
  h__law_tree := f_has X Gn c 37 63 rfl rfl fun _ _ _ _ _ _ us hl => match us, hl with | [_, _], _ => rfl
end
abbrev dLaw : DefRec := topDef RW.prog 61
theorem e_pb : behindTheImports RW.prog = l1 ++ .Assign [tgOf fstS] (.Dict (keysOf fstS) (valsOf fstS) (pos2Of fstS)) (posOf fstS) :: l2 := by kernel_rfl
theorem e_pk : (keysOf fstS).all (fun k => match k with
      | some k => isTup k
      | none => false) = true := by kernel_rfl
theorem e_pl : (keysOf fstS).length = 17 := by kernel_rfl
theorem e_pv : (keysOf fstS).length = (valsOf fstS).length := by kernel_rfl
theorem e_ps (env : Env) : swapsWithSole [tgOf fstS] (.Dict (keysOf fstS) (valsOf fstS) (pos2Of fstS)) (posOf fstS).line env = pure false := by rfl
theorem e_o1 : opening RW.prog = plainProg RW.prog.main.scope.names := by kernel_rfl
theorem e_o2 (s : Shared) : fenceModules? RW.prog s = some s := by kernel_rfl
theorem e_o3 : chainsOk qv = true := by kernel_rfl
theorem e_h1 : defOf qv RW.name = some (dLaw, []) := by kernel_rfl
theorem e_h2 : RW.prog.theDef RW.name = some (dLaw.params, dLaw.body, dLaw.scope) := by kernel_rfl
theorem e_h3 : kwWritten? dLaw.params.kwonlyargs dLaw.params.kw_defaults = some [] := by rfl
theorem e_h6 : (chainsOk qv && opensWell RW.prog && (frees RW.toRowW && RW.within.isEmpty)) = true := by decide +kernel
theorem e_h7 : RW.prog.bare := ⟨rfl, rfl, rfl, rfl, rfl, by decide +kernel⟩
theorem e_nm : dLaw.name = ("law" : PySem.Str) := by kernel_rfl
theorem e_df : dLaw.params.defaults = [] := by kernel_rfl
theorem e_call : WalkO qv lse (XL qv []) (hookK sp1 RW.prog 11).says RW.toRowW dLaw [] fun f vs => PySem.call f vs := by
  refine LamX.walk_ofTsE (l := PySem.Challenge.rw_queryheld_k01_whole_least_differences) (n := 63) (k := 43) (x := "script") (CX := fun w => L2.CX (PySem.Challenge.rw_queryheld_k01_whole_least_differences).prog w) rfl (by decide) e_df ⟨rfl, by decide, by decide⟩ ?F cx_end
  intro w mg fa h Y G hmg0
  obtain ⟨K, KX, c⟩ := Y
  refine ⟨K, KX, ?_⟩
  have hmg : mg ("law" : PySem.Str) = some (.ref fa) := by
    rw [← e_nm]
    exact hmg0
  obtain ⟨oc, od, osl, kV, doc, pm, an, cdv, ct, h1, h2, h3, h4⟩ := f_fun (st := st_law) KX G c 38 64 rfl rfl
  have e2 := hmg.symm.trans h1
  cases e2
  exact law_mk (fun base => tp_all KX G c) (fun base => df_all KX G c) h2 h3
end K01
end
open PySem PySem.W PySem.Calls PyProof.Rows
theorem PySem.Challenge.cw_queryheld_k01_whole_least_differences_holds : PySem.Challenge.rw_queryheld_k01_whole_least_differences.Holds := by
  w_on; o_law
  refine HM.holds_behind (fun w => HM.behind_run (pos := K01.posOf K01.fstS) (K01.runs w) (HM.parts_ok K01.e_pb K01.e_pk K01.e_pl K01.e_pv K01.e_ps) K01.e_o1 K01.e_o2 K01.e_o3) K01.e_h1 K01.e_h2 K01.e_h3 ?h4 ?h5 K01.e_h6 K01.e_h7 ?hw K01.e_call
  case h4 => decide +kernel
  case h5 => decide +kernel
  case hw => w_witness2
