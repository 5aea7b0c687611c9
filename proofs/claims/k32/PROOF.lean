import PyProof.Rows.All
import Wide.All
import OpenK.AllK
import Wide.FinOn
import Lean
import PyProof.EqAt
import PyProof.EqKinds
import PyProof.TupleCall
import PyProof.WalksEnum
import PyProof.EnumMake
import PyProof.Rows.EnumRows
import PyProof.NeData
import PyProof.ReprRoads
import PyProof.SumWalkG
import PyProof.StrLawsTight
import PyProof.Rows.StrNews
import PyProof.Rows.StrJoin2
import PyProof.Rows.CatFin
import PyProof.ConsumeWalk
import PyProof.StrWalks
import KE.KItemsList
import KE.KSortTup
import PyProof.ZipIter
import PyProof.StrLawsIn
import PySem.Challenge.RW_farshelf_k32_joined
set_option Elab.async false
set_option linter.all false
set_option maxRecDepth 100000
namespace L2
open PySem PySem.Spec PyProof.Rows

noncomputable abbrev Key := Sum Int Str
noncomputable def keyIs : Key → Value → Bool
  | .inl k, v => Value.isInt k v
  | .inr x, v => Value.isStrOf x v
noncomputable def keyH (w : World) : Key → Int
  | .inl k => hashInt k
  | .inr x => hashStr w x
theorem keyIs_shape : ∀ {k : Key} {v : Value}, keyIs k v = true → (∃ i t, k = Sum.inl i ∧ v = Value.int i t) ∨ (∃ x t, k = Sum.inr x ∧ v = Value.str x t)
  | .inl i, v, h => by
    obtain ⟨t, e⟩ := Value.isInt_shape (k := i) (v := v) h
    exact .inl ⟨i, t, rfl, e⟩
  | .inr x, v, h => by
    obtain ⟨t, e⟩ := Value.isStrOf_shape (x := x) (v := v) h
    exact .inr ⟨x, t, rfl, e⟩
theorem keyIs_int (i : Int) (t : Tok) : keyIs (.inl i) (.int i t) = true := by simp [keyIs, Value.isInt]
theorem keyIs_str (x : Str) (t : Tok) : keyIs (.inr x) (.str x t) = true := by simp [keyIs, Value.isStrOf]
theorem key_ll (a b : Int) : decide ((Sum.inl a : Key) = Sum.inl b) = (a == b) := by
  by_cases e : a = b
  · subst e; simp
  · have h : ¬ (Sum.inl a : Key) = Sum.inl b := fun q => e (Sum.inl.inj q)
    rw [decide_eq_false h]
    exact (beq_eq_false_iff_ne.mpr e).symm
theorem key_rr (a b : Str) : decide ((Sum.inr a : Key) = Sum.inr b) = decide (a = b) := by
  by_cases e : a = b
  · subst e; simp
  · have h : ¬ (Sum.inr a : Key) = Sum.inr b := fun q => e (Sum.inr.inj q)
    rw [decide_eq_false h, decide_eq_false e]
theorem key_lr (a : Int) (b : Str) : decide ((Sum.inl a : Key) = Sum.inr b) = false := decide_eq_false (fun q => nomatch q)
theorem key_rl (a : Str) (b : Int) : decide ((Sum.inr a : Key) = Sum.inl b) = false := decide_eq_false (fun q => nomatch q)

noncomputable def mixKind (prog : Program) (w : World) : PySem.KeyKind prog w Key where
  is := keyIs
  hash := keyH w
  inj := fun v a b ha hb => by
    rcases keyIs_shape ha with ⟨i, t, rfl, rfl⟩ | ⟨x, t, rfl, rfl⟩
    · rcases keyIs_shape hb with ⟨j, u, rfl, e⟩ | ⟨y, u, rfl, e⟩
      · injection e with e1 _; rw [e1]
      · exact nomatch e
    · rcases keyIs_shape hb with ⟨j, u, rfl, e⟩ | ⟨y, u, rfl, e⟩
      · exact nomatch e
      · injection e with e1 _; rw [e1]
  byValue := fun k v h => by
    rcases keyIs_shape h with ⟨i, t, rfl, rfl⟩ | ⟨x, t, rfl, rfl⟩ <;> rfl
  pyHash := fun hv h => by
    rcases keyIs_shape hv with ⟨i, t, rfl, rfl⟩ | ⟨x, t, rfl, rfl⟩
    · exact wpAny_pyHash_int h
    · exact wpAny_pyHash_str h
  eqBool := fun hu hv h => by
    rcases keyIs_shape hu with ⟨i, t, rfl, rfl⟩ | ⟨x, t, rfl, rfl⟩
    · rcases keyIs_shape hv with ⟨j, u, rfl, rfl⟩ | ⟨y, u, rfl, rfl⟩
      · rw [key_ll] at h; exact wpAny_eqBool_int h
      · rw [key_lr] at h; exact SeqAt.EqAt.int_str i t y u _ _ _ _ h
    · rcases keyIs_shape hv with ⟨j, u, rfl, rfl⟩ | ⟨y, u, rfl, rfl⟩
      · rw [key_rl] at h; exact SeqAt.EqAt.str_int x t j u _ _ _ _ h
      · rw [key_rr] at h; exact wpAny_eqBool_str h
  «strs» := fun k x t v h => by
    rcases keyIs_shape h with ⟨i, u, rfl, e⟩ | ⟨y, u, rfl, e⟩
    · exact nomatch e
    · injection e with e1 _
      subst e1
      cases v <;> rfl

theorem mixKind_int (prog : Program) (w : World) (i : Int) (t : Tok) : (mixKind prog w).is (.inl i) (.int i t) = true := keyIs_int i t
theorem mixKind_str (prog : Program) (w : World) (x : Str) (t : Tok) : (mixKind prog w).is (.inr x) (.str x t) = true := keyIs_str x t
end L2

namespace L2
open PySem PySem.Spec PyProof.Rows

inductive V where
  | non | bl (b : Bool) | int (i : Int) | str (x : Str) | byt (b : Array UInt8) | flt (b : UInt64) | ref (a : Addr) | ty (n : String)
  deriving DecidableEq

noncomputable def RelV : V → Value → Prop
  | .non, u => u = Value.none
  | .bl b, u => u = Value.bool b
  | .int i, u => ∃ t, u = Value.int i t
  | .str x, u => ∃ t, u = Value.str x t
  | .byt b, u => ∃ t, u = Value.bytes b t
  | .flt b, u => ∃ t, u = Value.float b t
  | .ref a, u => u = Value.ref a
  | .ty n, u => u = Value.type n

noncomputable abbrev Vals : List V → List Value → Prop := Paired RelV
theorem Vals.length {xs : List V} {us : List Value} (r : Vals xs us) : xs.length = us.length := Paired.length r
theorem Vals.get : ∀ {xs : List V} {us : List Value} {i : Nat} {x : V}, Vals xs us → xs[i]? = some x → ∃ u, us[i]? = some u ∧ RelV x u
  | _, _, _, _, .nil, e => by simp at e
  | _, _, 0, _, .cons r _, e => by simp at e; subst e; exact ⟨_, rfl, r⟩
  | _, _, i + 1, x, .cons _ t, e => by
    obtain ⟨u, h1, h2⟩ := Vals.get (i := i) (x := x) t (by simpa using e)
    exact ⟨u, by simpa using h1, h2⟩
theorem Vals.set {x : V} {u : Value} (r : RelV x u) : ∀ {xs : List V} {us : List Value} (i : Nat), Vals xs us → Vals (xs.set i x) (us.set i u)
  | _, _, _, .nil => .nil
  | _, _, 0, .cons _ t => .cons r t
  | _, _, i + 1, .cons q t => .cons q (Vals.set r i t)
theorem Vals.append : ∀ {xs ys : List V} {us ws : List Value}, Vals xs us → Vals ys ws → Vals (xs ++ ys) (us ++ ws)
  | _, _, _, _, .nil, s => s
  | _, _, _, _, .cons r t, s => .cons r (Vals.append t s)
theorem Vals.take : ∀ {xs : List V} {us : List Value} (n : Nat), Vals xs us → Vals (xs.take n) (us.take n)
  | _, _, 0, _ => .nil
  | _, _, _ + 1, .nil => .nil
  | _, _, n + 1, .cons r t => .cons r (Vals.take n t)
theorem Vals.drop : ∀ {xs : List V} {us : List Value} (n : Nat), Vals xs us → Vals (xs.drop n) (us.drop n)
  | _, _, 0, r => r
  | _, _, _ + 1, .nil => .nil
  | _, _, n + 1, .cons _ t => Vals.drop n t
noncomputable def RelO : Option V → Option Value → Prop
  | some v, some u => RelV v u
  | none, none => True
  | _, _ => False
noncomputable def KV {κ : Type} : List (κ × V) → List (κ × Value) → Prop := Paired fun (p : κ × V) (q : κ × Value) => p.1 = q.1 ∧ RelV p.2 q.2

noncomputable def kV : Key → V
  | .inl i => .int i
  | .inr x => .str x

inductive HO where
    | lst (xs : List V)
    | tup (xs : List V)
    | dK (kvs : List (Key × V)) | dT (kvs : List (List Key × V))
    | set (S : Int → Bool) (n : Nat)
    | ins (C dx : Addr) (fs : List (Str × V))
    | own (x : Addr)
    | xd (fs : List (Str × V))
    | met (f x : Addr)
    | rng (lo hi : Int)
    | frz (o : Obj) (u : HO)
    | tbl (ps : Array Value)
    | ext (φ : Heap → Prop)

noncomputable abbrev Hp := Addr → Option HO
noncomputable def upd (H : Hp) (a : Addr) (o : HO) : Hp := fun b => if b = a then some o else H b
theorem upd_same {H : Hp} {a : Addr} {o : HO} : upd H a o a = some o := by unfold upd; rw [if_pos rfl]
theorem upd_ne {H : Hp} {a b : Addr} {o : HO} (h : b ≠ a) : upd H a o b = H b := by unfold upd; rw [if_neg h]
theorem ne_of {H : Hp} {a b : Addr} {o u : HO} (h : H a = some o) (h' : H b = some u) (d : o ≠ u) : a ≠ b := by
  intro e; subst e; rw [h] at h'; exact d (Option.some.inj h')
theorem ne_of_none {H : Hp} {a b : Addr} {o : HO} (h : H a = some o) (h' : H b = none) : a ≠ b := by
  intro e; subst e; rw [h] at h'; cases h'

section
variable (P : Program) (w : World)
noncomputable def ObjOk (H : Hp) (h : Heap) (a : Addr) : HO → Prop
  | .lst xs => xs.length ≤ sizeLine ∧ ∃ (its : List Value) (n : Nat), Vals xs its ∧ h.get? a = some { cls := .type "list", data := .seq its.toArray n }
  | .tup xs => xs.length ≤ sizeLine ∧ ∃ its : List Value, Vals xs its ∧ IsTup h a its.toArray
  | .dK kvs => kvs.length ≤ sizeLine ∧ (a == sysModules) = false ∧ ∃ vs, KV kvs vs ∧ h.DictOf (mixKind P w) a vs
  | .dT kvs => kvs.length ≤ sizeLine ∧ (a == sysModules) = false ∧ ∃ xs : List (List Key × Addr × Value),
      Paired (fun (p : List Key × V) (q : List Key × Addr × Value) => p.1 = q.1 ∧ H q.2.1 = some (.tup (p.1.map kV)) ∧ RelV p.2 q.2.2) kvs xs ∧
      ∃ o es ep, h.get? a = some o ∧ o.ExactDict ∧ o.data = .dict es ep ∧ es.toList = xs.map (entryOfKey (tupleKind (mixKind P w))) ∧ (xs.map (·.1)).Nodup
  | .set S n => h.SetOf (intKind P w) a S n
  | .ins C dx fs => H dx = some (.own a) ∧ fs.length ≤ 1000 ∧ dx ≠ a ∧ h.get? a = some (PySem.W.instObj C dx) ∧
      ∃ mA, h.Ns1 dx mA ∧ (∀ f, RelO (fs.lookup f) (mA f)) ∧ PySem.Within mA (fs.map (·.1))
  | .own _ => ∃ o, h.get? a = some o
  | .xd fs => ∃ mA, h.Ns1 a mA ∧ ∀ f, RelO (fs.lookup f) (mA f)
  | .rng lo hi => ∃ t u v, h.get? a = some { cls := .type "range", data := .fields #[.int lo t, .int hi u, .int 1 v] }
  | .frz o u => h.get? a = some o ∧ ObjOk H h a u
  | .tbl ps => h.get? a = some { cls := .none, data := .fields ps }
  | .met f x => h.get? a = some (PySem.W.methodObj (.ref f) (.ref x))
  | .ext φ => φ h ∧ (∃ o, h.get? a = some o) ∧ ∀ h1 h2 : Heap, φ h1 → (∀ o, h1.get? a = some o → h2.get? a = some o) → φ h2
noncomputable def HOk (H : Hp) (h : Heap) : Prop := ∀ a o, H a = some o → ObjOk P w H h a o
end

section
variable {P : Program} {w : World} {H H' : Hp} {h h' : Heap} {a : Addr} {o : HO}
theorem ObjOk.lt (x : ObjOk P w H h a o) : a < h.objs.size := by
  cases o with
  | lst xs => obtain ⟨_, _, _, _, e⟩ := x; exact Heap.lt_size e
  | tup xs => obtain ⟨_, _, _, p⟩ := x; exact p.lt
  | dK kvs => obtain ⟨_, _, _, _, o, _, _, e, _⟩ := x; exact Heap.lt_size e
  | dT kvs => obtain ⟨_, _, _, _, o, _, _, e, _⟩ := x; exact Heap.lt_size e
  | set S n => obtain ⟨o, _, _, _, e, _⟩ := x; exact Heap.lt_size e
  | ins C dx fs => obtain ⟨_, _, _, e, _⟩ := x; exact Heap.lt_size e
  | own y => obtain ⟨_, e⟩ := x; exact Heap.lt_size e
  | xd fs => obtain ⟨_, ⟨_, _, _, e, _⟩, _⟩ := x; exact Heap.lt_size e
  | rng lo hi => obtain ⟨_, _, _, e⟩ := x; exact Heap.lt_size e
  | frz ob u => obtain ⟨e, _⟩ := x; exact Heap.lt_size e
  | tbl ps => exact Heap.lt_size (show h.get? a = some _ from x)
  | met f y => exact Heap.lt_size (show h.get? a = some _ from x)
  | ext φ => obtain ⟨_, ⟨_, e⟩, _⟩ := x; exact Heap.lt_size e
theorem Paired.mapP {α β : Type} {F G : α → β → Prop} : ∀ {l₁ : List α} {l₂ : List β}, Paired F l₁ l₂ → (∀ a b, F a b → G a b) → Paired G l₁ l₂
  | _, _, .nil, _ => .nil
  | _, _, .cons r t, f => .cons (f _ _ r) (Paired.mapP t f)
theorem ObjOk.stay (x : ObjOk P w H h a o) (k : ∀ b u, (b = a ∨ H b = some (.own a)) → h.get? b = some u → h'.get? b = some u)
    (ho : ∀ b, H b = some (.own a) → H' b = some (.own a)) (ht : ∀ b xs, H b = some (.tup xs) → H' b = some (.tup xs)) : ObjOk P w H' h' a o := by
  induction o with
  | lst xs => obtain ⟨z, its, n, r, e⟩ := x; exact ⟨z, its, n, r, k _ _ (.inl rfl) e⟩
  | tup xs => obtain ⟨z, its, r, ob, e, c⟩ := x; exact ⟨z, its, r, ob, k _ _ (.inl rfl) e, c⟩
  | dK kvs => obtain ⟨z, y, vs, r, ob, es, ep, e, c⟩ := x; exact ⟨z, y, vs, r, ob, es, ep, k _ _ (.inl rfl) e, c⟩
  | dT kvs =>
    obtain ⟨z, y, xs, r, ob, es, ep, e, c⟩ := x
    exact ⟨z, y, xs, Paired.mapP r fun p q z => ⟨z.1, ht _ _ z.2.1, z.2.2⟩, ob, es, ep, k _ _ (.inl rfl) e, c⟩
  | set S n => obtain ⟨ob, es, ep, t, e, c⟩ := x; exact ⟨ob, es, ep, t, k _ _ (.inl rfl) e, c⟩
  | ins C dx fs =>
    obtain ⟨d, z, ne, e, mA, ⟨od, es, ep, e2, c⟩, r⟩ := x
    exact ⟨ho _ d, z, ne, k _ _ (.inl rfl) e, mA, ⟨od, es, ep, k _ _ (.inr d) e2, c⟩, r⟩
  | own y => obtain ⟨ob, e⟩ := x; exact ⟨ob, k _ _ (.inl rfl) e⟩
  | xd fs => obtain ⟨mA, ⟨od, es, ep, e, c⟩, r⟩ := x; exact ⟨mA, ⟨od, es, ep, k _ _ (.inl rfl) e, c⟩, r⟩
  | rng lo hi => obtain ⟨t, u, v, e⟩ := x; exact ⟨t, u, v, k _ _ (.inl rfl) e⟩
  | frz ob u ih => obtain ⟨e, q⟩ := x; exact ⟨k _ _ (.inl rfl) e, ih q⟩
  | tbl ps =>
    have e : h.get? a = some { cls := .none, data := .fields ps } := x
    show h'.get? a = some { cls := .none, data := .fields ps }
    exact k a _ (.inl rfl) e
  | met f y =>
    have e : h.get? a = some (PySem.W.methodObj (.ref f) (.ref y)) := x
    show h'.get? a = some (PySem.W.methodObj (.ref f) (.ref y))
    exact k a _ (.inl rfl) e
  | ext φ => obtain ⟨p, ⟨o, e⟩, st⟩ := x; exact ⟨st _ _ p fun o q => k _ _ (.inl rfl) q, ⟨o, k _ _ (.inl rfl) e⟩, st⟩
theorem HOk.lt (x : HOk P w H h) (e : H a = some o) : a < h.objs.size := (x a o e).lt
theorem HOk.fresh (x : HOk P w H h) (e : h.objs.size ≤ a) : H a = none := by
  cases q : H a with
  | none => rfl
  | some u => exact absurd (Nat.lt_of_lt_of_le (x.lt q) e) (Nat.lt_irrefl _)
theorem HOk.kept (x : HOk P w H h) (k : ∀ b u, h.get? b = some u → h'.get? b = some u) : HOk P w H h' := fun a o e =>
  (x a o e).stay (fun b u _ q => k b u q) (fun _ q => q) fun _ _ q => q
theorem HOk.laid (x : HOk P w H h) (k : ∀ b u, h.get? b = some u → h'.get? b = some u) (hp : h.objs.size ≤ a) (new : ObjOk P w (upd H a o) h' a o) : HOk P w (upd H a o) h' := fun b u e => by
  have hn := x.fresh hp
  by_cases hb : b = a
  · subst hb; rw [upd_same] at e; cases e; exact new
  · rw [upd_ne hb] at e
    exact (x b u e).stay (fun c v _ q => k c v q) (fun c q => by rw [upd_ne (ne_of_none q hn)]; exact q) fun c xs q => by rw [upd_ne (ne_of_none q hn)]; exact q
end

noncomputable def Rd (H : Hp) (a : Addr) (u : HO) : Prop := H a = some u ∨ ∃ o, H a = some (.frz o u)
theorem Rd.ok {P : Program} {w : World} {H : Hp} {h : Heap} {a : Addr} {u : HO} (r : Rd H a u) (x : HOk P w H h) : ObjOk P w H h a u := by
  rcases r with r | ⟨o, r⟩
  · exact x a u r
  · obtain ⟨_, q⟩ := x a _ r
    exact q
noncomputable def Mut : Option HO → Prop
  | some (.lst _) => True
  | some (.dK _) => True
  | some (.dT _) => True
  | some (.set _ _) => True
  | some (.ins _ _ _) => True
  | some (.ext _) => True
  | _ => False
section
variable {P : Program} {w : World} {H : Hp} {h h' : Heap} {x e : Addr} {o' : HO}
theorem HOk.write (ok : HOk P w H h) (mu : Mut (H x)) (he : e = x ∨ H e = some (.own x)) (k : ∀ b u, b ≠ e → h.get? b = some u → h'.get? b = some u) (heo : ∃ u, h'.get? e = some u)
    (new : ObjOk P w (upd H x o') h' x o') : HOk P w (upd H x o') h' := fun b u q => by
  have nown : ∀ c y, H c = some (.own y) → c ≠ x := fun c y r z => by subst z; rw [r] at mu; exact mu
  have ntup : ∀ c xs, H c = some (.tup xs) → c ≠ x := fun c xs r z => by subst z; rw [r] at mu; exact mu
  by_cases hb : b = x
  · subst hb; rw [upd_same] at q; cases q; exact new
  · rw [upd_ne hb] at q
    by_cases hbe : b = e
    · have q' : H b = some (.own x) := by
        rcases he with z | z
        · exact absurd (hbe.trans z) hb
        · rw [hbe]; exact z
      rw [q] at q'; cases q'
      obtain ⟨v, hv⟩ := heo
      exact ⟨v, by rw [hbe]; exact hv⟩
    · refine (ok b u q).stay (fun c v hc r => k c v ?_ r) (fun c r => by rw [upd_ne (nown c b r)]; exact r) fun c xs r => by rw [upd_ne (ntup c xs r)]; exact r
      rcases hc with rfl | hc
      · exact hbe
      · rintro rfl
        rcases he with z | z
        · exact nown c b hc z
        · rw [hc] at z; cases z; exact hb rfl
end

structure Un (fs ex : List Addr) (H H' : Hp) (h h' : Heap) : Prop where
  keep : ∀ b o, h.get? b = some o → H b = none → b ∉ fs → b ∉ ex → h'.get? b = some o
  slot : ∀ b o, h.get? b = some o → H b = none → b ∈ fs → b ∉ ex → ∃ sl, h'.get? b = some { o with slots := sl }
  free : ∀ b o, h.get? b = some o → H b = none → b ∉ ex → H' b = none
  there : ∀ b o, h.get? b = some o → b ∉ ex → ∃ o', h'.get? b = some o'
  tups : ∀ b xs, H b = some (.tup xs) → H' b = some (.tup xs)
  frzs : ∀ b o u, H b = some (.frz o u) → H' b = some (.frz o u)
  tbls : ∀ b ps, H b = some (.tbl ps) → ∃ more, H' b = some (.tbl (ps ++ more))
section
variable {fs fs' ex ex' : List Addr} {H H1 H2 : Hp} {h h1 h2 h' : Heap} {a x e : Addr} {o : HO}
theorem Un.any (u : Un fs ex H H1 h h1) {b : Addr} {ob : Obj} (q : h.get? b = some ob) (n : H b = none) (hx : b ∉ ex) : ∃ sl, h1.get? b = some { ob with slots := sl } := by
  by_cases hb : b ∈ fs
  · exact u.slot b ob q n hb hx
  · exact ⟨ob.slots, u.keep b ob q n hb hx⟩
theorem Un.kept (k : ∀ b u, h.get? b = some u → h'.get? b = some u) : Un fs ex H H h h' :=
  ⟨fun b ob q _ _ _ => k b ob q, fun b ob q _ _ _ => ⟨ob.slots, k b ob q⟩, fun _ _ _ n _ => n, fun b ob q _ => ⟨ob, k b ob q⟩, fun _ _ q => q, fun _ _ _ q => q, fun _ ps q => ⟨#[], by rw [q]; simp⟩⟩
theorem Un.refl : Un fs ex H H h h := Un.kept fun _ _ q => q
theorem Un.laid (k : ∀ b u, h.get? b = some u → h'.get? b = some u) (hp : h.objs.size ≤ a) (hn : H a = none) : Un fs ex H (upd H a o) h h' where
  keep := fun b u q _ _ _ => k b u q
  slot := fun b u q _ _ _ => ⟨u.slots, k b u q⟩
  free := fun b u q n _ => by rw [upd_ne (Nat.ne_of_lt (Nat.lt_of_lt_of_le (Heap.lt_size q) hp))]; exact n
  there := fun b u q _ => ⟨u, k b u q⟩
  tups := fun b xs q => by rw [upd_ne (ne_of_none q hn)]; exact q
  frzs := fun b u xs q => by rw [upd_ne (ne_of_none q hn)]; exact q
  tbls := fun b ps q => ⟨#[], by rw [upd_ne (ne_of_none q hn), q]; simp⟩
theorem Un.write (mu : Mut (H x)) (he : e = x ∨ H e = some (.own x)) (k : ∀ b u, b ≠ e → h.get? b = some u → h'.get? b = some u) (heo : ∃ u, h'.get? e = some u) : Un fs ex H (upd H x o) h h' := by
  have hx : ∀ b, H b = none → b ≠ x := fun b n z => by subst z; rw [n] at mu; exact mu
  have hb : ∀ b, H b = none → b ≠ e := fun b n z => by
    subst z
    rcases he with r | r
    · exact hx b n r
    · rw [n] at r; cases r
  have hm : ∀ b u, H b = some u → ¬ Mut (some u) → b ≠ x := fun b u q nm z => by subst z; rw [q] at mu; exact nm mu
  refine ⟨fun b u q n _ _ => k b u (hb b n) q, fun b u q n _ _ => ⟨u.slots, k b u (hb b n) q⟩, fun b u q n _ => by rw [upd_ne (hx b n)]; exact n, fun b u q _ => ?_,
    fun b xs q => by rw [upd_ne (hm b _ q fun z => z)]; exact q, fun b u xs q => by rw [upd_ne (hm b _ q fun z => z)]; exact q, fun b ps q => ⟨#[], by rw [upd_ne (hm b _ q fun z => z), q]; simp⟩⟩
  by_cases hbe : b = e
  · subst hbe; exact heo
  · exact ⟨u, k b u hbe q⟩
end

noncomputable def trk (h : Heap) (H : Hp) : List Addr := (List.range h.objs.size).filter fun a => (H a).isSome
noncomputable def hidT (h : Heap) (H : Hp) : Heap := PySem.W.hideAll h (trk h H)
theorem hidT_size (h : Heap) (H : Hp) : (hidT h H).objs.size = h.objs.size := PySem.W.hideAll_size _ _
theorem hidT_get {h : Heap} {H : Hp} {b : Addr} {o : Obj} (e : h.get? b = some o) (n : H b = none) : (hidT h H).get? b = some o :=
  PySem.W.hideAll_get _ e fun hm => by
    have q : (H b).isSome = true := (List.mem_filter.mp hm).2
    rw [n] at q; simp at q
theorem of_hidT {h : Heap} {H : Hp} {b : Addr} {o : Obj} (e : (hidT h H).get? b = some o) : h.get? b = some o ∧ H b = none := by
  have e' : h.get? b = some o := PySem.W.of_hideAll (trk h H) e
  refine ⟨e', ?_⟩
  cases q : H b with
  | none => rfl
  | some x =>
    have hm : b ∈ trk h H := List.mem_filter.mpr ⟨List.mem_range.mpr (Heap.lt_size e'), by simp [q]⟩
    have z : (hidT h H).get? b = none := PySem.W.hideAll_none (trk h H) hm
    rw [z] at e; cases e

end L2

namespace L2
open PySem PySem.Spec PyProof.Rows

structure Mod (K : PySem.W.Frag) (mg : Str → Option Value) (base : Heap) : Prop where
  kin : K.In base
  glob : base.Ns mainGlobals mg
  blt : ∃ mb, base.Ns builtinsNs mb ∧ ∀ x : Str, x ≠ "__name__" → mb x = bootBuiltins x
  nolimit : base.NoLimit

structure Cx where
  prog : Program
  w : World
  K : PySem.W.Frag
  mg : Str → Option Value
  base : Heap
  A : Around
  N : List Str
  s₀ : Shared
  H₀ : Hp
  env : Env
  outer : List Env
  stack : List Env
  ex : List Addr
  fn : Str → Bool
  calm : Bool
  pn : List (Addr × Obj)
  xe : Value → Shared → Prop
noncomputable def frs (l : List Env) : List Addr := l.filterMap (·.frame)
noncomputable abbrev Cx.fs (X : Cx) : List Addr := frs X.outer

noncomputable def Vis (sc : Scope) (x : Str) : Prop := sc.names.lookup x = some .local ∨ sc.names.lookup x = some .cell ∨ sc.names.lookup x = some .free
noncomputable def Loc (sc : Scope) (x : Str) : Prop := sc.names.lookup x = some .local ∨ sc.names.lookup x = some .cell
noncomputable def Look (env : Env) (h : Heap) (m : Str → Option Value) (x : Str) (u : Value) : Prop :=
  (env.kindOf x = some .local ∧ m x = some u) ∨ ((env.kindOf x = some .cell ∨ env.kindOf x = some .free) ∧ ∃ c, env.cells.lookup x = some c ∧ h.IsCell c (some u))

structure Cx.Ok (X : Cx) : Prop where
  mod : Mod X.K X.mg X.base
  kind : X.env.scope.kind = .function
  glob : X.env.globals = mainGlobals
  blt : X.env.builtins = builtinsNs
  above : X.s₀.heap.objs.size ≤ X.env.locals
  inj : ∀ x y c, X.env.cells.lookup x = some c → X.env.cells.lookup y = some c → x = y
  has : ∀ x, (X.env.kindOf x = some .cell ∨ X.env.kindOf x = some .free) → ∃ c, X.env.cells.lookup x = some c
  cab : ∀ x c, X.fn x = true → X.env.cells.lookup x = some c → X.s₀.heap.objs.size ≤ c
  hd : X.calm = true → X.A.handled = none
  frames : X.A.frames = some X.stack
  stk : X.stack = X.outer ∨ (X.stack = X.env :: X.outer ∧ X.env.frame = some X.env.locals)
  exf : ∀ b ∈ X.ex, b ≠ X.env.locals ∧ ∀ x c, X.env.cells.lookup x = some c → c ≠ b
  bs : ∀ b o, X.base.get? b = some o → X.s₀.heap.get? b = some o ∧ X.H₀ b = none
  bsz : X.base.objs.size ≤ X.s₀.heap.objs.size
  noex : ∀ b o, X.base.get? b = some o → b ∉ X.ex
  exfs : ∀ b ∈ X.ex, b ∉ X.fs
  funs : X.s₀.heap.FunFrames X.base X.outer
  frf : ∀ b ∈ X.fs, X.H₀ b = none

structure Inv (X : Cx) (pins : List (Addr × Obj)) (σ : List (Option V)) (H : Hp) (s : Shared) : Prop where
  ok : X.Ok
  os : s.os = X.s₀.os
  bare : AllBare s.gens
  base : Un X.fs X.ex X.H₀ H X.s₀.heap s.heap
  loc : ∃ m, s.heap.Ns X.env.locals m ∧ ∀ (i : Nat) (x : Str) (v : V), X.N[i]? = some x → σ[i]? = some (some v) → Vis X.env.scope x → ∃ u, RelV v u ∧ Look X.env s.heap m x u
  cell : ∀ x c, X.env.cells.lookup x = some c → ∃ v, s.heap.IsCell c v
  free : H X.env.locals = none
  freeC : ∀ x c, X.env.cells.lookup x = some c → H c = none
  pin : ∀ p ∈ X.pn ++ pins, s.heap.get? p.1 = some p.2 ∧ H p.1 = none ∧ p.1 ≠ X.env.locals ∧ p.1 ∉ X.fs ∧ ∀ v, p.2.data ≠ .cell v
  hok : HOk X.prog X.w H s.heap
  len : σ.length = X.N.length

section
variable {X : Cx} {pins : List (Addr × Obj)} {σ : List (Option V)} {H H' : Hp} {s : Shared} {h' : Heap}

theorem Cx.Ok.nofr (ok : X.Ok) {b : Addr} {o : Obj} (e : X.base.get? b = some o) : b ∉ X.fs := fun hb => by
  have := (ok.funs.mem hb).1
  rw [e] at this; cases this
theorem Inv.bs (I : Inv X pins σ H s) : ∀ b o, X.base.get? b = some o → s.heap.get? b = some o ∧ H b = none := fun b o e =>
  ⟨I.base.keep b o (I.ok.bs b o e).1 (I.ok.bs b o e).2 (I.ok.nofr e) (I.ok.noex b o e), I.base.free b o (I.ok.bs b o e).1 (I.ok.bs b o e).2 (I.ok.noex b o e)⟩
theorem Inv.bk (I : Inv X pins σ H s) : ∀ b o, X.base.get? b = some o → s.heap.get? b = some o := fun b o e => (I.bs b o e).1
theorem Inv.mod (I : Inv X pins σ H s) : Mod X.K X.mg X.base := I.ok.mod
theorem Inv.kIn (I : Inv X pins σ H s) : X.K.In s.heap := I.ok.mod.kin.keeps I.bk
theorem Inv.fr (I : Inv X pins σ H s) : ∃ m, Fr X.base X.env.locals s.heap m :=
  let ⟨m, hn, _⟩ := I.loc
  ⟨m, hn, I.bk, Nat.le_trans I.ok.bsz I.ok.above⟩
theorem Inv.lt (I : Inv X pins σ H s) : X.env.locals < s.heap.objs.size := let ⟨_, hn, _⟩ := I.loc; hn.lt
theorem Inv.sz (I : Inv X pins σ H s) : X.s₀.heap.objs.size ≤ s.heap.objs.size := Nat.le_trans I.ok.above (Nat.le_of_lt I.lt)
theorem Inv.nofs (I : Inv X pins σ H s) {a : Addr} (h : s.heap.objs.size ≤ a) : a ∉ X.fs := fun hb => by
  obtain ⟨_, o, ho, _⟩ := I.ok.funs.mem hb
  exact absurd (Nat.lt_of_lt_of_le (Heap.lt_size ho) (Nat.le_trans I.sz h)) (Nat.lt_irrefl _)
theorem Inv.cne (I : Inv X pins σ H s) : ∀ x c, X.env.cells.lookup x = some c → c ≠ X.env.locals := fun x c e z => by
  obtain ⟨v, o, ho, hd⟩ := I.cell x c e
  obtain ⟨m, ⟨o', es, ep, ho', hd', _⟩, _⟩ := I.loc
  rw [z, ho'] at ho; cases ho; rw [hd'] at hd; cases hd
theorem Inv.funs (I : Inv X pins σ H s) : s.heap.FunFrames X.base X.outer := by
  have all : ∀ (l : List Env), (∀ b ∈ frs l, b ∈ X.fs) → X.s₀.heap.FunFrames X.base l → s.heap.FunFrames X.base l := by
    intro l
    induction l with
    | nil => intro _ _; trivial
    | cons env r ih =>
      intro hs hl
      obtain ⟨hk, ⟨L, o, hf, hn, ho, hd⟩, hr⟩ := hl
      have hL : L ∈ X.fs := hs L (by unfold frs; rw [List.filterMap_cons, hf]; exact List.mem_cons_self)
      obtain ⟨sl, e⟩ := I.base.slot L o ho (I.ok.frf L hL) hL fun z => I.ok.exfs L z hL
      exact ⟨hk, ⟨L, _, hf, hn, e, hd⟩, ih (fun b hb => hs b (by unfold frs; rw [List.filterMap_cons, hf]; exact List.mem_cons_of_mem _ hb)) hr⟩
  exact all X.outer (fun _ hb => hb) I.ok.funs

theorem Inv.stack (I : Inv X pins σ H s) : s.heap.FunFrames X.base X.stack := by
  rcases I.ok.stk with e | ⟨e, hf⟩
  · rw [e]; exact I.funs
  · rw [e]
    obtain ⟨m, hn, _⟩ := I.loc
    refine .cons (by rw [I.ok.kind]; decide) hf hn ?_ I.funs
    exact Heap.get?_none_of_le (Nat.le_trans I.ok.bsz I.ok.above)
theorem Inv.stkSub (I : Inv X pins σ H s) : ∀ b ∈ frs X.stack, b ∈ X.env.locals :: X.fs := fun b hb => by
  rcases I.ok.stk with e | ⟨e, hf⟩
  · rw [e] at hb; exact List.mem_cons_of_mem _ hb
  · rw [e] at hb
    unfold frs at hb
    rw [List.filterMap_cons, hf] at hb
    exact hb
theorem Inv.stkFree (I : Inv X pins σ H s) : ∀ b ∈ frs X.stack, H b = none := fun b hb => by
  rcases List.mem_cons.mp (I.stkSub b hb) with e | hb
  · rw [e]; exact I.free
  · obtain ⟨_, o, ho, _⟩ := I.ok.funs.mem hb
    exact I.base.free b o ho (I.ok.frf b hb) fun z => I.ok.exfs b z hb

theorem Inv.step {g' : Array GenState} {t' : Nat} {d' : Drawn} {ch : List Addr} (I : Inv X pins σ H s)
    (hch : ∀ b ∈ ch, (b ∈ X.ex ∨ X.s₀.heap.objs.size ≤ b) ∧ b ≠ X.env.locals ∧ (∀ x c, X.env.cells.lookup x = some c → c ≠ b) ∧ ∀ p ∈ X.pn ++ pins, p.1 ≠ b)
    (keep : ∀ b o, b ≠ X.env.locals → b ∉ X.fs → b ∉ ch → s.heap.get? b = some o → H b = none → h'.get? b = some o)
    (slot : ∀ b o, b ≠ X.env.locals → b ∈ X.fs → b ∉ ch → s.heap.get? b = some o → H b = none → ∃ sl, h'.get? b = some { o with slots := sl }) (free : ∀ b o, b ∉ ch → s.heap.get? b = some o → H b = none → H' b = none)
    (there : ∀ b o, b ∉ ch → s.heap.get? b = some o → ∃ o', h'.get? b = some o')
    (tups : ∀ b xs, H b = some (.tup xs) → H' b = some (.tup xs)) (frzs : ∀ b o u, H b = some (.frz o u) → H' b = some (.frz o u)) (tbls : ∀ b ps, H b = some (.tbl ps) → ∃ more, H' b = some (.tbl (ps ++ more)))
    (ns : ∀ m, s.heap.Ns X.env.locals m → h'.Ns X.env.locals m) (hok : HOk X.prog X.w H' h') (hg : AllBare g') :
    Inv X pins σ H' { s with heap := h', gens := g', drawn := d', toks := t' } := by
  have neL : ∀ b o, X.s₀.heap.get? b = some o → b ≠ X.env.locals := fun b o e => Nat.ne_of_lt (Nat.lt_of_lt_of_le (Heap.lt_size e) I.ok.above)
  have neC : ∀ b o, X.s₀.heap.get? b = some o → b ∉ X.ex → b ∉ ch := fun b o e hx hb => by
    rcases (hch b hb).1 with z | z
    · exact hx z
    · exact absurd (Nat.lt_of_lt_of_le (Heap.lt_size e) z) (Nat.lt_irrefl _)
  have cellK : ∀ x c, X.env.cells.lookup x = some c → ∀ v, s.heap.IsCell c v → h'.IsCell c v := fun x c e v ⟨o, ho, hd⟩ => by
    have nch : c ∉ ch := fun z => (hch c z).2.2.1 x c e rfl
    by_cases hc : c ∈ X.fs
    · obtain ⟨sl, q⟩ := slot c o (I.cne x c e) hc nch ho (I.freeC x c e)
      exact ⟨_, q, hd⟩
    · exact ⟨o, keep c o (I.cne x c e) hc nch ho (I.freeC x c e), hd⟩
  refine ⟨I.ok, I.os, hg, ⟨fun b o e n hb hx => ?_, fun b o e n hb hx => ?_, fun b o e n hx => ?_, fun b o e hx => ?_, fun b xs e => tups b xs (I.base.tups b xs e), fun b o xs e => frzs b o xs (I.base.frzs b o xs e), fun b ps e => ?_⟩, ?_, fun x c e => ?_, ?_, fun x c e => ?_, fun p hp => ?_, hok, I.len⟩
  · exact keep b o (neL b o e) hb (neC b o e hx) (I.base.keep b o e n hb hx) (I.base.free b o e n hx)
  · obtain ⟨sl, e1⟩ := I.base.slot b o e n hb hx
    obtain ⟨sl', e2⟩ := slot b _ (neL b o e) hb (neC b o e hx) e1 (I.base.free b o e n hx)
    exact ⟨sl', e2⟩
  · obtain ⟨o', e1⟩ := I.base.there b o e hx
    exact free b o' (neC b o e hx) e1 (I.base.free b o e n hx)
  · obtain ⟨o', e1⟩ := I.base.there b o e hx
    exact there b o' (neC b o e hx) e1
  · obtain ⟨m1, e1⟩ := I.base.tbls b ps e
    obtain ⟨m2, e2⟩ := tbls b _ e1
    exact ⟨m1 ++ m2, by rw [e2, Array.append_assoc]⟩
  · obtain ⟨m, hn, hl⟩ := I.loc
    refine ⟨m, ns m hn, fun i x v e1 e2 e3 => ?_⟩
    obtain ⟨u, r, l⟩ := hl i x v e1 e2 e3
    refine ⟨u, r, ?_⟩
    rcases l with l | ⟨k, c, e, z⟩
    · exact .inl l
    · exact .inr ⟨k, c, e, cellK x c e _ z⟩
  · obtain ⟨v, z⟩ := I.cell x c e
    exact ⟨v, cellK x c e v z⟩
  · obtain ⟨m, ⟨o, _, _, ho, _⟩, _⟩ := I.loc
    exact free _ o (fun z => (hch _ z).2.1 rfl) ho I.free
  · obtain ⟨v, o, ho, hd⟩ := I.cell x c e
    exact free c o (fun z => (hch c z).2.2.1 x c e rfl) ho (I.freeC x c e)
  · obtain ⟨e, n, ne, nf, d⟩ := I.pin p hp
    have nch : p.1 ∉ ch := fun z => (hch p.1 z).2.2.2 p hp rfl
    exact ⟨keep p.1 p.2 ne nf nch e n, free p.1 p.2 nch e n, ne, nf, d⟩
theorem Inv.un {t' : Nat} (I : Inv X pins σ H s) (u : Un X.fs [] H H' s.heap h') (hok : HOk X.prog X.w H' h') : Inv X pins σ H' { s with heap := h', toks := t' } := by
  obtain ⟨m, ⟨o, es, ep, ho, r⟩, _⟩ := id I.loc
  obtain ⟨sl, hL⟩ := u.any ho I.free (by simp)
  exact I.step (g' := s.gens) (d' := s.drawn) (ch := []) (fun _ z => nomatch z) (fun b o _ hb _ e n => u.keep b o e n hb (by simp)) (fun b o _ hb _ e n => u.slot b o e n hb (by simp)) (fun b o _ e n => u.free b o e n (by simp)) (fun b o _ e => u.there b o e (by simp)) u.tups u.frzs u.tbls (fun m' hm => by
    obtain ⟨o', es', ep', ho', r'⟩ := hm
    rw [ho] at ho'; cases ho'
    exact ⟨_, es', ep', hL, r'⟩) hok I.bare
theorem Inv.call {g' : Array GenState} {t' : Nat} {d' : Drawn} {ch : List Addr} (I : Inv X pins σ H s) (u : Un (frs X.stack) ch H H' s.heap h') (hok : HOk X.prog X.w H' h') (hg : AllBare g')
    (hch : ∀ b ∈ ch, (b ∈ X.ex ∨ X.s₀.heap.objs.size ≤ b) ∧ b ≠ X.env.locals ∧ (∀ x c, X.env.cells.lookup x = some c → c ≠ b) ∧ ∀ p ∈ X.pn ++ pins, p.1 ≠ b) :
    Inv X pins σ H' { s with heap := h', gens := g', drawn := d', toks := t' } := by
  obtain ⟨m, ⟨o, es, ep, ho, r⟩, _⟩ := id I.loc
  obtain ⟨sl, hL⟩ := u.any ho I.free fun z => (hch _ z).2.1 rfl
  exact I.step (ch := ch) hch (fun b o hL hb hc e n => u.keep b o e n (fun z => (List.mem_cons.mp (I.stkSub b z)).elim hL hb) hc) (fun b o _ _ hc e n => u.any e n hc) (fun b o hc e n => u.free b o e n hc) (fun b o hc e => u.there b o e hc) u.tups u.frzs u.tbls (fun m' hm => by
    obtain ⟨o', es', ep', ho', r'⟩ := hm
    rw [ho] at ho'; cases ho'
    exact ⟨_, es', ep', hL, r'⟩) hok hg
theorem Inv.turned {t' : Nat} {it : Addr} (I : Inv X pins σ H s) (k : ∀ b o, b ≠ it → s.heap.get? b = some o → h'.get? b = some o) (hn : H it = none) (hL : it ≠ X.env.locals)
    (h1 : it ∈ X.ex ∨ X.s₀.heap.objs.size ≤ it) (h2 : ∀ x c, X.env.cells.lookup x = some c → c ≠ it) (h3 : ∀ p ∈ X.pn ++ pins, p.1 ≠ it) : Inv X pins σ H { s with heap := h', toks := t' } := by
  have nit : ∀ b u, H b = some u → b ≠ it := fun b u e z => by rw [z, hn] at e; cases e
  refine I.step (g' := s.gens) (d' := s.drawn) (ch := [it]) (fun b hb => ?_) (fun b o _ _ hc e _ => k b o (fun z => hc (by simp [z])) e) (fun b o _ _ hc e _ => ⟨o.slots, k b o (fun z => hc (by simp [z])) e⟩) (fun _ _ _ _ n => n)
    (fun b o hc e => ⟨o, k b o (fun z => hc (by simp [z])) e⟩) (fun _ _ e => e) (fun _ _ _ e => e) (fun b ps e => ⟨#[], by rw [e]; simp⟩) (fun m hm => ?_) (fun b u e => ?_) I.bare
  · have e : b = it := by simpa using hb
    subst e
    exact ⟨h1, hL, h2, h3⟩
  · obtain ⟨o, es, ep, ho, r⟩ := hm
    exact ⟨o, es, ep, k _ o (Ne.symm hL) ho, r⟩
  · refine (I.hok b u e).stay (fun c v hc q => k c v ?_ q) (fun _ q => q) fun _ _ q => q
    rcases hc with z | z
    · rw [z]; exact nit b u e
    · exact nit c _ z
theorem Inv.tok (I : Inv X pins σ H s) (t : Nat) : Inv X pins σ H { s with toks := t } := I.un (h' := s.heap) (t' := t) Un.refl I.hok
theorem Inv.kept {t' : Nat} (I : Inv X pins σ H s) (k : ∀ b u, s.heap.get? b = some u → h'.get? b = some u) : Inv X pins σ H { s with heap := h', toks := t' } := I.un (Un.kept k) (I.hok.kept k)
theorem Inv.laid {a : Addr} {o : HO} {t' : Nat} (I : Inv X pins σ H s) (k : ∀ b u, s.heap.get? b = some u → h'.get? b = some u) (hp : s.heap.objs.size ≤ a) (new : ObjOk X.prog X.w (upd H a o) h' a o) :
    Inv X pins σ (upd H a o) { s with heap := h', toks := t' } := I.un (Un.laid k hp (I.hok.fresh hp)) (I.hok.laid k hp new)
theorem Inv.write {x e : Addr} {o : HO} {t' : Nat} (I : Inv X pins σ H s) (mu : Mut (H x)) (he : e = x ∨ H e = some (.own x)) (k : ∀ b u, b ≠ e → s.heap.get? b = some u → h'.get? b = some u) (heo : ∃ u, h'.get? e = some u)
    (new : ObjOk X.prog X.w (upd H x o) h' x o) : Inv X pins σ (upd H x o) { s with heap := h', toks := t' } := I.un (Un.write mu he k heo) (I.hok.write mu he k heo new)
theorem Inv.pins_of {pins' : List (Addr × Obj)} (I : Inv X pins σ H s) (h : ∀ p ∈ pins', s.heap.get? p.1 = some p.2 ∧ H p.1 = none ∧ p.1 ≠ X.env.locals ∧ p.1 ∉ X.fs ∧ ∀ v, p.2.data ≠ .cell v) : Inv X pins' σ H s :=
  ⟨I.ok, I.os, I.bare, I.base, I.loc, I.cell, I.free, I.freeC, fun p hp => (List.mem_append.mp hp).elim (fun z => I.pin p (List.mem_append_left _ z)) (h p), I.hok, I.len⟩

theorem nodup_ix {N : List Str} (hN : N.Nodup) {i j : Nat} {x : Str} (a : N[i]? = some x) (b : N[j]? = some x) : i = j := by
  obtain ⟨h1, e1⟩ := List.getElem?_eq_some_iff.mp a
  obtain ⟨h2, e2⟩ := List.getElem?_eq_some_iff.mp b
  exact (List.getElem_inj hN).mp (e1.trans e2.symm)

theorem store_ok2 {M : Model} {A : Around} {E : Value → Shared → Prop} {i : Nat} {x : Str} {v : V} {u : Value} {Q : Unit → Shared → Prop} (I : Inv X pins σ H s) (hN : X.N.Nodup) (hi : X.N[i]? = some x) (hx : Loc X.env.scope x) (r : RelV v u)
    (h : ∀ s', Inv X pins (σ.set i (some v)) H s' → (∃ a, Heap.SameBut a s.heap s'.heap ∧ (a = X.env.locals ∨ X.env.cells.lookup x = some a)) → Q () s') (hf : X.fn x = true ∨ X.env.scope.names.lookup x = some .local := by first | exact .inl rfl | exact .inr rfl | assumption) : wpAny M A (storeName X.env x u) Q E s := by
  obtain ⟨m, hn, hl⟩ := id I.loc
  have hcls : (X.env.scope.kind == .class || (X.env.scope.kind == .module && X.env.locals != X.env.globals)) = false := by rw [I.ok.kind]; rfl
  have hiσ : i < σ.length := by rw [I.len]; exact (List.getElem?_eq_some_iff.mp hi).1
  have cne := I.cne
  have tracked : ∀ {a : Addr} {h' : Heap}, (∃ o, s.heap.get? a = some o ∧ H a = none) → Heap.SameBut a s.heap h' → HOk X.prog X.w H h' := fun {a h'} ha hs b ob e => by
    obtain ⟨_, _, hfree⟩ := ha
    refine (I.hok b ob e).stay (fun c w' hc q => (hs.2 c ?_).trans q) (fun _ q => q) fun _ _ q => q
    rintro rfl
    rcases hc with rfl | hc
    · rw [hfree] at e; cases e
    · rw [hfree] at hc; cases hc
  rcases hx with hk | hk
  · refine wpAny_storeName_local hk hn (fun h' hn' hs => ?_) hcls
    obtain ⟨oL, _, _, hoL, _⟩ := id hn
    refine h _ ⟨I.ok, I.os, I.bare, ⟨fun b o e n hb hx => ?_, fun b o e n hb hx => ?_, I.base.free, fun b o e hx => ?_, I.base.tups, I.base.frzs, I.base.tbls⟩, ⟨_, hn', fun j y v' e1 e2 e3 => ?_⟩, fun y c e => ?_, I.free, I.freeC, fun p hp => ?_, tracked ⟨oL, hoL, I.free⟩ hs, by simpa using I.len⟩ ⟨_, hs, .inl rfl⟩
    · exact (hs.2 b (Nat.ne_of_lt (Nat.lt_of_lt_of_le (Heap.lt_size e) I.ok.above))).trans (I.base.keep b o e n hb hx)
    · obtain ⟨sl, e1⟩ := I.base.slot b o e n hb hx
      exact ⟨sl, (hs.2 b (Nat.ne_of_lt (Nat.lt_of_lt_of_le (Heap.lt_size e) I.ok.above))).trans e1⟩
    · obtain ⟨o', e1⟩ := I.base.there b o e hx
      exact ⟨o', (hs.2 b (Nat.ne_of_lt (Nat.lt_of_lt_of_le (Heap.lt_size e) I.ok.above))).trans e1⟩
    · by_cases hj : j = i
      · subst hj
        rw [hi] at e1; cases e1
        rw [List.getElem?_set_self hiσ] at e2
        cases e2
        exact ⟨u, r, .inl ⟨hk, by simp⟩⟩
      · rw [List.getElem?_set_ne (Ne.symm hj)] at e2
        obtain ⟨u', r', q⟩ := hl j y v' e1 e2 e3
        refine ⟨u', r', ?_⟩
        rcases q with ⟨k, e⟩ | ⟨k, c, e, z⟩
        · refine .inl ⟨k, ?_⟩
          have : y ≠ x := fun e => hj (nodup_ix hN e1 (e ▸ hi))
          simp [this, e]
        · exact .inr ⟨k, c, e, z.sameBut hs (cne y c e)⟩
    · obtain ⟨w', z⟩ := I.cell y c e
      exact ⟨w', z.sameBut hs (cne y c e)⟩
    · obtain ⟨e, n, ne, nf, d⟩ := I.pin p hp
      exact ⟨(hs.2 p.1 ne).trans e, n, ne, nf, d⟩
  · have hfn : X.fn x = true := by
      rcases hf with z | z
      · exact z
      · rw [z] at hk; cases hk
    obtain ⟨c, hc⟩ := I.ok.has x (.inl hk)
    obtain ⟨w', z⟩ := I.cell x c hc
    refine wpAny_storeName_cell I.ok.kind hk hc z (fun h' hc' hs => ?_)
    obtain ⟨oc, hoc, hocd⟩ := id z
    refine h { s with heap := h' } ⟨I.ok, I.os, I.bare, ⟨fun b o e n hb hx => ?_, fun b o e n hb hx => ?_, I.base.free, fun b o e hx => ?_, I.base.tups, I.base.frzs, I.base.tbls⟩, ⟨m, hn.sameBut hs (Ne.symm (cne x c hc)), fun j y v' e1 e2 e3 => ?_⟩, fun y c' e => ?_, I.free, I.freeC, fun p hp => ?_, tracked ⟨oc, hoc, I.freeC x c hc⟩ hs, by simpa using I.len⟩ ⟨c, hs, .inr hc⟩
    · exact (hs.2 b (Nat.ne_of_lt (Nat.lt_of_lt_of_le (Heap.lt_size e) (I.ok.cab x c hfn hc)))).trans (I.base.keep b o e n hb hx)
    · obtain ⟨sl, e1⟩ := I.base.slot b o e n hb hx
      exact ⟨sl, (hs.2 b (Nat.ne_of_lt (Nat.lt_of_lt_of_le (Heap.lt_size e) (I.ok.cab x c hfn hc)))).trans e1⟩
    · obtain ⟨o', e1⟩ := I.base.there b o e hx
      exact ⟨o', (hs.2 b (Nat.ne_of_lt (Nat.lt_of_lt_of_le (Heap.lt_size e) (I.ok.cab x c hfn hc)))).trans e1⟩
    · by_cases hj : j = i
      · subst hj
        rw [hi] at e1; cases e1
        rw [List.getElem?_set_self hiσ] at e2
        cases e2
        exact ⟨u, r, .inr ⟨.inl hk, c, hc, hc'⟩⟩
      · rw [List.getElem?_set_ne (Ne.symm hj)] at e2
        obtain ⟨u', r', q⟩ := hl j y v' e1 e2 e3
        refine ⟨u', r', ?_⟩
        rcases q with q | ⟨k, c', e, z'⟩
        · exact .inl q
        · refine .inr ⟨k, c', e, z'.sameBut hs ?_⟩
          rintro rfl
          exact hj (nodup_ix hN e1 (I.ok.inj _ _ _ e hc ▸ hi))
    · by_cases hcc : c' = c
      · subst hcc; exact ⟨_, hc'⟩
      · obtain ⟨w2, z2⟩ := I.cell y c' e
        exact ⟨w2, z2.sameBut hs hcc⟩
    · obtain ⟨e, n, ne, nf, d⟩ := I.pin p hp
      refine ⟨(hs.2 p.1 ?_).trans e, n, ne, nf, d⟩
      intro q
      rw [q, hoc] at e
      have q' : oc = p.2 := Option.some.inj e
      exact d w' (by rw [← q']; exact hocd)
theorem store_ok {M : Model} {A : Around} {E : Value → Shared → Prop} {i : Nat} {x : Str} {v : V} {u : Value} {Q : Unit → Shared → Prop} (I : Inv X pins σ H s) (hN : X.N.Nodup) (hi : X.N[i]? = some x) (hx : Loc X.env.scope x) (r : RelV v u)
    (h : ∀ s', Inv X pins (σ.set i (some v)) H s' → Q () s') (hf : X.fn x = true ∨ X.env.scope.names.lookup x = some .local := by first | exact .inl rfl | exact .inr rfl | assumption) : wpAny M A (storeName X.env x u) Q E s :=
  store_ok2 I hN hi hx r (fun s' I' _ => h s' I') hf
end

noncomputable abbrev XK := Value → Option Addr → Hp → Prop
noncomputable abbrev St := List (Option V)
noncomputable abbrev VK := V → Hp → Prop
noncomputable abbrev TE := St → Hp → VK → Prop
noncomputable abbrev TT := St → Hp → (Bool → Hp → Prop) → Prop
noncomputable abbrev TA := St → Hp → (List V → Hp → Prop) → Prop
structure Ends where
  nx : St → Hp → Prop
  rt : VK
  bk : St → Hp → Prop := fun _ _ => False
  ct : St → Hp → Prop := fun _ _ => False
noncomputable abbrev TS := Ends → St → Hp → Prop

noncomputable def EP (X : Cx) (pins : List (Addr × Obj)) (σ : St) (Q : VK) (u : Value) (s' : Shared) : Prop := ∃ v H', Inv X pins σ H' s' ∧ RelV v u ∧ Q v H'
noncomputable def TP (X : Cx) (pins : List (Addr × Obj)) (σ : St) (Q : Bool → Hp → Prop) (b : Bool) (s' : Shared) : Prop := ∃ H', Inv X pins σ H' s' ∧ Q b H'
noncomputable def AP (X : Cx) (pins : List (Addr × Obj)) (σ : St) (Q : List V → Hp → Prop) (us : List Value) (s' : Shared) : Prop := ∃ vs H', Inv X pins σ H' s' ∧ Vals vs us ∧ Q vs H'
noncomputable def SP (X : Cx) (pins : List (Addr × Obj)) (D : Ends) (f : Flow) (s' : Shared) : Prop :=
  match f with
  | .next => ∃ σ' H', Inv X pins σ' H' s' ∧ D.nx σ' H'
  | .brk => ∃ σ' H', Inv X pins σ' H' s' ∧ D.bk σ' H'
  | .cont => ∃ σ' H', Inv X pins σ' H' s' ∧ D.ct σ' H'
  | .ret u => ∃ v σ' H', Inv X pins σ' H' s' ∧ RelV v u ∧ D.rt v H'

noncomputable def PE (X : Cx) (e : Expr) (t : TE) : Prop :=
  ∀ (pins : List (Addr × Obj)) (s : Shared) (σ : St) (H : Hp) (Q : VK), Inv X pins σ H s → t σ H Q → wpAny (model X.prog X.w) X.A (eval e X.env) (EP X pins σ Q) X.xe s
noncomputable def PT (X : Cx) (e : Expr) (t : TT) : Prop :=
  ∀ (pins : List (Addr × Obj)) (s : Shared) (σ : St) (H : Hp) (Q : Bool → Hp → Prop), Inv X pins σ H s → t σ H Q → wpAny (model X.prog X.w) X.A (isTrue e X.env (eval e X.env)) (TP X pins σ Q) X.xe s
noncomputable def PW (X : Cx) (e : Expr) (t : TT) : Prop :=
  ∀ (whole : Sem Value) (pins : List (Addr × Obj)) (s : Shared) (σ : St) (H : Hp) (Q : Bool → Hp → Prop), Inv X pins σ H s → t σ H Q → wpAny (model X.prog X.w) X.A (isTrue e X.env whole) (TP X pins σ Q) X.xe s
theorem PW.pt {X : Cx} {e : Expr} {t : TT} (h : PW X e t) : PT X e t := h _
noncomputable def PA (X : Cx) (es : List Expr) (t : TA) : Prop :=
  ∀ (pos : Pos) (pins : List (Addr × Obj)) (s : Shared) (σ : St) (H : Hp) (Q : List V → Hp → Prop), Inv X pins σ H s → t σ H Q → wpAny (model X.prog X.w) X.A (spliced (backTo pos (starEach es X.env))) (AP X pins σ Q) X.xe s
noncomputable def PS (X : Cx) (st : Stmt) (t : TS) : Prop :=
  ∀ (pins : List (Addr × Obj)) (s : Shared) (σ : St) (H : Hp) (D : Ends), Inv X pins σ H s → t D σ H → wpAny (model X.prog X.w) X.A (exec st X.env) (SP X pins D) X.xe s
noncomputable def PSs (X : Cx) (st : List Stmt) (t : TS) : Prop :=
  ∀ (pins : List (Addr × Obj)) (s : Shared) (σ : St) (H : Hp) (D : Ends), Inv X pins σ H s → t D σ H → wpAny (model X.prog X.w) X.A (execs st X.env) (SP X pins D) X.xe s
theorem thn {α : Type} {t : Sem α} {Q Q' : α → Shared → Prop} {M : Model} {A : Around} {E : Value → Shared → Prop} {s : Shared} (h : wpAny M A t Q E s) (hQ : ∀ a s, Q a s → Q' a s) : wpAny M A t Q' E s := wpAny_mono h hQ fun _ _ x => x
end L2

namespace L2
open PySem PySem.Spec PyProof.Rows
section
variable {X : Cx}

noncomputable def tVar (i : Nat) : TE := fun σ H Q => ∃ v, σ[i]? = some (some v) ∧ Q v H
noncomputable def tC (v : V) : TE := fun _ H Q => Q v H
theorem pe_var {i : Nat} {x : Str} {pos : Pos} (hN : X.N[i]? = some x) (hv : Vis X.env.scope x) (hd : (x == ("__debug__" : Str)) = false := by decide) (hcd : (x == ("__classdict__" : Str)) = false := by decide) : PE X (.Name x pos) (tVar i) := by
  intro pins s σ H Q I h
  obtain ⟨v, e, h⟩ := h
  obtain ⟨m, hn, hl⟩ := I.loc
  obtain ⟨u, r, l⟩ := hl i x v hN e hv
  have fin : EP X pins σ Q u s := ⟨v, H, I, r, h⟩
  rcases l with ⟨hk, hm⟩ | ⟨hk, c, hc, hcell⟩
  · exact wpAny_Name (wpAny_loadName_local I.ok.kind hk hn hm fin) hd
  · rcases hk with hk | hk
    · exact wpAny_Name (wpAny_loadName_cell I.ok.kind hk hc hcell fin) hd
    · exact wpAny_Name (wpAny_loadName_free I.ok.kind hk hc hcell fin hcd) hd
theorem pe_int {i j pos} : PE X (.Constant (.int i) j pos) (tC (.int i)) := fun _ _ _ H _ I h => wpAny_Constant_int ⟨.int i, H, I.tok _, ⟨_, rfl⟩, h⟩
theorem pe_bl {b j pos} : PE X (.Constant (.bool b) j pos) (tC (.bl b)) := fun _ _ _ H _ I h => Constant_bool ⟨.bl b, H, I, rfl, h⟩
theorem pe_non {j pos} : PE X (.Constant .none j pos) (tC .non) := fun _ _ _ H _ I h => Constant_none ⟨.non, H, I, rfl, h⟩
theorem pe_str {x j pos} : PE X (.Constant (.str x) j pos) (tC (.str x)) := fun _ _ _ H _ I h => Calls.Constant_str ⟨.str x, H, I.tok _, ⟨_, rfl⟩, h⟩

noncomputable def Gl (X : Cx) (x : Str) : Prop := X.env.kindOf x = some .globalImplicit
theorem ld_glob {E : Value → Shared → Prop} {pins : List (Addr × Obj)} {s : Shared} {σ : St} {H : Hp} {x : Str} {u : Value} {pos : Pos} {Q : Value → Shared → Prop} (I : Inv X pins σ H s) (hg : Gl X x) (hm : X.mg x = some u) (h : Q u s)
    (hd : (x == ("__debug__" : Str)) = false := by decide) : wpAny (model X.prog X.w) X.A (eval (.Name x pos) X.env) Q E s :=
  Calls.Name_function_global I.ok.kind hg (Calls.loadGlobal_global (by rw [I.ok.glob]; exact I.mod.glob.keeps I.bk) hm h) hd
theorem ld_blt {E : Value → Shared → Prop} {pins : List (Addr × Obj)} {s : Shared} {σ : St} {H : Hp} {x : Str} {u : Value} {pos : Pos} {Q : Value → Shared → Prop} (I : Inv X pins σ H s) (hg : Gl X x) (hm : X.mg x = none) (hv : bootBuiltins x = some u) (h : Q u s)
    (hn : x ≠ "__name__" := by decide) (hd : (x == ("__debug__" : Str)) = false := by decide) : wpAny (model X.prog X.w) X.A (eval (.Name x pos) X.env) Q E s := by
  obtain ⟨mb, h1, h2⟩ := I.mod.blt
  exact Calls.Name_function_global I.ok.kind hg (Calls.loadGlobal_builtin (by rw [I.ok.glob]; exact I.mod.glob.keeps I.bk) hm (by rw [I.ok.blt]; exact h1.keeps I.bk) ((h2 x hn).trans hv) h) hd
theorem pe_glob {x : Str} {v : V} {u : Value} {pos : Pos} (hg : Gl X x) (hm : X.mg x = some u) (r : RelV v u) (hd : (x == ("__debug__" : Str)) = false := by decide) : PE X (.Name x pos) (tC v) :=
  fun _ _ _ H _ I h => ld_glob I hg hm ⟨v, H, I, r, h⟩ hd
theorem pe_bltn {x : Str} {v : V} {u : Value} {pos : Pos} (hg : Gl X x) (hm : X.mg x = none) (hv : bootBuiltins x = some u) (r : RelV v u) (hn : x ≠ "__name__" := by decide) (hd : (x == ("__debug__" : Str)) = false := by decide) : PE X (.Name x pos) (tC v) :=
  fun _ _ _ H _ I h => ld_blt I hg hm hv ⟨v, H, I, r, h⟩ hn hd

variable {a b : Expr} {ta tb : TE} {pos : Pos}
noncomputable def PC (X : Cx) (op : CmpOp) (a b : Expr) (t : TE) : Prop :=
  ∀ (pins : List (Addr × Obj)) (s : Shared) (σ : St) (H : Hp) (Q : VK), Inv X pins σ H s → t σ H Q →
    wpAny (model X.prog X.w) X.A (eval a X.env) (fun v s₁ => wpAny (model X.prog X.w) X.A (eval b X.env) (fun u s₂ => wpAny (model X.prog X.w) X.A (compareOp op v u) (EP X pins σ Q) X.xe s₂) X.xe s₁) X.xe s
noncomputable def tB (t : TE) : TT := fun σ H Q => t σ H fun x H1 => ∃ c, x = .bl c ∧ Q c H1
theorem pe_cmp {op : CmpOp} {t : TE} (h : PC X op a b t) (h1 : behindInMarks op b = false := by first | exact nobehind _ (by decide) (by decide) | rfl) : PE X (.Compare a [op] [b] pos) t := fun pins s σ H Q I hw => wpAny_Compare1 (h pins s σ H Q I hw) h1
theorem pt_cmp {op : CmpOp} {t : TE} (h : PC X op a b t) (h1 : behindInMarks op b = false := by first | exact nobehind _ (by decide) (by decide) | rfl) : PT X (.Compare a [op] [b] pos) (tB t) := by
  intro pins s σ H Q I hw
  refine wpAny_isTrue_Compare1 (thn (h pins s σ H _ I hw) fun v s1 h1 => thn h1 fun u s2 h2 => thn h2 fun c s3 ⟨x, H1, I1, r1, q1⟩ => ?_) h1
  obtain ⟨d, rfl, q⟩ := q1
  cases r1
  exact wpAny_truthy_bool ⟨H1, I1, q⟩
theorem pt_val {e : Expr} {t : TE} (h : PE X e t) (he : ∀ whole, isTrue e X.env whole = (do let v ← whole; standAt e.pos; holding [v] (truthy v)) := by intro _; rfl) : PT X e (tB t) := by
  intro pins s σ H Q I hw
  refine isTrue_plain (thn (h pins s σ H _ I hw) fun v s1 ⟨x, H1, I1, r1, q1⟩ => ?_) (he _)
  obtain ⟨d, rfl, q⟩ := q1
  cases r1
  exact wpAny_truthy_bool ⟨H1, I1, q⟩

variable {tA tB' : TT} {rest : List Expr}
noncomputable def tAnd (t u : TT) : TT := fun σ H Q => t σ H fun c H1 => if c = true then u σ H1 Q else Q false H1
noncomputable def tOr (t u : TT) : TT := fun σ H Q => t σ H fun c H1 => if c = true then Q true H1 else u σ H1 Q
noncomputable def tNot (t : TT) : TT := fun σ H Q => t σ H fun c H1 => Q (!c) H1
theorem pw_and1 (ha : PT X a tA) : PW X (.BoolOp .And [a] pos) tA := by
  intro wh pins s σ H Q I h
  refine isTrue_and (thn (ha pins s σ H Q I h) fun c s1 e => ?_)
  cases c with
  | true => exact isTrue_and_nil e
  | false => exact e
theorem pw_or1 (ha : PT X a tA) : PW X (.BoolOp .Or [a] pos) tA := by
  intro wh pins s σ H Q I h
  refine isTrue_or (thn (ha pins s σ H Q I h) fun c s1 e => ?_)
  cases c with
  | false => exact isTrue_or_nil e
  | true => exact e
theorem pw_and (ha : PT X a tA) (hb : PW X (.BoolOp .And (b :: rest) pos) tB') : PW X (.BoolOp .And (a :: b :: rest) pos) (tAnd tA tB') := by
  intro wh pins s σ H Q I h
  refine isTrue_and (thn (ha pins s σ H _ I h) fun c s1 ⟨H1, I1, q1⟩ => ?_)
  cases c with
  | true => exact hb wh pins s1 σ H1 Q I1 q1
  | false => exact ⟨H1, I1, q1⟩
theorem pw_or (ha : PT X a tA) (hb : PW X (.BoolOp .Or (b :: rest) pos) tB') : PW X (.BoolOp .Or (a :: b :: rest) pos) (tOr tA tB') := by
  intro wh pins s σ H Q I h
  refine isTrue_or (thn (ha pins s σ H _ I h) fun c s1 ⟨H1, I1, q1⟩ => ?_)
  cases c with
  | true => exact ⟨H1, I1, q1⟩
  | false => exact hb wh pins s1 σ H1 Q I1 q1
theorem pt_not (ha : PT X a tA) : PT X (.UnaryOp .Not a pos) (tNot tA) := by
  intro pins s σ H Q I h
  exact isTrue_not (ha pins s σ H (fun c H1 => Q (!c) H1) I h)
noncomputable def tAndV (ta tb : TE) : TE := fun σ H Q => ta σ H fun x H1 => ∃ c, x = .bl c ∧ if c = true then tb σ H1 Q else Q (.bl false) H1
noncomputable def tOrV (ta tb : TE) : TE := fun σ H Q => ta σ H fun x H1 => ∃ c, x = .bl c ∧ if c = true then Q (.bl true) H1 else tb σ H1 Q
noncomputable def tNotV (ta : TE) : TE := fun σ H Q => ta σ H fun x H1 => ∃ c, x = .bl c ∧ Q (.bl (!c)) H1
theorem pe_one {op} {t : TE} (h : PE X a t) : PE X (.BoolOp op [a] pos) t := fun pins s σ H Q I hw => BoolOp_one (h pins s σ H Q I hw)
theorem pe_and (ha : PE X a ta) (hb : PE X (.BoolOp .And (b :: rest) pos) tb) : PE X (.BoolOp .And (a :: b :: rest) pos) (tAndV ta tb) := by
  intro pins s σ H Q I h
  refine BoolOp_and (thn (ha pins s σ H _ I h) fun v s1 ⟨x, H1, I1, r1, q1⟩ => ?_)
  obtain ⟨c, rfl, q1⟩ := q1
  cases r1
  refine wpAny_truthy_bool ?_
  cases c with
  | true => exact hb pins s1 σ H1 Q I1 q1
  | false => exact ⟨.bl false, H1, I1, rfl, q1⟩
theorem pe_or (ha : PE X a ta) (hb : PE X (.BoolOp .Or (b :: rest) pos) tb) : PE X (.BoolOp .Or (a :: b :: rest) pos) (tOrV ta tb) := by
  intro pins s σ H Q I h
  refine BoolOp_or (thn (ha pins s σ H _ I h) fun v s1 ⟨x, H1, I1, r1, q1⟩ => ?_)
  obtain ⟨c, rfl, q1⟩ := q1
  cases r1
  refine wpAny_truthy_bool ?_
  cases c with
  | false => exact hb pins s1 σ H1 Q I1 q1
  | true => exact ⟨.bl true, H1, I1, rfl, q1⟩
theorem pe_not (ha : PE X a ta) : PE X (.UnaryOp .Not a pos) (tNotV ta) := by
  intro pins s σ H Q I h
  refine UnaryOp_ (thn (ha pins s σ H _ I h) fun v s1 ⟨x, H1, I1, r1, q1⟩ => ?_)
  obtain ⟨c, rfl, q1⟩ := q1
  cases r1
  exact not_of (wpAny_truthy_bool ⟨.bl (!c), H1, I1, rfl, q1⟩)
noncomputable def tIf (t : TT) (ta tb : TE) : TE := fun σ H Q => t σ H fun c H1 => if c = true then ta σ H1 Q else tb σ H1 Q
theorem pe_ifExp {c : Expr} (hc : PT X c tA) (ha : PE X a ta) (hb : PE X b tb) : PE X (.IfExp c a b pos) (tIf tA ta tb) := by
  intro pins s σ H Q I h
  refine wpAny_IfExp (thn (hc pins s σ H _ I h) fun d s1 ⟨H1, I1, q1⟩ => ?_)
  cases d with
  | true => exact ha pins s1 σ H1 Q I1 q1
  | false => exact hb pins s1 σ H1 Q I1 q1
end
end L2

namespace L2
open PySem PySem.Spec PyProof.Rows

noncomputable def SqL (K : PySem.W.Frag) (H : Hp) (a : Addr) (xs : List V) : Prop :=
  Rd H a (.lst xs) ∨
    ∃ (o : Obj) (its : Array Value) (n : Nat), K.lookup a = some o ∧ o.cls = .type "list" ∧ o.dict = none ∧ o.data = .seq its n ∧ its.size ≤ sizeLine ∧ Vals xs its.toList
noncomputable def SqT (K : PySem.W.Frag) (H : Hp) (a : Addr) (xs : List V) : Prop :=
  Rd H a (.tup xs) ∨
    ∃ (o : Obj) (its : Array Value) (n : Nat), K.lookup a = some o ∧ o.cls = .type "tuple" ∧ o.data = .seq its n ∧ its.size ≤ sizeLine ∧ Vals xs its.toList
noncomputable def absV : Value → Option V
  | .none => some .non
  | .bool b => some (.bl b)
  | .int i _ => some (.int i)
  | .str x _ => some (.str x)
  | .bytes b _ => some (.byt b)
  | .float b _ => some (.flt b)
  | .ref a => some (.ref a)
  | .type n => some (.ty n)
  | _ => none
theorem RelV.abs {x : V} {u : Value} (r : RelV x u) : absV u = some x := by
  cases x with
  | non => cases r; rfl
  | bl _ => cases r; rfl
  | int _ => obtain ⟨t, rfl⟩ := r; rfl
  | str _ => obtain ⟨t, rfl⟩ := r; rfl
  | byt _ => obtain ⟨t, rfl⟩ := r; rfl
  | flt _ => obtain ⟨t, rfl⟩ := r; rfl
  | ref _ => cases r; rfl
  | ty _ => cases r; rfl
theorem RelV.inj {x y : V} {u : Value} (r : RelV x u) (q : RelV y u) : x = y := Option.some.inj (r.abs.symm.trans q.abs)
theorem Vals.inj : ∀ {xs ys : List V} {us : List Value}, Vals xs us → Vals ys us → xs = ys
  | _, _, _, .nil, .nil => rfl
  | _, _, _, .cons r t, .cons r' t' => by rw [r.inj r', Vals.inj t t']
section
variable {X : Cx} {pins : List (Addr × Obj)} {σ : St} {H : Hp} {s : Shared} {a : Addr} {xs ys : List V}
theorem SqL.of {K : PySem.W.Frag} (h : H a = some (.lst xs)) : SqL K H a xs := .inl (.inl h)
theorem SqT.of {K : PySem.W.Frag} (h : H a = some (.tup xs)) : SqT K H a xs := .inl (.inl h)
theorem Inv.list (I : Inv X pins σ H s) (h : SqL X.K H a xs) : ∃ its : List Value, Vals xs its ∧ PlainL s.heap a its.toArray ∧ xs.length ≤ sizeLine := by
  rcases h with h | ⟨o, its, n, hk, hc, hd, hs, hz, r⟩
  · obtain ⟨z, its, n, r, e⟩ := h.ok I.hok
    exact ⟨its, r, ⟨_, n, e, rfl, rfl, rfl⟩, z⟩
  · refine ⟨its.toList, r, ⟨o, n, I.kIn a o hk, hc, hd, by simpa using hs⟩, ?_⟩
    have e := r.length
    simp only [Array.length_toList] at e
    (first | lia | omega)
theorem Inv.tuple (I : Inv X pins σ H s) (h : SqT X.K H a xs) : ∃ its : List Value, Vals xs its ∧ IsTup s.heap a its.toArray ∧ xs.length ≤ sizeLine := by
  rcases h with h | ⟨o, its, n, hk, hc, hs, hz, r⟩
  · obtain ⟨z, its, r, p⟩ := h.ok I.hok
    exact ⟨its, r, p, z⟩
  · refine ⟨its.toList, r, ⟨o, I.kIn a o hk, hc, n, by simpa using hs⟩, ?_⟩
    have e := r.length
    simp only [Array.length_toList] at e
    (first | lia | omega)
theorem Inv.list_inj (I : Inv X pins σ H s) (h : SqL X.K H a xs) (h' : SqL X.K H a ys) : xs = ys := by
  obtain ⟨its, r, ⟨o, n, e, _, _, d⟩, _⟩ := I.list h
  obtain ⟨its', r', ⟨o', n', e', _, _, d'⟩, _⟩ := I.list h'
  rw [e] at e'; cases e'
  rw [d] at d'
  injection d' with d1 _
  have : its = its' := by simpa using congrArg Array.toList d1
  subst this
  exact r.inj r'
theorem Inv.tuple_inj (I : Inv X pins σ H s) (h : SqT X.K H a xs) (h' : SqT X.K H a ys) : xs = ys := by
  obtain ⟨its, r, ⟨o, e, _, n, d⟩, _⟩ := I.tuple h
  obtain ⟨its', r', ⟨o', e', _, n', d'⟩, _⟩ := I.tuple h'
  rw [e] at e'; cases e'
  rw [d] at d'
  injection d' with d1 _
  have : its = its' := by simpa using congrArg Array.toList d1
  subst this
  exact r.inj r'
end

noncomputable abbrev Cx.wish (X : Cx) (E : Value → Shared → Prop) : Cx := { X with xe := E }
noncomputable abbrev Cx.nox (X : Cx) : Cx := X.wish fun _ _ => False
theorem Cx.Ok.wish {X : Cx} (ok : X.Ok) (E : Value → Shared → Prop) : (X.wish E).Ok :=
  ⟨ok.mod, ok.kind, ok.glob, ok.blt, ok.above, ok.inj, ok.has, ok.cab, ok.hd, ok.frames, ok.stk, ok.exf, ok.bs, ok.bsz, ok.noex, ok.exfs, ok.funs, ok.frf⟩
theorem Cx.Ok.unwish {X : Cx} {E : Value → Shared → Prop} (ok : (X.wish E).Ok) : X.Ok :=
  ⟨ok.mod, ok.kind, ok.glob, ok.blt, ok.above, ok.inj, ok.has, ok.cab, ok.hd, ok.frames, ok.stk, ok.exf, ok.bs, ok.bsz, ok.noex, ok.exfs, ok.funs, ok.frf⟩
section
variable {X : Cx} {pins : List (Addr × Obj)} {σ : St} {H : Hp} {s : Shared} {E : Value → Shared → Prop}
theorem Inv.wish (I : Inv X pins σ H s) (E : Value → Shared → Prop) : Inv (X.wish E) pins σ H s := ⟨I.ok.wish E, I.os, I.bare, I.base, I.loc, I.cell, I.free, I.freeC, I.pin, I.hok, I.len⟩
theorem Inv.unwish (I : Inv (X.wish E) pins σ H s) : Inv X pins σ H s := ⟨I.ok.unwish, I.os, I.bare, I.base, I.loc, I.cell, I.free, I.freeC, I.pin, I.hok, I.len⟩
theorem SP.unwish {D : Ends} {f : Flow} {s' : Shared} (h : SP (X.wish E) pins D f s') : SP X pins D f s' := by
  cases f with
  | next => obtain ⟨σ', H', I, q⟩ := h; exact ⟨σ', H', I.unwish, q⟩
  | brk => obtain ⟨σ', H', I, q⟩ := h; exact ⟨σ', H', I.unwish, q⟩
  | cont => obtain ⟨σ', H', I, q⟩ := h; exact ⟨σ', H', I.unwish, q⟩
  | ret u => obtain ⟨v, σ', H', I, r, q⟩ := h; exact ⟨v, σ', H', I.unwish, r, q⟩
theorem PSs.nox {st : List Stmt} {t : TS} (h : PSs X.nox st t) : PSs X st t := fun pins s σ H D I hw =>
  wpAny_mono (h pins s σ H D (I.wish _) hw) (fun _ _ q => q.unwish) fun _ _ z => False.elim z
end

section
variable {X : Cx} {st : Stmt} {rest : List Stmt} {t u : TS} {e : Expr} {te : TE} {pos : Pos}
noncomputable def tNext : TS := fun D σ H => D.nx σ H
noncomputable def tSeq (t u : TS) : TS := fun D σ H => t { D with nx := u D } σ H
theorem pss_nil : PSs X [] tNext := fun _ _ σ H _ I h => wpAny_execs_nil ⟨σ, H, I, h⟩
theorem pss_cons (h1 : PS X st t) (h2 : PSs X rest u) : PSs X (st :: rest) (tSeq t u) := by
  intro pins s σ H D I h
  refine wpAny_execs_cons (thn (h1 pins s σ H { D with nx := u D } I h) fun f s1 q => ?_)
  cases f with
  | next =>
    obtain ⟨σ', H', I', q⟩ := q
    exact h2 pins s1 σ' H' D I' q
  | ret v => exact q
  | brk => exact q
  | cont => exact q
theorem pss_one (h1 : PS X st t) : PSs X [st] t := by
  intro pins s σ H D I h
  refine wpAny_execs_cons (thn (h1 pins s σ H D I h) fun f s1 q => ?_)
  cases f with
  | next => exact wpAny_execs_nil q
  | ret v => exact q
  | brk => exact q
  | cont => exact q
theorem Inv.quiet {pins : List (Addr × Obj)} {σ : St} {H : Hp} {s : Shared} (I : Inv X pins σ H s) : interactive X.env = false := by simp [interactive, I.ok.kind]
noncomputable def tDrop (te : TE) : TS := fun D σ H => te σ H fun _ H1 => D.nx σ H1
theorem ps_expr (he : PE X e te) (hs : swapsWith e none pos.line X.env = pure false := by rfl) : PS X (.Expr e pos) (tDrop te) := by
  intro pins s σ H D I h
  exact wpAny_Expr_any (thn (he pins s σ H _ I h) fun v s1 ⟨x, H1, I1, r1, q1⟩ => ⟨σ, H1, I1, q1⟩) I.quiet hs
noncomputable def tRet (te : TE) : TS := fun D σ H => te σ H D.rt
theorem ps_ret (he : PE X e te) : PS X (.Return (some e) pos) (tRet te) := by
  intro pins s σ H D I h
  exact wpAny_Return_some (thn (he pins s σ H _ I h) fun v s1 ⟨x, H1, I1, r1, q1⟩ => ⟨x, σ, H1, I1, r1, q1⟩)
noncomputable def tIfS (c : TT) (t u : TS) : TS := fun D σ H => c σ H fun b H1 => if b = true then t D σ H1 else u D σ H1
theorem ps_if {c : Expr} {a b : List Stmt} {tc : TT} (hc : PT X c tc) (ha : PSs X a t) (hb : PSs X b u) : PS X (.If c a b pos) (tIfS tc t u) := by
  intro pins s σ H D I h
  refine wpAny_If (thn (hc pins s σ H _ I h) fun d s1 ⟨H1, I1, q1⟩ => ?_)
  cases d with
  | true => exact ha pins s1 σ H1 D I1 q1
  | false => exact hb pins s1 σ H1 D I1 q1
noncomputable def tNever : TS := fun _ _ _ => False
theorem pss_never {sts : List Stmt} : PSs X sts tNever := fun _ _ _ _ _ _ h => h.elim
end

noncomputable abbrev TG := V → St → Hp → (St → Hp → Prop) → Prop
noncomputable abbrev TGs := List V → St → Hp → (St → Hp → Prop) → Prop
noncomputable def PG (X : Cx) (target : Expr) (t : TG) : Prop :=
  ∀ (pins : List (Addr × Obj)) (s : Shared) (σ : St) (H : Hp) (v : V) (u : Value) (Q : St → Hp → Prop), Inv X pins σ H s → RelV v u → t v σ H Q →
    wpAny (model X.prog X.w) X.A (assign target X.env u) (fun _ s' => ∃ σ' H', Inv X pins σ' H' s' ∧ Q σ' H') X.xe s
noncomputable def PGs (X : Cx) (ts : List Expr) (t : TGs) : Prop :=
  ∀ (pins : List (Addr × Obj)) (s : Shared) (σ : St) (H : Hp) (vs : List V) (us : List Value) (Q : St → Hp → Prop), Inv X pins σ H s → Vals vs us → t vs σ H Q →
    wpAny (model X.prog X.w) X.A (assignInOrder ((assignEach ts X.env).map (·.2)) us) (fun _ s' => ∃ σ' H', Inv X pins σ' H' s' ∧ Q σ' H') X.xe s
noncomputable abbrev TSet := V → V → V → Hp → (Hp → Prop) → Prop
noncomputable def PSet (X : Cx) (t : TSet) : Prop :=
  ∀ (pins : List (Addr × Obj)) (s : Shared) (σ : St) (H : Hp) (o i v : V) (ov iv u : Value) (Q : Hp → Prop), Inv X pins σ H s → RelV o ov → RelV i iv → RelV v u → t o i v H Q →
    wpAny (model X.prog X.w) X.A (setItem ov iv u) (fun _ s' => ∃ H', Inv X pins σ H' s' ∧ Q H') X.xe s
noncomputable abbrev TIp := V → V → Hp → VK → Prop
noncomputable def PIp (X : Cx) (op : Operator) (t : TIp) : Prop :=
  ∀ (pins : List (Addr × Obj)) (s : Shared) (σ : St) (H : Hp) (x y : V) (v u : Value) (Q : VK), Inv X pins σ H s → RelV x v → RelV y u → t x y H Q →
    wpAny (model X.prog X.w) X.A (inplaceOp op v u) (EP X pins σ Q) X.xe s
section
variable {X : Cx} {pos : Pos}
noncomputable def gName (i : Nat) : TG := fun v σ H Q => Q (σ.set i (some v)) H
theorem pg_name {i : Nat} {x : Str} (hN : X.N.Nodup) (hi : X.N[i]? = some x) (hx : Loc X.env.scope x) (hf : X.fn x = true ∨ X.env.scope.names.lookup x = some .local := by first | exact .inl rfl | exact .inr rfl | assumption) : PG X (.Name x pos) (gName i) := by
  intro pins s σ H v u Q I r h
  exact wpAny_assign_Name (store_ok I hN hi hx r (fun s' I' => ⟨_, H, I', h⟩) hf)
noncomputable def gNil : TGs := fun vs σ H Q => vs = [] ∧ Q σ H
noncomputable def gCons (t : TG) (u : TGs) : TGs := fun vs σ H Q => ∃ v r, vs = v :: r ∧ t v σ H fun σ' H' => u r σ' H' Q
theorem pgs_nil : PGs X [] gNil := by
  intro pins s σ H vs us Q I r h
  obtain ⟨e, h⟩ := h
  subst e
  cases r
  exact assignInOrder_nil ⟨σ, H, I, h⟩
theorem pgs_cons {e : Expr} {es : List Expr} {t : TG} {u : TGs} (h1 : PG X e t) (h2 : PGs X es u)
    (hs : (assignEach (e :: es) X.env).map (·.2) = assign e X.env :: (assignEach es X.env).map (·.2) := by rfl) : PGs X (e :: es) (gCons t u) := by
  intro pins s σ H vs us Q I r h
  obtain ⟨v, vr, e1, h⟩ := h
  subst e1
  cases r with
  | cons r rr =>
    rw [hs]
    refine assignInOrder_cons (thn (h1 pins s σ H _ _ _ I r h) fun _ s1 ⟨σ1, H1, I1, q1⟩ => ?_)
    exact h2 pins s1 σ1 H1 _ _ Q I1 rr q1
noncomputable def gTup (K : PySem.W.Frag) (n : Nat) (t : TGs) : TG := fun v σ H Q => ∃ a xs, v = .ref a ∧ SqT K H a xs ∧ xs.length = n ∧ t xs σ H Q
theorem pg_tup {es : List Expr} {k : Nat} {t : TGs} {n : Nat} (hc : X.calm = true) (h : PGs X es t)
    (hn : (assignEach es X.env).length = n := by rfl) (hst : (assignEach es X.env).findIdx? (·.1) = none := by rfl) : PG X (.Tuple es k pos) (gTup X.K n t) := by
  intro pins s σ H v u Q I r hw
  obtain ⟨a, xs, e1, hq, hl, hw⟩ := hw
  subst e1
  cases r
  obtain ⟨its, rv, ht, hz⟩ := I.tuple hq
  refine assign_Tuple_tuple (I.ok.hd hc) ht (by simp [hn, ← hl, rv.length]) hst fun h' hx => ?_
  have I1 : Inv X pins σ H { s with heap := h' } := I.kept (t' := s.toks) fun b o e => hx b o (Nat.ne_of_lt (Heap.lt_size e)) e
  exact h pins _ σ H xs _ Q I1 (by simpa using rv) hw
noncomputable def gSub (to ti : TE) (t : TSet) : TG := fun v σ H Q => to σ H fun o H1 => ti σ H1 fun i H2 => t o i v H2 fun H3 => Q σ H3
theorem pg_sub {o i : Expr} {to ti : TE} {t : TSet} (ho : PE X o to) (hi : PE X i ti) (hs : PSet X t)
    (ha : ∀ v, assign (.Subscript o i pos) X.env v = (do
      let ov ← holding [v] (eval o X.env)
      let iv ← holding [v, ov] (eval i X.env)
      standAt pos
      holding [v, ov, iv] (setItem ov iv v)
      release [v, ov, iv] []) := by intro _; rfl) : PG X (.Subscript o i pos) (gSub to ti t) := by
  intro pins s σ H v u Q I r h
  rw [ha]
  refine wpAny_bind (wpAny_holding (thn (ho pins s σ H _ I h) fun ov s1 ⟨x, H1, I1, r1, q1⟩ => ?_))
  refine wpAny_bind (wpAny_holding (thn (hi pins s1 σ H1 _ I1 q1) fun iv s2 ⟨y, H2, I2, r2, q2⟩ => ?_))
  refine wpAny_bind (wpAny_standAt (wpAny_bind (wpAny_holding (thn (hs pins s2 σ H2 x y v ov iv u _ I2 r1 r2 r q2) fun _ s3 ⟨H3, I3, q3⟩ => ?_))))
  exact wpAny_release ⟨σ, H3, I3, q3⟩
noncomputable def tAsg (te : TE) (g : TG) : TS := fun D σ H => te σ H fun x H1 => g x σ H1 D.nx
theorem ps_asg {tg e : Expr} {te : TE} {g : TG} (he : PE X e te) (hg : PG X tg g) (hs : swapsWithSole [tg] e pos.line X.env = pure false := by rfl) (hw : swappedStores [tg] e X.env = pure none := by rfl)
    (h1 : (assignEach [tg] X.env).map (·.2) = [assign tg X.env] := by rfl) : PS X (.Assign [tg] e pos) (tAsg te g) := by
  intro pins s σ H D I h
  refine wpAny_Assign_stores (thn (he pins s σ H _ I h) fun v s1 ⟨x, H1, I1, r1, q1⟩ => ?_) hs hw
  rw [h1]
  exact thn (hg pins s1 σ H1 x v _ I1 r1 q1) fun _ s2 q => q
theorem ps_set {i : Nat} {x : Str} {e : Expr} {te : TE} {pos' : Pos} (hN : X.N.Nodup) (hi : X.N[i]? = some x) (hx : Loc X.env.scope x) (he : PE X e te) (hs : swapsWith e (some (.Name x pos')) pos.line X.env = pure false := by rfl) (hf : X.fn x = true ∨ X.env.scope.names.lookup x = some .local := by first | exact .inl rfl | exact .inr rfl | assumption) :
    PS X (.Assign [.Name x pos'] e pos) (tAsg te (gName i)) := by
  intro pins s σ H D I h
  refine wpAny_Assign_Name (thn (he pins s σ H _ I h) fun v s1 ⟨y, H1, I1, r1, q1⟩ => ?_) hs
  exact store_ok I1 hN hi hx r1 (fun s2 I2 => ⟨_, H1, I2, q1⟩) hf
noncomputable def tAug (i : Nat) (te : TE) (ti : TIp) : TS := fun D σ H => ∃ x, σ[i]? = some (some x) ∧ te σ H fun y H1 => ti x y H1 fun z H2 => D.nx (σ.set i (some z)) H2
theorem ps_aug {i : Nat} {x : Str} {e : Expr} {te : TE} {op : Operator} {ti : TIp} {pos' : Pos} (hN : X.N.Nodup) (hi : X.N[i]? = some x) (hx : Loc X.env.scope x) (he : PE X e te) (ho : PIp X op ti) (hf : X.fn x = true ∨ X.env.scope.names.lookup x = some .local := by first | exact .inl rfl | exact .inr rfl | assumption) :
    PS X (.AugAssign (.Name x pos') op e pos) (tAug i te ti) := by
  intro pins s σ H D I h
  obtain ⟨v, e1, h⟩ := h
  obtain ⟨m, hn, hl⟩ := I.loc
  have vis : Vis X.env.scope x := by rcases hx with k | k; exact .inl k; exact .inr (.inl k)
  obtain ⟨u, r, l⟩ := hl i x v hi e1 vis
  refine wpAny_AugAssign_Name ?_
  have go : wpAny (model X.prog X.w) X.A (eval e X.env) (fun w s₂ => wpAny (model X.prog X.w) X.A (inplaceOp op u w) (fun r s₃ => wpAny (model X.prog X.w) X.A (storeName X.env x r) (fun _ => SP X pins D .next) X.xe s₃) X.xe s₂) X.xe s := by
    refine thn (he pins s σ H _ I h) fun w s1 ⟨y, H1, I1, r1, q1⟩ => ?_
    refine thn (ho pins s1 σ H1 v y u w _ I1 r r1 q1) fun z s2 ⟨zv, H2, I2, r2, q2⟩ => ?_
    exact store_ok I2 hN hi hx r2 (fun s3 I3 => ⟨_, H2, I3, q2⟩) hf
  rcases l with ⟨hk, hm⟩ | ⟨hk, c, hc, hcell⟩
  · exact wpAny_loadName_local I.ok.kind hk hn hm go
  · rcases hk with hk | hk
    · exact wpAny_loadName_cell I.ok.kind hk hc hcell go
    · rcases hx with k | k
      · have : X.env.scope.names.lookup x = some .free := hk
        rw [k] at this; cases this
      · have : X.env.scope.names.lookup x = some .free := hk
        rw [k] at this; cases this
noncomputable def ipI (f : Int → Int → Int) : TIp := fun x y H Q => ∃ i j, x = .int i ∧ y = .int j ∧ Q (.int (f i j)) H
theorem ip_add : PIp X .Add (ipI fun i j => i + j) := by
  intro pins s σ H x y v u Q I r1 r2 h
  obtain ⟨i, j, e1, e2, q⟩ := h
  subst e1; subst e2
  obtain ⟨t, rfl⟩ := r1
  obtain ⟨t', rfl⟩ := r2
  exact iadd_int ⟨.int _, H, I.tok _, ⟨_, rfl⟩, q⟩
end

section
variable {X : Cx} {pos : Pos}
noncomputable def tWhile (c : TT) (tb : TS) : TS := fun D σ H => ∃ W : Nat → St → Hp → Prop, (∃ m, W m σ H) ∧ ∀ m σ H, W m σ H →
  c σ H fun b H1 => if b = true then ∃ N : St → Hp → Prop, (∀ σ' H', N σ' H' → ∃ m', m' < m ∧ W m' σ' H') ∧ tb { D with nx := N, ct := N, bk := D.nx } σ H1 else D.nx σ H1
theorem ps_while {c : Expr} {body : List Stmt} {tc : TT} {tb : TS} (hp : PassesOwn (model X.prog X.w) X.A X.env X.xe) (hc : PT X c tc) (hb : PSs X body tb) : PS X (.While c body [] pos) (tWhile tc tb) := by
  intro pins s σ H D I h
  obtain ⟨W, ⟨m0, w0⟩, turn⟩ := h
  refine wpAny_While (codeAny_whileLoop (fun n s' => ∃ σ' H', Inv X pins σ' H' s' ∧ W n σ' H') ?_ m0 ⟨σ, H, I, w0⟩)
  rintro n s1 ⟨σ1, H1, I1, w1⟩
  refine wpAny_passesOwn hp (thn (hc pins s1 σ1 H1 _ I1 (turn n σ1 H1 w1)) fun b s2 ⟨H2, I2, q2⟩ => ?_)
  cases b with
  | true =>
    obtain ⟨N, hN, q2⟩ := q2
    rw [if_pos rfl]
    refine wpAny_passesOwn hp (thn (hb pins s2 σ1 H2 _ I2 q2) fun f s3 q3 => ?_)
    cases f with
    | next =>
      obtain ⟨σ3, H3, I3, n3⟩ := q3
      obtain ⟨m', hm, w3⟩ := hN σ3 H3 n3
      exact ⟨m', hm, σ3, H3, I3, w3⟩
    | cont =>
      obtain ⟨σ3, H3, I3, n3⟩ := q3
      obtain ⟨m', hm, w3⟩ := hN σ3 H3 n3
      exact ⟨m', hm, σ3, H3, I3, w3⟩
    | brk => exact q3
    | ret v => exact q3
  | false =>
    rw [if_neg Bool.false_ne_true]
    exact wpAny_execs_nil ⟨σ1, H2, I2, q2⟩
end

structure It where
  go : Nat → Hp → Prop
  yld : Nat → Hp → V → Hp → Prop
  stop : Nat → Hp → Prop
noncomputable def FpOk (X : Cx) (pins : List (Addr × Obj)) (H : Hp) (b : Addr) : Prop :=
  H b = none ∧ b ≠ X.env.locals ∧ b ∉ X.fs ∧ (b ∈ X.ex ∨ X.s₀.heap.objs.size ≤ b) ∧ (∀ x c, X.env.cells.lookup x = some c → c ≠ b) ∧ ∀ p ∈ X.pn ++ pins, p.1 ≠ b
theorem Inv.fpOk {X : Cx} {pins : List (Addr × Obj)} {σ : St} {H H' : Hp} {s : Shared} {b : Addr} (I : Inv X pins σ H s) (hb : s.heap.objs.size ≤ b) (hn : H' b = none) : FpOk X pins H' b := by
  refine ⟨hn, Nat.ne_of_gt (Nat.lt_of_lt_of_le I.lt hb), I.nofs hb, .inr (Nat.le_trans I.sz hb), fun x c e z => ?_, fun p hp z => ?_⟩
  · obtain ⟨v, q⟩ := I.cell x c e
    exact absurd (Nat.lt_of_lt_of_le q.lt (by rw [z]; exact hb)) (Nat.lt_irrefl _)
  · exact absurd (Nat.lt_of_lt_of_le (Heap.lt_size (I.pin p hp).1) (by rw [z]; exact hb)) (Nat.lt_irrefl _)
structure Turn (P : Program) (w : World) (K : PySem.W.Frag) (tg : Expr) (J : It) (fp : List Addr) (it : Addr) (tn : Nat → Heap → Prop) : Prop where
  mem : it ∈ fp
  obj : ∀ i h, tn i h → ∀ b ∈ fp, ∃ o, h.get? b = some o ∧ ∀ v, o.data ≠ .cell v
  keep : ∀ i h h', tn i h → (∀ b ∈ fp, ∀ o, h.get? b = some o → h'.get? b = some o) → tn i h'
  item : ∀ (X : Cx), X.prog = P → X.w = w → X.K = K → X.calm = true → ∀ (i : Nat) (pins : List (Addr × Obj)) (s : Shared) (σ : St) (H : Hp) (E : Value → Shared → Prop), Inv X pins σ H s → (∀ b ∈ fp, FpOk X pins H b) → tn i s.heap → J.go i H →
    wpAny (model P w) X.A (pyNext (.ref it)) (fun r s1 => ∃ u, r = some u ∧
      wpAny (model P w) X.A (letOwnedTupleGo tg (.ref it) u) (fun _ s2 => ∃ x H', Inv X pins σ H' s2 ∧ RelV x u ∧ J.yld i H x H' ∧ tn (i + 1) s2.heap ∧ ∀ b ∈ fp, H' b = none) E s1) E s
  done : ∀ (X : Cx), X.prog = P → X.w = w → X.K = K → X.calm = true → ∀ (i : Nat) (pins : List (Addr × Obj)) (s : Shared) (σ : St) (H : Hp) (E : Value → Shared → Prop), Inv X pins σ H s → (∀ b ∈ fp, FpOk X pins H b) → tn i s.heap → J.stop i H →
    wpAny (model P w) X.A (pyNext (.ref it)) (fun r s1 => r = none ∧ Inv X pins σ H s1) E s
  self : ∀ (A : Around) (i : Nat) (s : Shared) (Q : Value → Shared → Prop) (E : Value → Shared → Prop), tn i s.heap → Q (.ref it) s → wpAny (model P w) A (pyIter (.ref it)) Q E s
noncomputable abbrev TI := St → Hp → (It → Hp → Prop) → Prop
noncomputable def PIE (X : Cx) (pins : List (Addr × Obj)) (σ : St) (tg : Expr) (R : It → Hp → Prop) (itv : Value) (s2 : Shared) : Prop :=
  ∃ (it : Addr) (fp : List Addr) (tn : Nat → Heap → Prop) (J : It) (H' : Hp), itv = .ref it ∧ Inv X pins σ H' s2 ∧ Turn X.prog X.w X.K tg J fp it tn ∧ tn 0 s2.heap ∧ (∀ b ∈ fp, FpOk X pins H' b) ∧ R J H'
noncomputable def PI (X : Cx) (tg iter : Expr) (wi : TI) : Prop :=
  ∀ (pins : List (Addr × Obj)) (s : Shared) (σ : St) (H : Hp) (R : It → Hp → Prop), Inv X pins σ H s → wi σ H R →
    wpAny (model X.prog X.w) X.A (eval iter X.env) (fun v s1 => wpAny (model X.prog X.w) X.A (pyIter v) (PIE X pins σ tg R) X.xe s1) X.xe s

theorem go_of {M : Model} {A : Around} {E : Value → Shared → Prop} {s : Shared} {tg : Expr} {it : Addr} {u : Value} {o : Obj} {n : String} {vs : Array Value} {Q : Unit → Shared → Prop} (ho : s.heap.get? it = some o) (hc : o.cls = .type n) (hd : o.data = .fields vs)
    (hn : ["enumerate", "zip", "dict_itemiterator", "dict_reverseitemiterator", "odict_iterator", "itertools.zip_longest", "itertools.pairwise"].contains n = false) (hQ : Q () s) : wpAny M A (letOwnedTupleGo tg (.ref it) u) Q E s := by
  unfold letOwnedTupleGo
  cases tg <;> first
    | exact wpAny_pure hQ
    | (cases u <;> first
        | exact wpAny_pure hQ
        | (refine wpAny_bind (wpAny_load ho ?_)
           rw [hc, hd]
           show wpAny M A (if (["enumerate", "zip", "dict_itemiterator", "dict_reverseitemiterator", "odict_iterator", "itertools.zip_longest", "itertools.pairwise"].contains n && vs[0]? == some (rawInt _)) = true then _ else _) Q E s
           rw [if_neg (by intro h; rw [hn, Bool.false_and] at h; cases h)]
           exact wpAny_pure hQ))

noncomputable def Itl (K : PySem.W.Frag) (a : Addr) : It :=
  ⟨fun i H => ∃ xs x, SqL K H a xs ∧ xs[i]? = some x, fun i H x H' => H' = H ∧ ∀ xs, SqL K H a xs → xs[i]? = some x, fun i H => ∃ xs, SqL K H a xs ∧ xs.length ≤ i⟩
noncomputable def Itt (K : PySem.W.Frag) (a : Addr) : It :=
  ⟨fun i H => ∃ xs x, SqT K H a xs ∧ xs[i]? = some x, fun i H x H' => H' = H ∧ ∀ xs, SqT K H a xs → xs[i]? = some x, fun i H => ∃ xs, SqT K H a xs ∧ xs.length ≤ i⟩
noncomputable def Itr (lo : Int) (n : Nat) : It := ⟨fun i _ => i < n, fun i H x H' => H' = H ∧ x = .int (lo + i), fun i _ => n ≤ i⟩
theorem turn_list {P : Program} {w : World} {K : PySem.W.Frag} {tg : Expr} (a it : Addr) : Turn P w K tg (Itl K a) [it] it (fun i h => h.IsListIter it a i) where
  mem := by simp
  obj := fun i h st b hb => by
    have e : b = it := by simpa using hb
    subst e
    obtain ⟨o, e, c, d⟩ := st
    exact ⟨o, e, fun v z => by rw [d] at z; cases z⟩
  keep := fun i h h' st k => st.at fun o e => k it (by simp) o e
  item := by
    intro X hP hw hK hc i pins s σ H E I hf st hg
    subst hP hw hK
    obtain ⟨xs, x, hq, hx⟩ := hg
    obtain ⟨its, rv, p, hz⟩ := I.list hq
    obtain ⟨u, hu, ru⟩ := rv.get hx
    obtain ⟨f0, f1, f2, f3, f4, f5⟩ := hf it (by simp)
    refine wpAny_pyNext_list_item st p.isList (x := u) (by simpa using hu) fun h' st' sb => ?_
    have I1 : Inv X pins σ H { s with heap := h' } := I.turned (t' := s.toks) (fun b o hb e => (sb.2 b hb).trans e) f0 f1 f3 f4 f5
    obtain ⟨o, e, c, d⟩ := id st'
    exact ⟨u, rfl, go_of (s := { s with heap := h' }) e c d (by decide) ⟨x, H, I1, ru, ⟨rfl, fun ys hy => by rw [I.list_inj hy hq]; exact hx⟩, st', fun b hb => (hf b hb).1⟩⟩
  done := by
    intro X hP hw hK hc i pins s σ H E I hf st hg
    subst hP hw hK
    obtain ⟨xs, hq, hx⟩ := hg
    obtain ⟨its, rv, p, hz⟩ := I.list hq
    obtain ⟨f0, f1, f2, f3, f4, f5⟩ := hf it (by simp)
    have hl := rv.length
    exact wpAny_pyNext_list_end (I.ok.hd hc) st p.isList (by simp; (first | lia | omega)) fun h' eb => ⟨rfl, I.turned (t' := s.toks) (fun b o hb e => eb b o hb e) f0 f1 f3 f4 f5⟩
  self := fun _ _ _ _ _ st h => wpAny_pyIter_listiter st h
theorem turn_tuple {P : Program} {w : World} {K : PySem.W.Frag} {tg : Expr} (a it : Addr) : Turn P w K tg (Itt K a) [it] it (fun i h => h.IsTupleIter it a i) where
  mem := by simp
  obj := fun i h st b hb => by
    have e : b = it := by simpa using hb
    subst e
    obtain ⟨o, e, c, d⟩ := st
    exact ⟨o, e, fun v z => by rw [d] at z; cases z⟩
  keep := fun i h h' st k => st.at fun o e => k it (by simp) o e
  item := by
    intro X hP hw hK hc i pins s σ H E I hf st hg
    subst hP hw hK
    obtain ⟨xs, x, hq, hx⟩ := hg
    obtain ⟨its, rv, p, hz⟩ := I.tuple hq
    obtain ⟨u, hu, ru⟩ := rv.get hx
    obtain ⟨f0, f1, f2, f3, f4, f5⟩ := hf it (by simp)
    refine wpAny_pyNext_tuple_item st (show s.heap.IsTuple a its.toArray from p) (x := u) (by simpa using hu) fun h' st' sb => ?_
    have I1 : Inv X pins σ H { s with heap := h' } := I.turned (t' := s.toks) (fun b o hb e => (sb.2 b hb).trans e) f0 f1 f3 f4 f5
    obtain ⟨o, e, c, d⟩ := id st'
    exact ⟨u, rfl, go_of (s := { s with heap := h' }) e c d (by decide) ⟨x, H, I1, ru, ⟨rfl, fun ys hy => by rw [I.tuple_inj hy hq]; exact hx⟩, st', fun b hb => (hf b hb).1⟩⟩
  done := by
    intro X hP hw hK hc i pins s σ H E I hf st hg
    subst hP hw hK
    obtain ⟨xs, hq, hx⟩ := hg
    obtain ⟨its, rv, p, hz⟩ := I.tuple hq
    obtain ⟨f0, f1, f2, f3, f4, f5⟩ := hf it (by simp)
    have hl := rv.length
    exact wpAny_pyNext_tuple_end (I.ok.hd hc) st (show s.heap.IsTuple a its.toArray from p) (by simp; (first | lia | omega)) fun h' eb => ⟨rfl, I.turned (t' := s.toks) (fun b o hb e => eb b o hb e) f0 f1 f3 f4 f5⟩
  self := fun _ _ _ _ _ st h => wpAny_pyIter_tupleiter st h
theorem turn_range {P : Program} {w : World} {K : PySem.W.Frag} {tg : Expr} (it : Addr) (lo : Int) (n : Nat) : Turn P w K tg (Itr lo n) [it] it (fun i h => IsRangeIter h it (lo + (i : Nat) * 1) ((n : Int) - (i : Nat)) 1) where
  mem := by simp
  obj := fun i h st b hb => by
    have e : b = it := by simpa using hb
    subst e
    exact ⟨_, st, fun v z => by
      have z' : Data.fields _ = Data.cell v := z
      cases z'⟩
  keep := fun i h h' st k => k it (by simp) _ st
  item := by
    intro X hP hw hK hc i pins s σ H E I hf st hg
    subst hP hw hK
    obtain ⟨f0, f1, f2, f3, f4, f5⟩ := hf it (by simp)
    have W := Walks.range (prog := X.prog) (w := X.w) (I.ok.hd hc) it lo 1 n
    refine W.item i s _ _ hg st fun v h' tk hv st' kk => ?_
    obtain ⟨t, rfl⟩ := hv
    have I1 : Inv X pins σ H { s with heap := h', toks := tk } := I.turned (fun b o hb e => kk b o (by simpa using hb) e) f0 f1 f3 f4 f5
    refine ⟨_, rfl, go_of (s := { s with heap := h', toks := tk }) (n := "range_iterator") st' rfl rfl (by decide) ⟨.int (lo + i), H, I1, ⟨t, ?_⟩, ⟨rfl, rfl⟩, st', fun b hb => (hf b hb).1⟩⟩
    rw [Int.mul_one]
  done := by
    intro X hP hw hK hc i pins s σ H E I hf st hg
    subst hP hw hK
    obtain ⟨f0, f1, f2, f3, f4, f5⟩ := hf it (by simp)
    exact wpAny_pyNext_range_end (I.ok.hd hc) st (by have : n ≤ i := hg; (first | lia | omega)) fun h' eb => ⟨rfl, I.turned (t' := s.toks) (fun b o hb e => eb b o hb e) f0 f1 f3 f4 f5⟩
  self := fun _ _ _ _ _ st h => wpAny_pyIter_rangeiter st h
end L2

namespace L2
open PySem PySem.Spec PyProof.Rows
section
variable {X : Cx} {tg : Expr}
noncomputable def iList (K : PySem.W.Frag) (tl : TE) : TI := fun σ H R => tl σ H fun x H1 => ∃ a, x = .ref a ∧ (∃ xs, SqL K H1 a xs) ∧ R (Itl K a) H1
noncomputable def iTup (K : PySem.W.Frag) (tl : TE) : TI := fun σ H R => tl σ H fun x H1 => ∃ a, x = .ref a ∧ (∃ xs, SqT K H1 a xs) ∧ R (Itt K a) H1
theorem pi_list {l : Expr} {tl : TE} (hl : PE X l tl) : PI X tg l (iList X.K tl) := by
  intro pins s σ H R I h
  refine thn (hl pins s σ H _ I h) fun v s1 ⟨x, H1, I1, r1, q1⟩ => ?_
  obtain ⟨a, e, ⟨xs, hq⟩, q⟩ := q1
  subst e
  cases r1
  obtain ⟨its, rv, p, hz⟩ := I1.list hq
  refine wpAny_pyIter_list p.isList ?_
  refine ⟨s1.heap.objs.size, [s1.heap.objs.size], _, _, H1, rfl, I1.kept (t' := s1.toks) fun b o e => Heap.get?_push_of_some _ e, turn_list a _, ⟨_, Heap.get?_push_size _ rfl, rfl, rfl⟩, fun b hb => ?_, q⟩
  have e : b = s1.heap.objs.size := by simpa using hb
  subst e
  exact I1.fpOk (Nat.le_refl _) (I1.hok.fresh (Nat.le_refl _))
theorem pi_tup {l : Expr} {tl : TE} (hl : PE X l tl) : PI X tg l (iTup X.K tl) := by
  intro pins s σ H R I h
  refine thn (hl pins s σ H _ I h) fun v s1 ⟨x, H1, I1, r1, q1⟩ => ?_
  obtain ⟨a, e, ⟨xs, hq⟩, q⟩ := q1
  subst e
  cases r1
  obtain ⟨its, rv, p, hz⟩ := I1.tuple hq
  refine wpAny_pyIter_tuple (show s1.heap.IsTuple a its.toArray from p) ?_
  refine ⟨s1.heap.objs.size, [s1.heap.objs.size], _, _, H1, rfl, I1.kept (t' := s1.toks) fun b o e => Heap.get?_push_of_some _ e, turn_tuple a _, ⟨_, Heap.get?_push_size _ rfl, rfl, rfl⟩, fun b hb => ?_, q⟩
  have e : b = s1.heap.objs.size := by simpa using hb
  subst e
  exact I1.fpOk (Nat.le_refl _) (I1.hok.fresh (Nat.le_refl _))
theorem range_it {pins : List (Addr × Obj)} {σ : St} {H : Hp} {s : Shared} {R : It → Hp → Prop} {E : Value → Shared → Prop} {lo hi : Int} {t u v : Tok} {tk : Nat} (I : Inv X pins σ H s) (h1 : -(2 ^ 62) ≤ lo) (h2 : lo < 2 ^ 62) (h3 : -(2 ^ 62) ≤ hi) (h4 : hi < 2 ^ 62)
    (q : R (Itr lo (hi - lo).toNat) H) : wpAny (model X.prog X.w) X.A (pyIter (.ref s.heap.objs.size)) (PIE X pins σ tg R) E { s with heap := s.heap.push { cls := .type "range", data := .fields #[.int lo t, .int hi u, .int 1 v] }, toks := tk } := by
  refine wpAny_pyIter_range (IsRange.new ..) (small_one h1 h2 h3 h4) ?_
  have I1 : Inv X pins σ H { s with heap := s.heap.push { cls := .type "range", data := .fields #[.int lo t, .int hi u, .int 1 v] }, toks := tk } := I.kept fun b o e => Heap.get?_push_of_some _ e
  refine ⟨(s.heap.push { cls := .type "range", data := .fields #[.int lo t, .int hi u, .int 1 v] }).objs.size, [(s.heap.push { cls := .type "range", data := .fields #[.int lo t, .int hi u, .int 1 v] }).objs.size], _, _, H, rfl,
    I1.kept (t' := tk) fun b o e => Heap.get?_push_of_some _ e, turn_range _ lo (hi - lo).toNat, ?_, fun b hb => ?_, q⟩
  · have e1 : lo + ((0 : Nat) : Int) * 1 = lo := by simp
    have e2 : (((hi - lo).toNat : Nat) : Int) - ((0 : Nat) : Int) = Builtin.Range.rangeSize lo hi 1 := by rw [rangeSize_one]; split <;> (first | lia | omega)
    show IsRangeIter _ _ (lo + ((0 : Nat) : Int) * 1) ((((hi - lo).toNat : Nat) : Int) - ((0 : Nat) : Int)) 1
    rw [e1, e2]
    exact Heap.get?_push_size _ rfl
  · have e : b = (s.heap.push { cls := .type "range", data := .fields #[.int lo t, .int hi u, .int 1 v] }).objs.size := by simpa using hb
    subst e
    exact I1.fpOk (Nat.le_refl _) (I1.hok.fresh (Nat.le_refl _))
noncomputable def iRng1 (ta : TA) : TI := fun σ H R => ta σ H fun vs H1 => ∃ j : Int, vs = [.int j] ∧ -(2 ^ 62) ≤ j ∧ j < 2 ^ 62 ∧ R (Itr 0 j.toNat) H1
theorem pi_range1 {a : Expr} {ta : TA} {p pos : Pos} (hg : Gl X "range") (hm : X.mg "range" = none) (ha : PA X [a] ta) (hs : starEach [a] X.env = [(false, eval a X.env)] := by rfl) : PI X tg (.Call (.Name "range" p) [a] [] pos) (iRng1 ta) := by
  intro pins s σ H R I h
  refine Call_ (ld_blt I hg hm boot_range (PyProof.Rows.callWith_type1 (thn (ha pos pins s σ H _ I h) fun us s1 ⟨vs, H1, I1, r1, q1⟩ => ?_) hs rfl))
  obtain ⟨j, e, q1, q2, q⟩ := q1
  subst e
  cases r1 with
  | cons r rr =>
    cases rr
    obtain ⟨t, rfl⟩ := r
    exact call_range_1 (range_it I1 (by (first | lia | omega)) (by (first | lia | omega)) q1 q2 (by simpa using q))
noncomputable def tFor (wi : TI) (g : TG) (tb : TS) : TS := fun D σ H => wi σ H fun J H1 => ∃ W : Nat → Nat → St → Hp → Prop, (∃ m, W 0 m σ H1) ∧ ∀ i m σ H, W i m σ H →
  (J.stop i H ∧ D.nx σ H) ∨ (J.go i H ∧ ∃ N : St → Hp → Prop, (∀ σ' H', N σ' H' → ∃ m', m' < m ∧ W (i + 1) m' σ' H') ∧ ∀ x H', J.yld i H x H' → g x σ H' fun σ2 H2 => tb { D with nx := N, ct := N, bk := D.nx } σ2 H2)
noncomputable def pinsAt (fp : List Addr) (h : Heap) : List (Addr × Obj) := fp.filterMap fun b => (h.get? b).map fun o => (b, o)
theorem mem_pinsAt {fp : List Addr} {h : Heap} {b : Addr} {o : Obj} (hb : b ∈ fp) (e : h.get? b = some o) : (b, o) ∈ pinsAt fp h := List.mem_filterMap.mpr ⟨b, hb, by rw [e]; rfl⟩
theorem of_pinsAt {fp : List Addr} {h : Heap} {p : Addr × Obj} (hp : p ∈ pinsAt fp h) : p.1 ∈ fp ∧ h.get? p.1 = some p.2 := by
  obtain ⟨b, hb, e⟩ := List.mem_filterMap.mp hp
  cases q : h.get? b with
  | none => rw [q] at e; cases e
  | some o =>
    rw [q] at e
    have e' : (b, o) = p := Option.some.inj e
    subst e'
    exact ⟨hb, q⟩
theorem Inv.pinned {pins : List (Addr × Obj)} {σ : St} {H : Hp} {s : Shared} {fp : List Addr} (I : Inv X pins σ H s) (hf : ∀ b ∈ fp, FpOk X pins H b) (ho : ∀ b ∈ fp, ∃ o, s.heap.get? b = some o ∧ ∀ v, o.data ≠ .cell v) : Inv X (pins ++ pinsAt fp s.heap) σ H s :=
  I.pins_of fun p hp => (List.mem_append.mp hp).elim (fun z => I.pin p (List.mem_append_right _ z)) fun z => by
    obtain ⟨hb, e⟩ := of_pinsAt z
    obtain ⟨f0, f1, f2, _⟩ := hf p.1 hb
    obtain ⟨o, e', d⟩ := ho p.1 hb
    rw [e] at e'; cases e'
    exact ⟨e, f0, f1, f2, d⟩
theorem Inv.unpinned {pins pl : List (Addr × Obj)} {σ : St} {H : Hp} {s : Shared} (I : Inv X (pins ++ pl) σ H s) : Inv X pins σ H s := I.pins_of fun p hp => I.pin p (List.mem_append_right _ (List.mem_append_left _ hp))
theorem ps_for {iter : Expr} {body : List Stmt} {wi : TI} {g : TG} {tb : TS} {pos : Pos} (hp : PassesOwn (model X.prog X.w) X.A X.env X.xe) (hc : X.calm = true) (hi : PI X tg iter wi) (hg : PG X tg g) (hb : PSs X body tb)
    (hs : ∀ x, foldedSetIterable iter X.env x = pure x := by intro _; rfl) : PS X (.For tg iter body [] pos) (tFor wi g tb) := by
  intro pins s σ H D I h
  refine wpAny_For (thn (hi pins s σ H _ I h) fun v s1 h1 => thn h1 fun itv s2 h2 => ?_) hs
  obtain ⟨it, fp, tn, J, H2, e, I2, T, st2, f2, W, ⟨m0, w0⟩, turn⟩ := h2
  subst e
  -- what stays true of the iterator's objects through the loop
  have stat : ∀ {H' : Hp}, (∀ b ∈ fp, H' b = none) → ∀ b ∈ fp, FpOk X pins H' b := fun hn b hb => ⟨hn b hb, (f2 b hb).2⟩
  refine codeAny_forLoop_any (fun n s' => ∃ i σ' H', Inv X pins σ' H' s' ∧ tn i s'.heap ∧ (∀ b ∈ fp, H' b = none) ∧ W i n σ' H') ?_ m0 ⟨0, σ, H2, I2, st2, fun b hb => (f2 b hb).1, w0⟩
  rintro n s3 ⟨i, σ3, H3, I3, st3, fr3, w3⟩
  rcases turn i n σ3 H3 w3 with ⟨stop, qn⟩ | ⟨go, N, hN, step⟩
  · refine wpAny_passesOwn hp (thn (T.done X rfl rfl rfl hc i pins s3 σ3 H3 X.xe I3 (stat fr3) st3 stop) fun r s4 ⟨hr, I4⟩ => ?_)
    subst hr
    exact wpAny_execs_nil ⟨σ3, H3, I4, qn⟩
  · refine wpAny_passesOwn hp (thn (T.item X rfl rfl rfl hc i pins s3 σ3 H3 X.xe I3 (stat fr3) st3 go) fun r s4 ⟨u, hr, h4⟩ => ?_)
    subst hr
    refine wpAny_passesOwn hp (thn h4 fun _ s5 ⟨x, H5, I5, r5, y5, st5, fr5⟩ => ?_)
    have I5' := I5.pinned (stat fr5) (T.obj _ _ st5)
    refine wpAny_passesOwn hp (thn (hg _ s5 σ3 H5 x u _ I5' r5 (step x H5 y5)) fun _ s6 ⟨σ6, H6, I6, q6⟩ => ?_)
    refine wpAny_passesOwn hp (thn (hb _ s6 σ6 H6 _ I6 q6) fun f s7 q7 => ?_)
    have again : ∀ {σ7 : St} {H7 : Hp}, Inv X (pins ++ pinsAt fp s5.heap) σ7 H7 s7 → N σ7 H7 → ∃ m, m < n ∧ ∃ i σ' H', Inv X pins σ' H' s7 ∧ tn i s7.heap ∧ (∀ b ∈ fp, H' b = none) ∧ W i m σ' H' := fun {σ7 H7} I7 n7 => by
      obtain ⟨m', hm, w7⟩ := hN σ7 H7 n7
      refine ⟨m', hm, i + 1, σ7, H7, I7.unpinned, T.keep _ _ _ st5 fun b hb o e => (I7.pin (b, o) (List.mem_append_right _ (List.mem_append_right _ (mem_pinsAt hb e)))).1, fun b hb => ?_, w7⟩
      obtain ⟨o, e, d⟩ := T.obj _ _ st5 b hb
      exact (I7.pin (b, o) (List.mem_append_right _ (List.mem_append_right _ (mem_pinsAt hb e)))).2.1
    cases f with
    | next => obtain ⟨σ7, H7, I7, n7⟩ := q7; exact again I7 n7
    | cont => obtain ⟨σ7, H7, I7, n7⟩ := q7; exact again I7 n7
    | brk => obtain ⟨σ7, H7, I7, q7⟩ := q7; exact ⟨σ7, H7, I7.unpinned, q7⟩
    | ret v => obtain ⟨x7, σ7, H7, I7, r7, q7⟩ := q7; exact ⟨x7, σ7, H7, I7.unpinned, r7, q7⟩
end

theorem for_list {K : PySem.W.Frag} {a : Addr} {xs : List V} {g : TG} {tb : TS} {D : Ends} {σ : St} {H : Hp} (Pv : Nat → St → Hp → Prop) (h0 : Pv 0 σ H) (hl : ∀ i σ H, i ≤ xs.length → Pv i σ H → SqL K H a xs)
    (hs : ∀ i x σ H, xs[i]? = some x → Pv i σ H → g x σ H fun σ2 H2 => tb { D with nx := Pv (i + 1), ct := Pv (i + 1), bk := D.nx } σ2 H2) (hd : ∀ σ H, Pv xs.length σ H → D.nx σ H) :
    ∃ W : Nat → Nat → St → Hp → Prop, (∃ m, W 0 m σ H) ∧ ∀ i m σ H, W i m σ H →
      ((Itl K a).stop i H ∧ D.nx σ H) ∨ ((Itl K a).go i H ∧ ∃ N : St → Hp → Prop, (∀ σ' H', N σ' H' → ∃ m', m' < m ∧ W (i + 1) m' σ' H') ∧ ∀ x H', (Itl K a).yld i H x H' → g x σ H' fun σ2 H2 => tb { D with nx := N, ct := N, bk := D.nx } σ2 H2) := by
  refine ⟨fun i m σ H => m = xs.length - i ∧ i ≤ xs.length ∧ Pv i σ H, ⟨xs.length, by simp, Nat.zero_le _, h0⟩, ?_⟩
  rintro i m σ H ⟨rfl, hi, p⟩
  have q := hl i σ H hi p
  by_cases hlt : i < xs.length
  · refine .inr ⟨⟨xs, xs[i], q, by simp [hlt]⟩, Pv (i + 1), fun σ' H' p' => ⟨xs.length - (i + 1), by (first | lia | omega), rfl, hlt, p'⟩, fun x H' y => ?_⟩
    obtain ⟨e, y⟩ := y
    subst e
    exact hs i x σ _ (y xs q) p
  · have e : i = xs.length := by (first | lia | omega)
    subst e
    exact .inl ⟨⟨xs, q, Nat.le_refl _⟩, hd σ H p⟩
theorem for_tup {K : PySem.W.Frag} {a : Addr} {xs : List V} {g : TG} {tb : TS} {D : Ends} {σ : St} {H : Hp} (Pv : Nat → St → Hp → Prop) (h0 : Pv 0 σ H) (hl : ∀ i σ H, i ≤ xs.length → Pv i σ H → SqT K H a xs)
    (hs : ∀ i x σ H, xs[i]? = some x → Pv i σ H → g x σ H fun σ2 H2 => tb { D with nx := Pv (i + 1), ct := Pv (i + 1), bk := D.nx } σ2 H2) (hd : ∀ σ H, Pv xs.length σ H → D.nx σ H) :
    ∃ W : Nat → Nat → St → Hp → Prop, (∃ m, W 0 m σ H) ∧ ∀ i m σ H, W i m σ H →
      ((Itt K a).stop i H ∧ D.nx σ H) ∨ ((Itt K a).go i H ∧ ∃ N : St → Hp → Prop, (∀ σ' H', N σ' H' → ∃ m', m' < m ∧ W (i + 1) m' σ' H') ∧ ∀ x H', (Itt K a).yld i H x H' → g x σ H' fun σ2 H2 => tb { D with nx := N, ct := N, bk := D.nx } σ2 H2) := by
  refine ⟨fun i m σ H => m = xs.length - i ∧ i ≤ xs.length ∧ Pv i σ H, ⟨xs.length, by simp, Nat.zero_le _, h0⟩, ?_⟩
  rintro i m σ H ⟨rfl, hi, p⟩
  have q := hl i σ H hi p
  by_cases hlt : i < xs.length
  · refine .inr ⟨⟨xs, xs[i], q, by simp [hlt]⟩, Pv (i + 1), fun σ' H' p' => ⟨xs.length - (i + 1), by (first | lia | omega), rfl, hlt, p'⟩, fun x H' y => ?_⟩
    obtain ⟨e, y⟩ := y
    subst e
    exact hs i x σ _ (y xs q) p
  · have e : i = xs.length := by (first | lia | omega)
    subst e
    exact .inl ⟨⟨xs, q, Nat.le_refl _⟩, hd σ H p⟩
theorem for_range {lo : Int} {n : Nat} {g : TG} {tb : TS} {D : Ends} {σ : St} {H : Hp} (Pv : Nat → St → Hp → Prop) (h0 : Pv 0 σ H)
    (hs : ∀ i σ H, i < n → Pv i σ H → g (.int (lo + i)) σ H fun σ2 H2 => tb { D with nx := Pv (i + 1), ct := Pv (i + 1), bk := D.nx } σ2 H2) (hd : ∀ σ H, Pv n σ H → D.nx σ H) :
    ∃ W : Nat → Nat → St → Hp → Prop, (∃ m, W 0 m σ H) ∧ ∀ i m σ H, W i m σ H →
      ((Itr lo n).stop i H ∧ D.nx σ H) ∨ ((Itr lo n).go i H ∧ ∃ N : St → Hp → Prop, (∀ σ' H', N σ' H' → ∃ m', m' < m ∧ W (i + 1) m' σ' H') ∧ ∀ x H', (Itr lo n).yld i H x H' → g x σ H' fun σ2 H2 => tb { D with nx := N, ct := N, bk := D.nx } σ2 H2) := by
  refine ⟨fun i m σ H => m = n - i ∧ i ≤ n ∧ Pv i σ H, ⟨n, by simp, Nat.zero_le _, h0⟩, ?_⟩
  rintro i m σ H ⟨rfl, hi, p⟩
  by_cases hlt : i < n
  · refine .inr ⟨hlt, Pv (i + 1), fun σ' H' p' => ⟨n - (i + 1), by (first | lia | omega), rfl, hlt, p'⟩, fun x H' y => ?_⟩
    obtain ⟨e, y⟩ := y
    subst e y
    exact hs i σ _ hlt p
  · have e : i = n := by (first | lia | omega)
    subst e
    exact .inl ⟨Nat.le_refl _, hd σ H p⟩
theorem while_by {c : TT} {tb : TS} {D : Ends} {σ : St} {H : Hp} (Pv : St → Hp → Prop) (μ : St → Hp → Nat) (h0 : Pv σ H)
    (hs : ∀ σ H, Pv σ H → c σ H fun b H1 => if b = true then tb { D with nx := fun σ' H' => Pv σ' H' ∧ μ σ' H' < μ σ H, ct := fun σ' H' => Pv σ' H' ∧ μ σ' H' < μ σ H, bk := D.nx } σ H1 else D.nx σ H1)
    (mono : ∀ σ H Q Q', (∀ b H1, Q b H1 → Q' b H1) → c σ H Q → c σ H Q') : tWhile c tb D σ H := by
  refine ⟨fun m σ H => m = μ σ H ∧ Pv σ H, ⟨_, rfl, h0⟩, ?_⟩
  rintro m σ H ⟨rfl, p⟩
  refine mono σ H _ _ (fun b H1 q => ?_) (hs σ H p)
  cases b with
  | true => exact ⟨_, fun σ' H' ⟨p', l⟩ => ⟨_, l, rfl, p'⟩, q⟩
  | false => exact q
end L2

namespace L2
open PySem PySem.Spec PyProof.Rows

noncomputable abbrev R2 := V → V → Hp → VK → Prop
noncomputable def OpR (X : Cx) (f : Value → Value → Sem Value) (r : R2) : Prop :=
  ∀ (pins : List (Addr × Obj)) (s : Shared) (σ : St) (H : Hp) (x y : V) (v u : Value) (Q : VK), Inv X pins σ H s → RelV x v → RelV y u → r x y H Q →
    wpAny (model X.prog X.w) X.A (f v u) (EP X pins σ Q) X.xe s
noncomputable def CallR (X : Cx) (f : Value) (r : List V → Hp → VK → Prop) : Prop :=
  ∀ (pins : List (Addr × Obj)) (s : Shared) (σ : St) (H : Hp) (xs : List V) (us : List Value) (Q : VK), Inv X pins σ H s → Vals xs us → r xs H Q →
    wpAny (model X.prog X.w) X.A (call f us) (EP X pins σ Q) X.xe s
noncomputable def tOp (r : R2) (ta tb : TE) : TE := fun σ H Q => ta σ H fun x H1 => tb σ H1 fun y H2 => r x y H2 Q
noncomputable def rI (C : Int → Int → Prop) (g : Int → Int → V) : R2 := fun x y H Q => ∃ i j, x = .int i ∧ y = .int j ∧ C i j ∧ Q (g i j) H
noncomputable def rI0 (g : Int → Int → V) : R2 := fun x y H Q => ∃ i j, x = .int i ∧ y = .int j ∧ Q (g i j) H
section
variable {X : Cx} {a b c : Expr} {ta tb tc : TE} {pos : Pos}

theorem binT (ha : PE X a ta) (hb : PE X b tb) {pins : List (Addr × Obj)} {s : Shared} {σ : St} {H : Hp} {R : V → V → Hp → Prop} (I : Inv X pins σ H s)
    (h : ta σ H fun x H1 => tb σ H1 fun y H2 => R x y H2) {Q : Value → Shared → Prop} {f : Value → Value → Sem Value}
    (hf : ∀ v u s2 x y H2, Inv X pins σ H2 s2 → RelV x v → RelV y u → R x y H2 → wpAny (model X.prog X.w) X.A (f v u) Q X.xe s2) :
    wpAny (model X.prog X.w) X.A (eval a X.env) (fun v s₁ => wpAny (model X.prog X.w) X.A (eval b X.env) (fun u s₂ => wpAny (model X.prog X.w) X.A (f v u) Q X.xe s₂) X.xe s₁) X.xe s := by
  refine thn (ha pins s σ H _ I h) fun v s1 ⟨x, H1, I1, r1, q1⟩ => ?_
  refine thn (hb pins s1 σ H1 _ I1 q1) fun u s2 ⟨y, H2, I2, r2, q2⟩ => ?_
  exact hf v u s2 x y H2 I2 r1 r2 q2

theorem pe_op {op : Operator} {r : R2} (ho : OpR X (binaryOp op) r) (ha : PE X a ta) (hb : PE X b tb) : PE X (.BinOp a op b pos) (tOp r ta tb) := by
  intro pins s σ H Q I h
  exact wpAny_BinOp (binT ha hb I h fun v u s2 x y H2 I2 rx ry q => ho pins s2 σ H2 x y v u Q I2 rx ry q)
theorem opI {f : Value → Value → Sem Value} {C : Int → Int → Prop} {g : Int → Int → Int}
    (rule : ∀ (i j : Int) (t u : Tok) (s : Shared) (Q : Value → Shared → Prop) (E : Value → Shared → Prop), C i j → Q (.int (g i j) s.toks) { s with toks := s.toks + 1 } → wpAny (model X.prog X.w) X.A (f (.int i t) (.int j u)) Q E s) :
    OpR X f (rI C fun i j => .int (g i j)) := by
  intro pins s σ H x y v u Q I rx ry h
  obtain ⟨i, j, rfl, rfl, hc, q⟩ := h
  obtain ⟨t, rfl⟩ := rx
  obtain ⟨t', rfl⟩ := ry
  exact rule i j t t' s _ _ hc ⟨.int (g i j), H, I.tok _, ⟨_, rfl⟩, q⟩
theorem opI0 {f : Value → Value → Sem Value} {g : Int → Int → Int}
    (rule : ∀ (i j : Int) (t u : Tok) (s : Shared) (Q : Value → Shared → Prop) (E : Value → Shared → Prop), Q (.int (g i j) s.toks) { s with toks := s.toks + 1 } → wpAny (model X.prog X.w) X.A (f (.int i t) (.int j u)) Q E s) :
    OpR X f (rI0 fun i j => .int (g i j)) := by
  intro pins s σ H x y v u Q I rx ry h
  obtain ⟨i, j, rfl, rfl, q⟩ := h
  obtain ⟨t, rfl⟩ := rx
  obtain ⟨t', rfl⟩ := ry
  exact rule i j t t' s _ _ ⟨.int (g i j), H, I.tok _, ⟨_, rfl⟩, q⟩
theorem opB0 {f : Value → Value → Sem Value} {g : Int → Int → Bool}
    (rule : ∀ (i j : Int) (t u : Tok) (s : Shared) (Q : Value → Shared → Prop) (E : Value → Shared → Prop), Q (.bool (g i j)) s → wpAny (model X.prog X.w) X.A (f (.int i t) (.int j u)) Q E s) :
    OpR X f (rI0 fun i j => .bl (g i j)) := by
  intro pins s σ H x y v u Q I rx ry h
  obtain ⟨i, j, rfl, rfl, q⟩ := h
  obtain ⟨t, rfl⟩ := rx
  obtain ⟨t', rfl⟩ := ry
  exact rule i j t t' s _ _ ⟨.bl (g i j), H, I, rfl, q⟩

noncomputable def CDiv (i j : Int) : Prop := 0 < j ∧ j < 1073741824
noncomputable def CPow (i j : Int) : Prop := 0 ≤ j ∧ j ≤ 1000000 ∧ i.natAbs < 2 ^ 64
noncomputable def CMul (i j : Int) : Prop := (-(2 ^ 64) < i ∧ i < 2 ^ 64) ∨ (-(2 ^ 64) < j ∧ j < 2 ^ 64)
theorem CMul.ok {i j : Int} (h : CMul i j) : IntMulOk i j := by
  rcases h with ⟨h1, h2⟩ | ⟨h1, h2⟩
  · exact .of_left (intBits_le_64 h1 h2)
  · exact .of_right (intBits_le_64 h1 h2)
theorem op_add : OpR X (binaryOp .Add) (rI0 fun i j => .int (i + j)) := opI0 fun _ _ _ _ _ _ _ q => add_int q
theorem op_sub : OpR X (binaryOp .Sub) (rI0 fun i j => .int (i - j)) := opI0 fun _ _ _ _ _ _ _ q => sub_int q
theorem op_mul : OpR X (binaryOp .Mult) (rI CMul fun i j => .int (i * j)) := opI fun _ _ _ _ _ _ _ hc q => mul_int q hc.ok
theorem op_fdiv : OpR X (binaryOp .FloorDiv) (rI CDiv fun i j => .int (i / j)) := opI fun i j _ _ _ _ _ hc q => by
  have h1 : (0 : Int) < j := hc.1
  have h2 : j < 1073741824 := hc.2
  exact floordiv_int (by (first | lia | omega)) (by rw [Int.fdiv_eq_ediv_of_nonneg i (by (first | lia | omega))]; exact q) (.inl (PyProof.noPylong_small (by (first | lia | omega))))
theorem op_mod : OpR X (binaryOp .Mod) (rI (fun _ j => 0 < j) fun i j => .int (i % j)) := opI fun i j _ _ _ _ _ hc q => by
  have h1 : (0 : Int) < j := hc
  exact mod_int' (by (first | lia | omega)) (by rw [Int.fmod_eq_emod_of_nonneg i (by (first | lia | omega))]; exact q)
theorem op_pow : OpR X (binaryOp .Pow) (rI CPow fun i j => .int (i ^ j.toNat)) := opI fun _ _ _ _ _ _ _ hc q => pow_int_small hc.1 hc.2.1 hc.2.2 q
end

noncomputable def scal : V → V → Bool
  | .non, .non => true | .non, .int _ => true | .int _, .non => true | .non, .bl _ => true | .bl _, .non => true | .non, .str _ => true | .str _, .non => true
  | .int _, .int _ => true | .bl _, .bl _ => true | .str _, .str _ => true | .byt _, .byt _ => true
  | .int _, .str _ => true | .str _, .int _ => true | .bl _, .str _ => true | .str _, .bl _ => true
  | _, _ => false
noncomputable def rEq : R2 := fun x y H Q => scal x y = true ∧ Q (.bl (decide (x = y))) H
noncomputable def rNe : R2 := fun x y H Q => scal x y = true ∧ Q (.bl (!decide (x = y))) H

theorem dec_int {i j : Int} : decide (V.int i = V.int j) = (i == j) := by
  rw [Bool.eq_iff_iff]
  simp
theorem dec_bl {i j : Bool} : decide (V.bl i = V.bl j) = (i == j) := by
  rw [Bool.eq_iff_iff]
  simp
theorem dec_str {i j : Str} : decide (V.str i = V.str j) = (i == j) := by
  rw [Bool.eq_iff_iff]
  simp
theorem dec_byt {i j : Array UInt8} : decide (V.byt i = V.byt j) = (i.toList == j.toList) := by
  rw [Bool.eq_iff_iff]
  cases i
  cases j
  simp

section
variable {X : Cx} {a b c : Expr} {ta tb tc : TE} {pos : Pos}
theorem fin_bl {pins : List (Addr × Obj)} {σ : St} {H : Hp} {s : Shared} {Q : VK} {k k' : Bool} (I : Inv X pins σ H s) (q : Q (.bl k) H) (e : k = k') : EP X pins σ Q (.bool k') s := by
  subst e
  exact ⟨.bl k, H, I, rfl, q⟩
theorem op_eq : OpR X (compareOp .Eq) rEq := by
  intro pins s σ H x y v u Q I rx ry h
  obtain ⟨hs, q⟩ := h
  cases x with
  | non =>
    cases rx
    cases y with
    | non => cases ry; exact PySem.EqNone.eq_none_none (fin_bl I q (by simp))
    | bl j => cases ry; exact PySem.EqNone.eq_none_bool (fin_bl I q (by simp))
    | int j => obtain ⟨t', rfl⟩ := ry; exact PySem.EqNone.eq_none_int (fin_bl I q (by simp))
    | str j => obtain ⟨t', rfl⟩ := ry; exact PySem.EqNone.eq_none_str (fin_bl I q (by simp))
    | _ => exact absurd (show false = true from hs) Bool.false_ne_true
  | bl i =>
    cases rx
    cases y with
    | non => cases ry; exact PySem.EqNone.eq_bool_none (fin_bl I q (by simp))
    | bl j => cases ry; exact eq_bool (fin_bl I q dec_bl)
    | str j => obtain ⟨t', rfl⟩ := ry; exact PySem.EqMixed.eq_bool_str (fin_bl I q (by simp))
    | _ => exact absurd (show false = true from hs) Bool.false_ne_true
  | int i =>
    obtain ⟨t, rfl⟩ := rx
    cases y with
    | non => cases ry; exact PySem.EqNone.eq_int_none (fin_bl I q (by simp))
    | int j => obtain ⟨t', rfl⟩ := ry; exact eq_int (fin_bl I q dec_int)
    | str j => obtain ⟨t', rfl⟩ := ry; exact PySem.EqMixed.eq_int_str (fin_bl I q (by simp))
    | _ => exact absurd (show false = true from hs) Bool.false_ne_true
  | str i =>
    obtain ⟨t, rfl⟩ := rx
    cases y with
    | non => cases ry; exact PySem.EqNone.eq_str_none (fin_bl I q (by simp))
    | bl j => cases ry; exact PySem.EqMixed.eq_str_bool (fin_bl I q (by simp))
    | int j => obtain ⟨t', rfl⟩ := ry; exact PySem.EqMixed.eq_str_int (fin_bl I q (by simp))
    | str j => obtain ⟨t', rfl⟩ := ry; exact eq_str (fin_bl I q dec_str)
    | _ => exact absurd (show false = true from hs) Bool.false_ne_true
  | byt i =>
    obtain ⟨t, rfl⟩ := rx
    cases y with
    | byt j => obtain ⟨t', rfl⟩ := ry; exact PySem.W.eq_bytes (fin_bl I q dec_byt)
    | _ => exact absurd (show false = true from hs) Bool.false_ne_true
  | _ => cases y <;> exact absurd (show false = true from hs) Bool.false_ne_true
theorem op_ne : OpR X (compareOp .NotEq) rNe := by
  intro pins s σ H x y v u Q I rx ry h
  obtain ⟨hs, q⟩ := h
  cases x with
  | non =>
    cases rx
    cases y with
    | non => cases ry; exact PySem.EqNone.ne_none_none (fin_bl I q (by simp))
    | bl j => cases ry; exact PySem.EqNone.ne_none_bool (fin_bl I q (by simp))
    | int j => obtain ⟨t', rfl⟩ := ry; exact PySem.EqNone.ne_none_int (fin_bl I q (by simp))
    | str j => obtain ⟨t', rfl⟩ := ry; exact PySem.EqNone.ne_none_str (fin_bl I q (by simp))
    | _ => exact absurd (show false = true from hs) Bool.false_ne_true
  | bl i =>
    cases rx
    cases y with
    | non => cases ry; exact PySem.EqNone.ne_bool_none (fin_bl I q (by simp))
    | bl j => cases ry; exact ne_bool (fin_bl I q (congrArg not dec_bl))
    | str j => obtain ⟨t', rfl⟩ := ry; exact PySem.EqMixed.ne_bool_str (fin_bl I q (by simp))
    | _ => exact absurd (show false = true from hs) Bool.false_ne_true
  | int i =>
    obtain ⟨t, rfl⟩ := rx
    cases y with
    | non => cases ry; exact PySem.EqNone.ne_int_none (fin_bl I q (by simp))
    | int j => obtain ⟨t', rfl⟩ := ry; exact ne_int (fin_bl I q (congrArg not dec_int))
    | str j => obtain ⟨t', rfl⟩ := ry; exact PySem.EqMixed.ne_int_str (fin_bl I q (by simp))
    | _ => exact absurd (show false = true from hs) Bool.false_ne_true
  | str i =>
    obtain ⟨t, rfl⟩ := rx
    cases y with
    | non => cases ry; exact PySem.EqNone.ne_str_none (fin_bl I q (by simp))
    | bl j => cases ry; exact PySem.EqMixed.ne_str_bool (fin_bl I q (by simp))
    | int j => obtain ⟨t', rfl⟩ := ry; exact PySem.EqMixed.ne_str_int (fin_bl I q (by simp))
    | str j => obtain ⟨t', rfl⟩ := ry; exact ne_str (fin_bl I q (congrArg not dec_str))
    | _ => exact absurd (show false = true from hs) Bool.false_ne_true
  | byt i =>
    obtain ⟨t, rfl⟩ := rx
    cases y with
    | byt j => obtain ⟨t', rfl⟩ := ry; exact PySem.W.ne_bytes (fin_bl I q (congrArg not dec_byt))
    | _ => exact absurd (show false = true from hs) Bool.false_ne_true
  | _ => cases y <;> exact absurd (show false = true from hs) Bool.false_ne_true

theorem op_lt : OpR X (compareOp .Lt) (rI0 fun i j => .bl (decide (i < j))) := opB0 fun _ _ _ _ _ _ _ q => lt_int q
theorem op_le : OpR X (compareOp .LtE) (rI0 fun i j => .bl (decide (i ≤ j))) := opB0 fun _ _ _ _ _ _ _ q => le_int q
theorem op_gt : OpR X (compareOp .Gt) (rI0 fun i j => .bl (decide (j < i))) := opB0 fun _ _ _ _ _ _ _ q => gt_int q
theorem op_ge : OpR X (compareOp .GtE) (rI0 fun i j => .bl (decide (j ≤ i))) := opB0 fun _ _ _ _ _ _ _ q => ge_int q
theorem op_in_str : OpR X (compareOp .In) (fun x y H Q => ∃ i j, x = .str i ∧ y = .str j ∧ Q (.bl (!(Builtin.Str.occurrences j i 0 j.length 1).isEmpty)) H) := by
  intro pins s σ H x y v u Q I rx ry h
  obtain ⟨i, j, rfl, rfl, q⟩ := h
  obtain ⟨t, rfl⟩ := rx
  obtain ⟨t', rfl⟩ := ry
  exact in_str (fin_bl I q rfl)

theorem op_isN : OpR X (compareOp .Is) (fun x y H Q => y = .non ∧ Q (.bl (decide (x = .non))) H) := by
  intro pins s σ H x y v u Q I rx ry h
  obtain ⟨rfl, q⟩ := h
  cases ry
  refine is_none_gen (fin_bl I q ?_)
  cases x <;> first
    | (cases rx; rfl)
    | (obtain ⟨t, rfl⟩ := rx; rfl)
theorem op_notN : OpR X (compareOp .IsNot) (fun x y H Q => y = .non ∧ Q (.bl (!decide (x = .non))) H) := by
  intro pins s σ H x y v u Q I rx ry h
  obtain ⟨rfl, q⟩ := h
  cases ry
  refine isnot_none_gen (fin_bl I q ?_)
  cases x <;> first
    | (cases rx; rfl)
    | (obtain ⟨t, rfl⟩ := rx; rfl)

theorem nomark (b : Expr) {op : CmpOp} (h : op ≠ .In := by decide) (h2 : op ≠ .NotIn := by decide) : behindInMarks op b = false := by
  have e1 : (op == CmpOp.In) = false := by cases op <;> first | rfl | exact absurd rfl h
  have e2 : (op == CmpOp.NotIn) = false := by cases op <;> first | rfl | exact absurd rfl h2
  cases b <;> simp [behindInMarks, e1, e2]
theorem pe_cmpR {op : CmpOp} {r : R2} (ho : OpR X (compareOp op) r) (ha : PE X a ta) (hb : PE X b tb) (hm : behindInMarks op b = false) : PE X (.Compare a [op] [b] pos) (tOp r ta tb) := by
  intro pins s σ H Q I h
  exact wpAny_Compare1 (binT ha hb I h fun v u s2 x y H2 I2 rx ry q => ho pins s2 σ H2 x y v u Q I2 rx ry q) hm
noncomputable def tTest (t : TE) : TT := fun σ H Q => t σ H fun x H' => ∃ k, x = .bl k ∧ Q k H'
theorem pt_cmpR {op : CmpOp} {r : R2} (ho : OpR X (compareOp op) r) (ha : PE X a ta) (hb : PE X b tb) (hm : behindInMarks op b = false) : PT X (.Compare a [op] [b] pos) (tTest (tOp r ta tb)) := by
  intro pins s σ H Q I h
  refine wpAny_isTrue_Compare1 (thn (ha pins s σ H _ I h) fun v s1 ⟨x, H1, I1, r1, q1⟩ => thn (hb pins s1 σ H1 _ I1 q1) fun u s2 ⟨y, H2, I2, r2, q2⟩ =>
    thn (ho pins s2 σ H2 x y v u _ I2 r1 r2 q2) fun c s3 ⟨z, H3, I3, r3, k, e, q3⟩ => ?_) hm
  subst e
  cases r3
  exact wpAny_truthy_bool ⟨H3, I3, q3⟩
noncomputable def tChain (r r' : R2) (ta tb tc : TE) : TE := fun σ H Q => ta σ H fun x H1 => tb σ H1 fun y H2 => r x y H2 fun z H3 => ∃ k, z = .bl k ∧
  (if k = true then tc σ H3 fun w' H4 => r' y w' H4 Q else Q (.bl false) H3)
theorem pe_chain {op op' : CmpOp} {r r' : R2} (ho : OpR X (compareOp op) r) (ho' : OpR X (compareOp op') r') (ha : PE X a ta) (hb : PE X b tb) (hc : PE X c tc)
    (hm : lastMarks [op, op'] [b, c] = false := by with_unfolding_all rfl) : PE X (.Compare a [op, op'] [b, c] pos) (tChain r r' ta tb tc) := by
  intro pins s σ H Q I h
  refine Compare_chain (thn (ha pins s σ H _ I h) fun v s1 ⟨x, H1, I1, r1, q1⟩ => chain_link (thn (hb pins s1 σ H1 _ I1 q1) fun u s2 ⟨y, H2, I2, r2, q2⟩ =>
    thn (ho pins s2 σ H2 x y v u _ I2 r1 r2 q2) fun d s3 ⟨z, H3, I3, r3, k, e, q3⟩ => ?_)) hm
  subst e
  cases r3
  refine wpAny_truthy_bool ?_
  cases k with
  | false => exact ite_ff ⟨.bl false, H3, I3, rfl, q3⟩
  | true => exact ite_tt (chain_last (thn (hc pins s3 σ H3 _ I3 q3) fun w' s4 ⟨z', H4, I4, r4, q4⟩ => ho' pins s4 σ H4 y z' u w' Q I4 r2 r4 q4))
theorem line63 : (sizeLine : Nat) < 2 ^ 63 := by rw [sizeLine_eq]; decide
theorem op_add_str : OpR X (binaryOp .Add) (fun x y H Q => ∃ i j, x = .str i ∧ y = .str j ∧ i.length + j.length ≤ sizeLine ∧ Q (.str (i ++ j)) H) := by
  intro pins s σ H x y v u Q I rx ry h
  obtain ⟨i, j, rfl, rfl, hz, q⟩ := h
  obtain ⟨t, rfl⟩ := rx
  obtain ⟨t', rfl⟩ := ry
  exact add_str (fun t' tk => ⟨.str (i ++ j), H, I.tok _, ⟨_, rfl⟩, q⟩) hz
theorem vals1 {x : V} {us : List Value} (r : Vals [x] us) : ∃ u, us = [u] ∧ RelV x u := by
  cases r with
  | cons r1 r2 => cases r2; exact ⟨_, rfl, r1⟩
theorem vals2 {x y : V} {us : List Value} (r : Vals [x, y] us) : ∃ u w', us = [u, w'] ∧ RelV x u ∧ RelV y w' := by
  cases r with
  | cons r1 r2 =>
    cases r2 with
    | cons r3 r4 => cases r4; exact ⟨_, _, rfl, r1, r3⟩
theorem call_abs : CallR X (.builtin "abs") (fun xs H Q => ∃ i, xs = [.int i] ∧ Q (.int (if i < 0 then -i else i)) H) := by
  intro pins s σ H xs us Q I r h
  obtain ⟨i, rfl, q⟩ := h
  obtain ⟨u, rfl, t, rfl⟩ := vals1 r
  exact call_abs_int fun u tk => ⟨.int (if i < 0 then -i else i), H, I.tok _, ⟨_, rfl⟩, q⟩
theorem call_int1 : CallR X (.type "int") (fun xs H Q => (∃ i, xs = [.int i] ∧ Q (.int i) H) ∨ ∃ k, xs = [.bl k] ∧ Q (.int (if k then 1 else 0)) H) := by
  intro pins s σ H xs us Q I r h
  rcases h with ⟨i, rfl, q⟩ | ⟨k, rfl, q⟩
  · obtain ⟨u, rfl, t, rfl⟩ := vals1 r
    exact call_int_int ⟨.int i, H, I, ⟨_, rfl⟩, q⟩
  · obtain ⟨u, rfl, r1⟩ := vals1 r
    cases r1
    exact call_int_bool ⟨.int (if k then 1 else 0), H, I.tok _, ⟨_, rfl⟩, q⟩
theorem call_str_int : CallR X (.type "str") (fun xs H Q => ∃ i, xs = [.int i] ∧ i.natAbs.log2 < 1920 ∧ Q (.str (toString i)) H) := by
  intro pins s σ H xs us Q I r h
  obtain ⟨i, rfl, hz, q⟩ := h
  obtain ⟨u, rfl, t, rfl⟩ := vals1 r
  exact PySem.P.str_of_int hz ⟨.str _, H, I.tok _, ⟨_, rfl⟩, q⟩
end
end L2

namespace L2
open PySem PySem.Spec PyProof.Rows

structure ObjM (h : Heap) (x dx C : Addr) (mA : Str → Option Value) : Prop where
  obj : h.get? x = some (PySem.W.instObj C dx)
  ns : h.Ns1 dx mA
  ne : dx ≠ x

theorem lookIn_ns {h : Heap} {dx : Addr} {mA : Str → Option Value} (n : h.Ns1 dx mA) : ∃ od, h.get? dx = some od ∧ ∀ name, PySem.W.lookIn name od = some (mA name) := by
  obtain ⟨o, es, ep, ho, hd, hk, _, hm⟩ := n
  refine ⟨o, ho, fun name => ?_⟩
  have e := hm name
  unfold nsFind findBy at e
  rw [← Array.find?_toList] at e
  unfold PySem.W.lookIn
  rw [hd]
  dsimp only
  split
  · rename_i y q
    rw [q] at e
    exact congrArg some e
  · rename_i q
    rw [q] at e
    have a : es.toList.any (·.refKey) = false := by
      rw [List.any_eq_false]
      intro y hy
      obtain ⟨z, t, hkey⟩ := hk y (Array.mem_toList_iff.mp hy)
      simp [DictEntry.refKey, hkey]
    have a' : ¬ es.toList.any (·.refKey) = true := by rw [a]; exact Bool.false_ne_true
    rw [if_neg a']
    exact congrArg some e

theorem ObjM.look {h : Heap} {x dx C : Addr} {mA : Str → Option Value} (I : ObjM h x dx C mA) : ∃ od, PySem.W.InstAt h x (PySem.W.instObj C dx) C (some od) ∧ ∀ name, PySem.W.lookIn name od = some (mA name) :=
  let ⟨od, ho, hl⟩ := lookIn_ns I.ns
  ⟨od, ⟨I.obj, rfl, rfl, ho⟩, hl⟩

section
variable {prog : Program} {w : World} {A : Around} {E : Value → Shared → Prop} {s : Shared} {K : PySem.W.Frag} {x dx C f : Addr} {mA : Str → Option Value} {name : Str} {v : Value}

theorem get_map {expr : Bool} {Q : Value → Shared → Prop} (X : K.In s.heap) (I : ObjM s.heap x dx C mA) (hg : PySem.W.plainGet K C name = true) (hh : PySem.W.hasDictIn K C = true)
    (ha : PySem.W.findIn K (.ref C) name = some none) (hv : mA name = some v) (hv' : PySem.W.handedIn v = true) (h : Q v { s with toks := s.toks + 1 }) :
    wpAny (model prog w) A (getAttr (.ref x) name expr) Q E s := by
  obtain ⟨od, J, hl⟩ := I.look
  exact PySem.W.get_value X J (PySem.W.plainGet_of hg).1 (PySem.W.findObj_own hh ha rfl (by rw [hl, hv])) hv' h

theorem set_map {ns : List Str} {Q : Unit → Shared → Prop} (X : K.In s.heap) (I : ObjM s.heap x dx C mA)
    (hs : PySem.W.findIn K (.ref C) "__setattr__" = some (some (.builtin "object.__setattr__"))) (hp : PySem.W.plainOver K C = true) (ht : PySem.W.takerIn K C name = some none) (hh : PySem.W.hasDictIn K C = true)
    (hw : PySem.Within mA ns) (hsz : ns.length ≤ sizeLine)
    (h : ∀ h', ObjM h' x dx C (fun y => if y = name then some v else mA y) → Heap.SameBut dx s.heap h' → Q () { s with heap := h', toks := s.toks + 2 }) :
    wpAny (model prog w) A (setAttr (.ref x) name v) Q E s := by
  obtain ⟨od, J, hl⟩ := I.look
  refine PySem.W.set_plain X J hs (PySem.W.osa_open (s := { s with toks := s.toks + 1 }) (r := none) X J hp ht fun b => ?_)
  obtain ⟨cd, hc, hd'⟩ := PySem.W.any_some hh
  have hx : s.heap.get? x = some ⟨.ref C, some dx, .plain, #[]⟩ := I.obj
  refine wpAny_bind (wpAny_pure (wpAny_bind (wpAny_bind (wpAny_loadPart hx (wpAny_bind (PySem.W.Looks.here (s := { s with toks := s.toks + 1 }) (PySem.W.looks_clsIn X hc) ?_))))))
  rw [hd']
  refine wpAny_pure (a := some dx) (wpAny_bind (wpAny_pure (wpAny_bind ?_)))
  refine wpAny_nsSet1 (s := { s with toks := s.toks + 1 }) I.ns fun h' hn2 hs2 => ?_
  obtain ⟨oD, esD, epD, hoD, hdD, hcD⟩ := hn2.count (PySem.Within.cons name v hw)
  refine wpAny_bind (wpAny_lookBehind hoD (by rw [hdD]; exact pastItsLine_dict (Nat.le_trans hcD (by rw [List.length_cons]; (first | lia | omega)))) ?_)
  exact wpAny_pure (h _ ⟨(hs2.2 _ (Ne.symm I.ne)).trans I.obj, hn2, I.ne⟩ hs2)

theorem make_map {R : Result → Shared → Prop} {vs : List Value} {kw : List (Str × Value)} (X : K.In s.heap) (hm : PySem.W.makesIn K C = true)
    (hi : PySem.W.findIn K (.ref C) "__init__" = some (some (.ref f))) (hf : PySem.W.typeIn K (.ref f) = some (.type "function"))
    (h : codeAny (model prog w) (A.under (.builtin "type.__call__" ⟨.ref C :: vs, kw⟩)) (.call (.ref f) ⟨.ref (s.heap.objs.size + 1) :: vs, kw⟩) (PySem.W.InitBack (s.heap.objs.size + 1) R)
      { s with heap := (s.heap.push PySem.W.emptyDict).push (PySem.W.instObj C s.heap.objs.size) }) :
    codeAny (model prog w) A (.call (.ref C) ⟨vs, kw⟩) R s := by
  obtain ⟨hh, g, d, t, os⟩ := s
  exact PySem.W.make_core (PySem.W.makes_of X hm) (PySem.W.looks_findIn X hi) (fun self => PySem.W.bind_fn X self hf) (.inl rfl) h
end

noncomputable def putF (f : Str) (v : V) : List (Str × V) → List (Str × V)
  | [] => [(f, v)]
  | (g, x) :: r => if g = f then (g, v) :: r else (g, x) :: putF f v r
theorem lookup_putF (f g : Str) (v : V) : ∀ fs : List (Str × V), (putF f v fs).lookup g = if g = f then some v else fs.lookup g
  | [] => by
    show List.lookup g [(f, v)] = _
    by_cases h : g = f
    · have hb : (g == f) = true := beq_iff_eq.mpr h
      simp only [List.lookup, hb, if_pos h]
    · have hb : (g == f) = false := beq_eq_false_iff_ne.mpr h
      simp only [List.lookup, hb, if_neg h]
  | (k, x) :: r => by
    have ih := lookup_putF f g v r
    rw [show putF f v ((k, x) :: r) = (if k = f then (k, v) :: r else (k, x) :: putF f v r) from rfl]
    by_cases hk : k = f
    · rw [if_pos hk]
      by_cases h : g = k
      · have hb : (g == k) = true := beq_iff_eq.mpr h
        simp only [List.lookup, hb, if_pos (h.trans hk)]
      · have hb : (g == k) = false := beq_eq_false_iff_ne.mpr h
        simp only [List.lookup, hb, if_neg (fun e : g = f => h (e.trans hk.symm))]
    · rw [if_neg hk]
      by_cases h : g = k
      · have hb : (g == k) = true := beq_iff_eq.mpr h
        simp only [List.lookup, hb, if_neg (fun e : g = f => hk (h.symm.trans e))]
      · have hb : (g == k) = false := beq_eq_false_iff_ne.mpr h
        simp only [List.lookup, hb]
        exact ih
theorem keys_putF (f : Str) (v : V) : ∀ fs : List (Str × V), f ∈ (putF f v fs).map (·.1) ∧ ∀ g, g ∈ fs.map (·.1) → g ∈ (putF f v fs).map (·.1)
  | [] => ⟨by simp [putF], fun g h => by simp at h⟩
  | (k, x) :: r => by
    obtain ⟨i1, i2⟩ := keys_putF f v r
    rw [show putF f v ((k, x) :: r) = (if k = f then (k, v) :: r else (k, x) :: putF f v r) from rfl]
    by_cases hk : k = f
    · rw [if_pos hk]
      subst hk
      exact ⟨by simp, fun g h => by simpa using h⟩
    · rw [if_neg hk]
      refine ⟨?_, fun g h => ?_⟩
      · rw [List.map_cons]
        exact List.mem_cons_of_mem _ i1
      · rw [List.map_cons] at h ⊢
        rcases List.mem_cons.mp h with e | e
        · exact List.mem_cons.mpr (.inl e)
        · exact List.mem_cons_of_mem _ (i2 g e)
theorem length_putF (f : Str) (v : V) : ∀ fs : List (Str × V), (putF f v fs).length ≤ fs.length + 1
  | [] => by simp [putF]
  | (k, x) :: r => by
    have ih := length_putF f v r
    rw [show putF f v ((k, x) :: r) = (if k = f then (k, v) :: r else (k, x) :: putF f v r) from rfl]
    by_cases hk : k = f
    · rw [if_pos hk, List.length_cons, List.length_cons]; (first | lia | omega)
    · rw [if_neg hk, List.length_cons, List.length_cons]; (first | lia | omega)

theorem RelO.some_of {v : V} {o : Option Value} (r : RelO (some v) o) : ∃ u, o = some u ∧ RelV v u := by
  cases o with
  | none => exact (show False from r).elim
  | some u => exact ⟨u, rfl, r⟩
theorem handed_of {v : V} {u : Value} (r : RelV v u) : PySem.W.handedIn u = true := by
  cases v with
  | non => cases (show u = Value.none from r); rfl
  | bl b => cases (show u = Value.bool b from r); rfl
  | int i => obtain ⟨t, e⟩ := (show ∃ t, u = Value.int i t from r); cases e; rfl
  | str x => obtain ⟨t, e⟩ := (show ∃ t, u = Value.str x t from r); cases e; rfl
  | byt b => obtain ⟨t, e⟩ := (show ∃ t, u = Value.bytes b t from r); cases e; rfl
  | flt b => obtain ⟨t, e⟩ := (show ∃ t, u = Value.float b t from r); cases e; rfl
  | ref a => cases (show u = Value.ref a from r); rfl
  | ty n => cases (show u = Value.type n from r); rfl

section
variable {P : Program} {w : World} {H H' : Hp} {h h' : Heap} {a C dx : Addr} {fs fs' : List (Str × V)}
theorem ins_get (hok : HOk P w H h) (e : H a = some (.ins C dx fs)) : ∃ mA, ObjM h a dx C mA ∧ (∀ f, RelO (fs.lookup f) (mA f)) ∧ PySem.Within mA (fs.map (·.1)) ∧ fs.length ≤ 1000 ∧ H dx = some (.own a) := by
  obtain ⟨d, z, ne, ob, mA, n, r, q⟩ := (show ObjOk P w H h a (.ins C dx fs) from hok a _ e)
  exact ⟨mA, ⟨ob, n, ne⟩, r, q, z, d⟩
end

structure Cls (K : PySem.W.Frag) (C : Addr) : Prop where
  pg : PySem.W.plainGet K C Str.empty = true
  hd : PySem.W.hasDictIn K C = true
  po : PySem.W.plainOver K C = true
  sa : PySem.W.findIn K (.ref C) "__setattr__" = some (some (.builtin "object.__setattr__"))
theorem Cls.get {K : PySem.W.Frag} {C : Addr} (c : Cls K C) (f : Str) : PySem.W.plainGet K C f = true := c.pg
noncomputable def NoAttr (K : PySem.W.Frag) (C : Addr) (f : Str) : Prop := PySem.W.findIn K (.ref C) f = some none
theorem NoAttr.taker {K : PySem.W.Frag} {C : Addr} {f : Str} (n : NoAttr K C f) : PySem.W.takerIn K C f = some none := by
  unfold PySem.W.takerIn
  rw [show PySem.W.findIn K (.ref C) f = some none from n]
  rfl
section
variable {X : Cx} {pins : List (Addr × Obj)} {σ : St} {H : Hp} {s : Shared} {a C dx : Addr} {fs : List (Str × V)} {f : Str} {v : V} {A : Around} {E : Value → Shared → Prop}

theorem getattr_ok {b : Bool} {Q : Value → Shared → Prop} (I : Inv X pins σ H s) (e : H a = some (.ins C dx fs)) (c : Cls X.K C) (n : NoAttr X.K C f) (l : fs.lookup f = some v)
    (h : ∀ u s', Inv X pins σ H s' → RelV v u → Q u s') : wpAny (model X.prog X.w) A (getAttr (.ref a) f b) Q E s := by
  obtain ⟨mA, O, r, _, _, _⟩ := ins_get I.hok e
  obtain ⟨u, hu, ru⟩ := RelO.some_of (v := v) (o := mA f) (by rw [← l]; exact r f)
  exact get_map I.kIn O (c.get f) c.hd n hu (handed_of ru) (h u _ (I.tok _) ru)

theorem setattr_ok {y : V} {u : Value} {Q : Unit → Shared → Prop} (I : Inv X pins σ H s) (e : H a = some (.ins C dx fs)) (c : Cls X.K C) (n : NoAttr X.K C f) (hl : fs.length < 1000) (ry : RelV y u)
    (h : ∀ s', Inv X pins σ (upd H a (.ins C dx (putF f y fs))) s' → Q () s') : wpAny (model X.prog X.w) A (setAttr (.ref a) f u) Q E s := by
  obtain ⟨mA, O, r, wi, _, ho⟩ := ins_get I.hok e
  have hz : (fs.map (·.1)).length ≤ sizeLine := by rw [List.length_map, sizeLine_eq]; (first | lia | omega)
  refine set_map I.kIn O c.sa c.po n.taker c.hd wi hz fun h' O' sb => h _ ?_
  have hd : ∃ o, h'.get? dx = some o := let ⟨o, _, _, e', _⟩ := O'.ns; ⟨o, e'⟩
  refine I.write (x := a) (e := dx) (by rw [e]; exact True.intro) (.inr ho) (fun b q hb z => (sb.2 b hb).trans z) hd ?_
  refine ⟨by rw [upd_ne O.ne]; exact ho, ?_, O.ne, O'.obj, _, O'.ns, fun g => ?_, fun g hg => ?_⟩
  · have := length_putF f y fs; (first | lia | omega)
  · show RelO ((putF f y fs).lookup g) (if g = f then some u else mA g)
    rw [lookup_putF]
    by_cases q : g = f
    · rw [if_pos q, if_pos q]; exact ry
    · rw [if_neg q, if_neg q]; exact r g
  · by_cases q : g = f
    · rw [q]; exact (keys_putF f y fs).1
    · refine (keys_putF f y fs).2 g (wi g fun z => hg ?_)
      show (if g = f then some u else mA g) = none
      rw [if_neg q]; exact z

theorem Inv.made (I : Inv X pins σ H s) : Inv X pins σ (upd (upd H s.heap.objs.size (.own (s.heap.objs.size + 1))) (s.heap.objs.size + 1) (.ins C s.heap.objs.size []))
    { s with heap := (s.heap.push PySem.W.emptyDict).push (PySem.W.instObj C s.heap.objs.size) } := by
  have e1 : (s.heap.push PySem.W.emptyDict).get? s.heap.objs.size = some PySem.W.emptyDict := Heap.get?_push_size s.heap rfl
  have e2 : ((s.heap.push PySem.W.emptyDict).push (PySem.W.instObj C s.heap.objs.size)).get? (s.heap.objs.size + 1) = some (PySem.W.instObj C s.heap.objs.size) := by
    have := Heap.get?_push_size (s.heap.push PySem.W.emptyDict) (o := PySem.W.instObj C s.heap.objs.size) rfl
    rwa [Heap.size_push] at this
  have e3 : (s.heap.push PySem.W.emptyDict).Ns s.heap.objs.size (fun _ => none) := ⟨PySem.W.emptyDict, #[], _, e1, rfl, (fun e he => absurd he (by simp)), fun _ => rfl⟩
  have I1 := I.laid (a := s.heap.objs.size) (o := .own (s.heap.objs.size + 1)) (h' := s.heap.push PySem.W.emptyDict) (t' := s.toks) (fun b u q => Heap.get?_push_of_some _ q) (Nat.le_refl _) ⟨_, e1⟩
  refine I1.laid (a := s.heap.objs.size + 1) (o := .ins C s.heap.objs.size []) (t' := s.toks) (fun b u q => Heap.get?_push_of_some _ q) (Nat.le_of_eq (Heap.size_push _ _)) ?_
  have ne : s.heap.objs.size ≠ s.heap.objs.size + 1 := Nat.ne_of_lt (Nat.lt_succ_self _)
  refine ⟨by rw [upd_ne ne, upd_same], Nat.zero_le _, ne, e2, fun _ => none, (Heap.Ns1.of_empty e3).at fun o q => Heap.get?_push_of_some _ q, fun _ => True.intro, fun y hy => absurd rfl hy⟩

theorem attr_of {prog : Program} {w : World} {env : Env} {e : Expr} {f : Str} {pos : Pos} {s : Shared} {Q : Value → Shared → Prop} (hb : attributeBase e f env (eval e env) = eval e env)
    (h : wpAny (model prog w) A (eval e env) (fun o s₁ => wpAny (model prog w) A (getAttr o f true) Q E s₁) E s) : wpAny (model prog w) A (eval (.Attribute e f pos) env) Q E s :=
  Attribute_any_ h (by rw [arm_eval_Attribute, hb])
end

noncomputable def tFld (K : PySem.W.Frag) (ta : TE) (f : Str) : TE := fun σ H Q => ta σ H fun x H1 => ∃ a C dx fs v, x = .ref a ∧ H1 a = some (.ins C dx fs) ∧ Cls K C ∧ NoAttr K C f ∧ fs.lookup f = some v ∧ Q v H1
noncomputable def sFld (K : PySem.W.Frag) (ta tv : TE) (f : Str) : TS := fun D σ H => tv σ H fun y H1 => ta σ H1 fun x H2 => ∃ a C dx fs, x = .ref a ∧ H2 a = some (.ins C dx fs) ∧ Cls K C ∧ NoAttr K C f ∧ fs.length < 1000 ∧
  D.nx σ (upd H2 a (.ins C dx (putF f y fs)))
noncomputable def InOp (X : Cx) (op : Operator) (rd : V → V → Hp → VK → Prop) : Prop :=
  ∀ (pins : List (Addr × Obj)) (s : Shared) (σ : St) (H : Hp) (x y : V) (u v : Value) (Q : VK), Inv X pins σ H s → RelV x u → RelV y v → rd x y H Q → wpAny (model X.prog X.w) X.A (inplaceOp op u v) (EP X pins σ Q) X.xe s
noncomputable def sFldAug (K : PySem.W.Frag) (ta tv : TE) (rd : V → V → Hp → VK → Prop) (f : Str) : TS := fun D σ H => ta σ H fun x H1 => ∃ a C dx fs v, x = .ref a ∧ H1 a = some (.ins C dx fs) ∧ Cls K C ∧ NoAttr K C f ∧ fs.lookup f = some v ∧
  tv σ H1 fun y H2 => rd v y H2 fun z H3 => ∃ dx' fs', H3 a = some (.ins C dx' fs') ∧ fs'.length < 1000 ∧ D.nx σ (upd H3 a (.ins C dx' (putF f z fs')))

section
variable {X : Cx} {o e value : Expr} {f : Str} {pos pos' tpos : Pos} {ta tv : TE}
theorem pe_fld (he : PE X e ta) (hb : attributeBase e f X.env (eval e X.env) = eval e X.env) : PE X (.Attribute e f pos) (tFld X.K ta f) := by
  intro pins s σ H Q I h
  refine attr_of hb (thn (he pins s σ H _ I h) fun u s1 ⟨x, H1, I1, rx, a, C, dx, fs, v, ex, ea, c, n, l, q⟩ => ?_)
  subst ex
  obtain rfl : u = Value.ref a := rx
  exact getattr_ok I1 ea c n l fun u' s2 I2 ru => ⟨v, H1, I2, ru, q⟩
theorem ps_fld (ha : PE X o ta) (hv : PE X value tv) (hs : swapsWith value (some (.Attribute o f pos')) pos.line X.env = pure false) : PS X (.Assign [.Attribute o f pos'] value pos) (sFld X.K ta tv f) := by
  intro pins s σ H D I h
  refine plainObj_wpAny_Assign_Attribute (thn (hv pins s σ H _ I h) fun u s1 ⟨y, H1, I1, ry, q⟩ => thn (ha pins s1 σ H1 _ I1 q) fun ov s2 ⟨x, H2, I2, rx, a, C, dx, fs, ex, ea, c, n, l, q2⟩ => ?_) hs
  subst ex
  obtain rfl : ov = Value.ref a := rx
  exact setattr_ok I2 ea c n l ry fun s3 I3 => ⟨σ, _, I3, q2⟩
theorem ps_fldaug {op : Operator} {rd : V → V → Hp → VK → Prop} (ha : PE X o ta) (hv : PE X value tv) (hop : InOp X op rd) : PS X (.AugAssign (.Attribute o f tpos) op value pos) (sFldAug X.K ta tv rd f) := by
  intro pins s σ H D I h
  refine wpAny_AugAssign_AttributeAny (thn (ha pins s σ H _ I h) fun ov s1 ⟨x, H1, I1, rx, a, C, dx, fs, v, ex, ea, c, n, l, q⟩ => ?_)
  subst ex
  obtain rfl : ov = Value.ref a := rx
  refine getattr_ok I1 ea c n l fun u s2 I2 ru => thn (hv pins s2 σ H1 _ I2 q) fun w3 s3 ⟨y, H2, I3, ry, q3⟩ => thn (hop pins s3 σ H2 v y u w3 _ I3 ru ry q3) fun w4 s4 ⟨z, H3, I4, rz, dx', fs', ea', l', q4⟩ => ?_
  exact setattr_ok I4 ea' c n l' rz fun s5 I5 => ⟨σ, _, I5, q4⟩
noncomputable def rAdd : V → V → Hp → VK → Prop := fun x y H Q => ∃ i j, x = .int i ∧ y = .int j ∧ Q (.int (i + j)) H
theorem in_add : InOp X .Add rAdd := by
  rintro pins s σ H x y u v Q I rx ry ⟨i, j, rfl, rfl, q⟩
  obtain ⟨t, rfl⟩ := (show ∃ t, u = Value.int i t from rx)
  obtain ⟨t', rfl⟩ := (show ∃ t', v = Value.int j t' from ry)
  exact PyProof.Rows.iadd_int ⟨.int (i + j), H, I.tok _, ⟨_, rfl⟩, q⟩
end

section
variable {X : Cx} {pins : List (Addr × Obj)} {σ : St} {H : Hp} {s : Shared} {A : Around} {E : Value → Shared → Prop} {Q : Value → Shared → Prop} {c : Value} {b : Bool}
inductive TyOf (K : PySem.W.Frag) (H : Hp) : V → Value → Prop where
  | non : TyOf K H .non (.type "NoneType")
  | bl (x : Bool) : TyOf K H (.bl x) (.type "bool")
  | int (i : Int) : TyOf K H (.int i) (.type "int")
  | str (x : Str) : TyOf K H (.str x) (.type "str")
  | flt (x : UInt64) : TyOf K H (.flt x) (.type "float")
  | lst {a : Addr} {xs : List V} (e : H a = some (.lst xs)) : TyOf K H (.ref a) (.type "list")
  | frz {a : Addr} {o : Obj} {xs : List V} (e : H a = some (.frz o (.lst xs))) : TyOf K H (.ref a) (.type "list")
  | tup {a : Addr} {xs : List V} (e : H a = some (.tup xs)) : TyOf K H (.ref a) (.type "tuple")
  | dK {a : Addr} {kvs : List (Key × V)} (e : H a = some (.dK kvs)) : TyOf K H (.ref a) (.type "dict")
  | dT {a : Addr} {kvs : List (List Key × V)} (e : H a = some (.dT kvs)) : TyOf K H (.ref a) (.type "dict")
  | ins {a C dx : Addr} {fs : List (Str × V)} (e : H a = some (.ins C dx fs)) (cl : Cls K C) (ha : PySem.W.findIn K (.ref C) "__class__" = some (some (.builtin "object.__class__")))
      (hn : PySem.W.specialIn K (.builtin "object.__class__") "__get__" = some (some (.builtin "getset_descriptor.__get__"))) (htk : PySem.W.takesIn K (.builtin "object.__class__") = some true)
      (hm : PySem.W.mroIn K C (.type "object") = some true) : TyOf K H (.ref a) (.ref C)
theorem isinst_ok {x : V} {u t : Value} (I : Inv X pins σ H s) (rx : RelV x u) (ty : TyOf X.K H x t) (e : PySem.W.kitOne X.K t c = some b) (h : ∀ tk, Q (.bool b) { s with toks := tk }) :
    wpAny (model X.prog X.w) A (call (.builtin "isinstance") [u, c]) Q E s := by
  cases ty with
  | non => cases (show u = Value.none from rx); exact PySem.W.kia_one PySem.W.kitx_none I.kIn True.intro e (fun z => nomatch z) h
  | bl y => cases (show u = Value.bool y from rx); exact PySem.W.kia_one PySem.W.kitx_bool I.kIn True.intro e (fun z => nomatch z) h
  | int i => obtain ⟨t, q⟩ := (show ∃ t, u = Value.int i t from rx); cases q; exact PySem.W.kia_one PySem.W.kitx_int I.kIn True.intro e (fun z => nomatch z) h
  | str y => obtain ⟨t, q⟩ := (show ∃ t, u = Value.str y t from rx); cases q; exact PySem.W.kia_one PySem.W.kitx_str I.kIn True.intro e (fun z => nomatch z) h
  | flt y => obtain ⟨t, q⟩ := (show ∃ t, u = Value.float y t from rx); cases q; exact PySem.W.kia_one PySem.W.kitx_float I.kIn True.intro e (fun z => nomatch z) h
  | @lst a xs ea =>
    cases (show u = Value.ref a from rx)
    obtain ⟨_, _, n, _, h1⟩ := (show ObjOk X.prog X.w H s.heap a (.lst xs) from I.hok a _ ea)
    exact PySem.W.kia_one PySem.W.kitx_list I.kIn ⟨_, h1, rfl⟩ e (fun z => nomatch z) h
  | @frz a ob xs ea =>
    cases (show u = Value.ref a from rx)
    obtain ⟨_, _, _, n, _, h1⟩ := (show ObjOk X.prog X.w H s.heap a (.frz ob (.lst xs)) from I.hok a _ ea)
    exact PySem.W.kia_one PySem.W.kitx_list I.kIn ⟨_, h1, rfl⟩ e (fun z => nomatch z) h
  | @tup a xs ea =>
    cases (show u = Value.ref a from rx)
    obtain ⟨_, _, _, p⟩ := (show ObjOk X.prog X.w H s.heap a (.tup xs) from I.hok a _ ea)
    obtain ⟨o, h1, h2, _⟩ := p
    exact PySem.W.kia_one PySem.W.kitx_tuple I.kIn ⟨o, h1, h2⟩ e (fun z => nomatch z) h
  | @dK a kvs ea =>
    cases (show u = Value.ref a from rx)
    obtain ⟨_, _, vs, _, p⟩ := (show ObjOk X.prog X.w H s.heap a (.dK kvs) from I.hok a _ ea)
    obtain ⟨o, es, ep, h1, h2, _⟩ := p
    exact PySem.W.kia_one PySem.W.kitx_dict I.kIn ⟨o, h1, h2.1⟩ e (fun z => nomatch z) h
  | @dT a kvs ea =>
    cases (show u = Value.ref a from rx)
    obtain ⟨_, _, xs, _, o, es, ep, h1, h2, _⟩ := (show ObjOk X.prog X.w H s.heap a (.dT kvs) from I.hok a _ ea)
    exact PySem.W.kia_one PySem.W.kitx_dict I.kIn ⟨o, h1, h2.1⟩ e (fun z => nomatch z) h
  | @ins a C dx fs ea cl ha hn htk hm =>
    cases (show u = Value.ref a from rx)
    obtain ⟨mA, O, _⟩ := ins_get I.hok ea
    obtain ⟨od, J, _⟩ := O.look
    exact PySem.W.kia_one (PySem.W.kitx_own (cl.get _) cl.hd ha hn htk hm) I.kIn J e (fun z => nomatch z) h
end
end L2

namespace L2
open PySem PySem.Spec PyProof.Rows

structure Room (k : Nat) (A : Around) : Prop where
  hd : A.handled = none
  dp : A.depth + 3 * k + 5 < recursionLimit
  un : A.units + 16 * k + 200 < cLine
  gd : A.guards = some []
theorem Room.mono {j k : Nat} {A : Around} (r : Room k A) (h : j ≤ k) : Room j A := ⟨r.hd, by have := r.dp; (first | lia | omega), by have := r.un; (first | lia | omega), r.gd⟩
theorem Room.deeper {k : Nat} {A : Around} (r : Room (k + 1) A) (env : Env) : Room k (A.deeper env) :=
  ⟨r.hd, by have := r.dp; show A.depth + 1 + 3 * k + 5 < _; (first | lia | omega), by have := r.un; show A.units + 3 + 16 * k + 200 < _; (first | lia | omega), r.gd⟩
theorem make_depth {A : Around} {C : Addr} {us : List Value} {kw : List (Str × Value)} : (A.under (.builtin "type.__call__" ⟨.ref C :: us, kw⟩)).depth = A.depth + 1 := by
  first | rfl | simp [Around.under, Code.weight, Code.isCreation, Code.isGuard, Code.isCaller, Code.frames, Code.isFrame, guardIds]
theorem make_units {A : Around} {C : Addr} {us : List Value} {kw : List (Str × Value)} : (A.under (.builtin "type.__call__" ⟨.ref C :: us, kw⟩)).units = A.units + 1 := by
  first | rfl | simp [Around.under, Code.cUnits, Code.frames, Code.isFrame]
theorem Room.make {k : Nat} {A : Around} (r : Room (k + 1) A) (C : Addr) (us : List Value) (kw : List (Str × Value)) : Room k (A.under (.builtin "type.__call__" ⟨.ref C :: us, kw⟩)) :=
  ⟨r.hd, by have := r.dp; rw [make_depth]; (first | lia | omega), by have := r.un; rw [make_units]; (first | lia | omega), by first | exact r.gd | (have := r.gd; simpa [Around.under, Code.isGuard, guardIds] using this)⟩
theorem Room.depth {k : Nat} {A : Around} (r : Room k A) : A.depth < recursionLimit := by have := r.dp; (first | lia | omega)
theorem Room.units {k : Nat} {A : Around} (r : Room k A) : A.units + 64 < cLine := by have := r.un; (first | lia | omega)
noncomputable def tNil : TA := fun _ H Q => Q [] H
noncomputable def tCons (ta : TE) (tr : TA) : TA := fun σ H Q => ta σ H fun x H1 => tr σ H1 fun xs H2 => Q (x :: xs) H2
section
variable {X : Cx} {e : Expr} {es : List Expr} {te : TE} {t : TA} {pos : Pos}
theorem pa_nil : PA X [] tNil := fun _ _ _ _ H Q I h => Calls.spliced_nil ⟨[], H, I, .nil, h⟩
theorem pa_cons (ha : PE X e te) (hr : PA X es t) (hs : starEach (e :: es) X.env = (false, eval e X.env) :: starEach es X.env := by rfl) : PA X (e :: es) (tCons te t) := by
  intro pos pins s σ H Q I h
  rw [hs]
  show wpAny _ _ (spliced ((false, eval e X.env) :: backTo pos (starEach es X.env))) _ _ s
  refine Calls.spliced_cons (thn (ha pins s σ H _ I h) fun u s1 ⟨x, H1, I1, r1, q1⟩ => ?_)
  exact thn (hr pos pins s1 σ H1 _ I1 q1) fun us s2 ⟨xs, H2, I2, r2, q2⟩ => ⟨x :: xs, H2, I2, .cons r1 r2, q2⟩

noncomputable def tTup (t : TA) : TE := fun σ H Q => t σ H fun xs H1 => xs.length ≤ sizeLine ∧ ∀ p, H1 p = none → Q (.ref p) (upd H1 p (.tup xs))
noncomputable def tLst (t : TA) : TE := fun σ H Q => t σ H fun xs H1 => xs.length ≤ sizeLine ∧ ∀ p, H1 p = none → Q (.ref p) (upd H1 p (.lst xs))
theorem pe_tup {x1} (h : PA X es t) : PE X (.Tuple es x1 pos) (tTup t) := by
  intro pins s σ H Q I hq
  refine wpAny_Tuple_spliced (thn (h pos pins s σ H _ I hq) fun us s1 ⟨xs, H1, I1, r, z, q⟩ => ⟨by rw [← r.length]; exact z, ?_⟩)
  have hf : H1 s1.heap.objs.size = none := I1.hok.fresh (Nat.le_refl _)
  refine ⟨.ref s1.heap.objs.size, upd H1 s1.heap.objs.size (.tup xs), I1.laid (t' := s1.toks) (fun b u e => Heap.get?_push_of_some _ e) (Nat.le_refl _) ?_, rfl, q _ hf⟩
  exact ⟨z, us, r, ⟨_, Heap.get?_push_size _ rfl, rfl, _, rfl⟩⟩
theorem pe_lst (h : PA X es t) : PE X (.List es pos) (tLst t) := by
  intro pins s σ H Q I hq
  refine wpAny_List_spliced (thn (h pos pins s σ H _ I hq) fun us s1 ⟨xs, H1, I1, r, z, q⟩ => ⟨by rw [← r.length]; exact z, ?_⟩)
  have hf : H1 s1.heap.objs.size = none := I1.hok.fresh (Nat.le_refl _)
  refine ⟨.ref s1.heap.objs.size, upd H1 s1.heap.objs.size (.lst xs), I1.laid (t' := s1.toks) (fun b u e => Heap.get?_push_of_some _ e) (Nat.le_refl _) ?_, rfl, q _ hf⟩
  exact ⟨z, us, 0, r, Heap.get?_push_size _ rfl⟩
end

noncomputable abbrev Sp := List V → Hp → VK → XK → Prop
noncomputable abbrev CXT := List Env → Hp → Shared → XK → Value → Shared → Prop

structure Env0 (P : Program) (w : World) (K : PySem.W.Frag) (mg : Str → Option Value) (base : Heap) (A : Around) (outer : List Env) (s : Shared) (H : Hp) : Prop where
  frames : A.frames = some outer
  mod : Mod K mg base
  bs : ∀ b o, base.get? b = some o → s.heap.get? b = some o ∧ H b = none
  bsz : base.objs.size ≤ s.heap.objs.size
  funs : s.heap.FunFrames base outer
  frf : ∀ b ∈ frs outer, H b = none
  hok : HOk P w H s.heap
  bare : AllBare s.gens
noncomputable def CE (outer : List Env) (P : Program) (w : World) (H : Hp) (s : Shared) (Q : VK) (u : Value) (s' : Shared) : Prop :=
  ∃ v H', s'.os = s.os ∧ AllBare s'.gens ∧ Un (frs outer) [] H H' s.heap s'.heap ∧ HOk P w H' s'.heap ∧ RelV v u ∧ Q v H'
noncomputable def CR (CX : CXT) (outer : List Env) (P : Program) (w : World) (H : Hp) (s : Shared) (Q : VK) (E : XK) (r : Result) (s' : Shared) : Prop :=
  match r with
  | .ok (.ret u) => CE outer P w H s Q u s'
  | .ok _ => False
  | .error e => CX outer H s E e s'
structure FnOk (P : Program) (w : World) (K : PySem.W.Frag) (mg : Str → Option Value) (base : Heap) (CX : CXT) (k : Nat) (f : Addr) (fd : FuncData) (ps : List Str) (sp : Sp) : Prop where
  len : ∀ vs H Q E, sp vs H Q E → vs.length = ps.length
  run : ∀ (A : Around) (outer : List Env) (s : Shared) (H : Hp) (args : Args) (us : List Value) (vs : List V) (Q : VK) (E : XK), Room k A → Env0 P w K mg base A outer s H → BindsTo s fd args (ps.zip us) → Vals vs us → sp vs H Q E →
    codeAny (model P w) A (.call (.ref f) args) (CR CX outer P w H s Q E) s
theorem Env0.make {P : Program} {w : World} {K : PySem.W.Frag} {mg : Str → Option Value} {base : Heap} {A : Around} {outer : List Env} {s : Shared} {H : Hp} (e : Env0 P w K mg base A outer s H) (C : Addr) (us : List Value) (kw : List (Str × Value)) :
    Env0 P w K mg base (A.under (.builtin "type.__call__" ⟨.ref C :: us, kw⟩)) outer s H := ⟨by first | exact e.frames | (simpa [Around.under, Code.envs, Code.isFrame, pushEnvs] using e.frames), e.mod, e.bs, e.bsz, e.funs, e.frf, e.hok, e.bare⟩
section
variable {X : Cx} {pins : List (Addr × Obj)} {σ : St} {H : Hp} {s s' : Shared}
theorem Inv.env0 (I : Inv X pins σ H s) : Env0 X.prog X.w X.K X.mg X.base X.A X.stack s H :=
  ⟨I.ok.frames, I.ok.mod, I.bs, Nat.le_trans I.ok.bsz I.sz, I.stack, I.stkFree, I.hok, I.bare⟩
theorem Inv.after {Q : VK} {u : Value} (I : Inv X pins σ H s) (h : CE X.stack X.prog X.w H s Q u s') : EP X pins σ Q u s' := by
  obtain ⟨v, H', os, bare, un, hok, r, q⟩ := h
  obtain ⟨hh, g, d, t, os'⟩ := s'
  obtain rfl : os' = s.os := os
  exact ⟨v, H', I.call (h' := hh) (g' := g) (d' := d) (t' := t) (ch := []) un hok bare (fun b z => absurd z (by simp)), r, q⟩
end

noncomputable def tCall (sp : Sp) (dvs : List V) (E : XK) (t : TA) : TE := fun σ H Q => t σ H fun vs H1 => sp (vs ++ dvs) H1 Q E
noncomputable def tMake (C : Addr) (sp : Sp) (dvs : List V) (E : XK) (t : TA) : TE := fun σ H Q => t σ H fun vs H1 => ∀ x dx, H1 x = none → H1 dx = none → dx ≠ x →
  sp (.ref x :: (vs ++ dvs)) (upd (upd H1 dx (.own x)) x (.ins C dx [])) (fun v H2 => v = .non ∧ Q (.ref x) H2) E

noncomputable def Binds (K : PySem.W.Frag) (fd : FuncData) (ps : List Str) (ds : List Value) : Prop :=
  ∀ (s : Shared) (us : List Value), K.In s.heap → (us ++ ds).length = ps.length → BindsTo s fd ⟨us, []⟩ (ps.zip (us ++ ds))
theorem Binds.all {K : PySem.W.Frag} {fd : FuncData} {ps : List Str} (h : ∀ us : List Value, us.length = ps.length → bindArgs fd ⟨us, []⟩ = pure (ps.zip us)) : Binds K fd ps [] := fun s us _ hl => by
  rw [List.append_nil] at hl ⊢
  exact .of_eq (h us hl)

noncomputable def Passes (CX : CXT) (X : Cx) (E : XK) : Prop := ∀ (pins : List (Addr × Obj)) (σ : St) (H : Hp) (s : Shared) (e : Value) (s' : Shared), Inv X pins σ H s → CX X.stack H s E e s' → X.xe e s'

section
variable {X : Cx} {CX : CXT} {k : Nat} {f C : Addr} {fd : FuncData} {ps : List Str} {sp : Sp} {dvs : List V} {ds : List Value} {E : XK} {x m : Str} {p pos apos : Pos} {e o : Expr} {es : List Expr} {ta : TE} {t : TA}

theorem run_fn {pins : List (Addr × Obj)} {σ : St} {H : Hp} {s : Shared} {Q : VK} {us : List Value} {vs : List V} (F : FnOk X.prog X.w X.K X.mg X.base CX k f fd ps sp) (hr : Room k X.A) (hb : Binds X.K fd ps ds) (hd : Vals dvs ds) (hx : Passes CX X E)
    (I : Inv X pins σ H s) (r : Vals vs us) (h : sp (vs ++ dvs) H Q E) : wpAny (model X.prog X.w) X.A (call (.ref f) us) (EP X pins σ Q) X.xe s := by
  have r2 : Vals (vs ++ dvs) (us ++ ds) := r.append hd
  have hl : (us ++ ds).length = ps.length := by rw [← r2.length]; exact F.len _ _ _ _ h
  refine wpAny_call (codeAny_mono (F.run X.A X.stack s H ⟨us, []⟩ (us ++ ds) (vs ++ dvs) Q E hr I.env0 (hb s us I.kIn hl) r2 h) fun r s' hq => ?_)
  cases r with
  | error e => exact hx pins σ H s e s' I hq
  | ok fl =>
    cases fl with
    | ret u => exact I.after hq
    | next => exact False.elim hq
    | brk => exact False.elim hq
    | cont => exact False.elim hq

theorem pe_call (F : FnOk X.prog X.w X.K X.mg X.base CX k f fd ps sp) (hr : Room k X.A) (hg : Gl X x) (hm : X.mg x = some (.ref f)) (hk : PySem.W.keepIn X.K (.ref f) = true) (hb : Binds X.K fd ps ds) (hd : Vals dvs ds) (hx : Passes CX X E)
    (ha : PA X (e :: es) t) (hdb : (x == ("__debug__" : Str)) = false := by decide) (he : starEach (e :: es) X.env = (false, eval e X.env) :: starEach es X.env := by rfl) (hpl : (backTo pos (starEach es X.env)).any (·.1) = false := by rfl) :
    PE X (.Call (.Name x p) (e :: es) [] pos) (tCall sp dvs E t) := by
  intro pins s σ H Q I h
  refine wpAny_Call_Name_kw (ld_glob I hg hm ?_ hdb)
  refine PySem.W.callWith_K (h₀ := X.base) I.ok.mod.kin hk (thn (ha pos pins s σ H _ I h) fun us s1 ⟨vs, H1, I1, r, q⟩ => ⟨I1.kIn, ?_⟩) he hpl
  exact run_fn F hr hb hd hx I1 r q
structure Mk (K : PySem.W.Frag) (C f : Addr) : Prop where
  makes : PySem.W.makesIn K C = true
  init : PySem.W.findIn K (.ref C) "__init__" = some (some (.ref f))
  fn : PySem.W.isFn K (.ref f) = true
  kp : PySem.W.keepIn K (.ref C) = true

theorem run_make {pins : List (Addr × Obj)} {σ : St} {H : Hp} {s : Shared} {Q : VK} {us : List Value} {vs : List V} (M : Mk X.K C f) (F : FnOk X.prog X.w X.K X.mg X.base CX k f fd ps sp) (hr : Room (k + 1) X.A) (hb : Binds X.K fd ps ds) (hd : Vals dvs ds)
    (hx : Passes CX X E) (I : Inv X pins σ H s) (r : Vals vs us)
    (h : ∀ x dx, H x = none → H dx = none → dx ≠ x → sp (.ref x :: (vs ++ dvs)) (upd (upd H dx (.own x)) x (.ins C dx [])) (fun v H2 => v = .non ∧ Q (.ref x) H2) E) :
    wpAny (model X.prog X.w) X.A (call (.ref C) us) (EP X pins σ Q) X.xe s := by
  have hq := h (s.heap.objs.size + 1) s.heap.objs.size (I.hok.fresh (Nat.le_succ _)) (I.hok.fresh (Nat.le_refl _)) (Nat.ne_of_lt (Nat.lt_succ_self _))
  have I2 := Inv.made (C := C) I
  have r2 : Vals (V.ref (s.heap.objs.size + 1) :: (vs ++ dvs)) (Value.ref (s.heap.objs.size + 1) :: (us ++ ds)) := .cons rfl (r.append hd)
  have hl : (Value.ref (s.heap.objs.size + 1) :: us ++ ds).length = ps.length := by
    have e := r2.length
    rw [F.len _ _ _ _ hq] at e
    exact e.symm
  refine wpAny_call (make_map (f := f) I.kIn M.makes M.init (beq_iff_eq.mp M.fn) (codeAny_mono (F.run _ X.stack _ _ ⟨Value.ref (s.heap.objs.size + 1) :: us, []⟩ (Value.ref (s.heap.objs.size + 1) :: (us ++ ds)) _ _ E (hr.make C us [])
    (I2.env0.make C us []) (hb _ (Value.ref (s.heap.objs.size + 1) :: us) I2.kIn hl) r2 hq) fun r s' hq' => ?_))
  cases r with
  | error e => exact hx pins σ _ _ e s' I2 hq'
  | ok fl =>
    cases fl with
    | ret u =>
      obtain ⟨v, H', I3, rv, ev, q3⟩ := I2.after hq'
      subst ev
      exact ⟨rv, ⟨V.ref (s.heap.objs.size + 1), H', I3, rfl, q3⟩⟩
    | next => exact False.elim hq'
    | brk => exact False.elim hq'
    | cont => exact False.elim hq'
theorem pe_make0 (M : Mk X.K C f) (F : FnOk X.prog X.w X.K X.mg X.base CX k f fd ps sp) (hr : Room (k + 1) X.A) (hg : Gl X x) (hm : X.mg x = some (.ref C)) (hb : Binds X.K fd ps ds) (hd : Vals dvs ds) (hx : Passes CX X E)
    (hdb : (x == ("__debug__" : Str)) = false := by decide) : PE X (.Call (.Name x p) [] [] pos) (tMake C sp dvs E tNil) := by
  intro pins s σ H Q I h
  refine wpAny_Call_Name_kw (ld_glob I hg hm ?_ hdb)
  exact PySem.W.callWith_K0 I.kIn M.kp (run_make (us := []) M F hr hb hd hx I .nil h)
end

section
variable {X : Cx} {CX : CXT} {k : Nat} {f C : Addr} {fd : FuncData} {ps ks : List Str} {sp : Sp} {E : XK} {x m : Str} {p pos apos kpos : Pos} {e o : Expr} {es : List Expr} {kws : List Keyword} {te ta : TE} {t tk : TA} {nm : Option Str}
variable {g : List Value → List Value → List Value} {gV : List V → List V → List V}
end

structure FnScope (N P : List Str) (sc : Scope) : Prop where
  kind : sc.kind = .function
  co : sc.isCoroutine = false
  gen : sc.isGenerator = false
  nd : N.Nodup
  pre : N.take P.length = P
  par : ∀ x ∈ P, sc.names.lookup x = some .local ∨ sc.names.lookup x = some .cell
  nofree : ∀ y ∈ sc.names, y.2 ≠ .free

theorem bindL_out {kindOf : Str → Option NameKind} {x : Str} : ∀ {binds : List (Str × Value)} {m : Str → Option Value}, (∀ v, (x, v) ∉ binds) → bindL kindOf binds m x = m x
  | [], _, _ => rfl
  | (n, v) :: r, m, h => by
    unfold bindL
    rw [bindL_out fun w hw => h w (List.mem_cons_of_mem _ hw)]
    split
    · have : x ≠ n := by rintro rfl; exact h v List.mem_cons_self
      simp [this]
    · rfl
theorem bindC_out {kindOf : Str → Option NameKind} {x : Str} : ∀ {binds : List (Str × Value)} {m : Str → Option Value}, (∀ v, (x, v) ∉ binds) → bindC kindOf binds m x = m x
  | [], _, _ => rfl
  | (n, v) :: r, m, h => by
    unfold bindC
    rw [bindC_out fun w hw => h w (List.mem_cons_of_mem _ hw)]
    split
    · rfl
    · have : x ≠ n := by rintro rfl; exact h v List.mem_cons_self
      simp [this]
theorem bindL_get {kindOf : Str → Option NameKind} {x : Str} {v : Value} : ∀ {P : List Str} {vs : List Value} {i : Nat} {m : Str → Option Value}, P.Nodup → P[i]? = some x → vs[i]? = some v → kindOf x = some .local →
    bindL kindOf (P.zip vs) m x = some v
  | [], _, _, _, _, h, _, _ => by simp at h
  | _ :: _, [], _, _, _, _, h, _ => by simp at h
  | p :: P, w :: vs, 0, m, nd, h1, h2, hk => by
    simp at h1 h2; subst h1; subst h2
    show bindL kindOf ((p, w) :: P.zip vs) m p = _
    unfold bindL
    rw [bindL_out fun v hv => (List.nodup_cons.mp nd).1 (List.of_mem_zip hv).1, if_pos hk]
    simp
  | p :: P, w :: vs, i + 1, m, nd, h1, h2, hk => by
    show bindL kindOf ((p, w) :: P.zip vs) m x = _
    unfold bindL
    exact bindL_get (i := i) (List.nodup_cons.mp nd).2 (by simpa using h1) (by simpa using h2) hk
theorem bindC_get {kindOf : Str → Option NameKind} {x : Str} {v : Value} : ∀ {P : List Str} {vs : List Value} {i : Nat} {m : Str → Option Value}, P.Nodup → P[i]? = some x → vs[i]? = some v → kindOf x ≠ some .local →
    bindC kindOf (P.zip vs) m x = some v
  | [], _, _, _, _, h, _, _ => by simp at h
  | _ :: _, [], _, _, _, _, h, _ => by simp at h
  | p :: P, w :: vs, 0, m, nd, h1, h2, hk => by
    simp at h1 h2; subst h1; subst h2
    show bindC kindOf ((p, w) :: P.zip vs) m p = _
    unfold bindC
    rw [bindC_out fun v hv => (List.nodup_cons.mp nd).1 (List.of_mem_zip hv).1, if_neg hk]
    simp
  | p :: P, w :: vs, i + 1, m, nd, h1, h2, hk => by
    show bindC kindOf ((p, w) :: P.zip vs) m x = _
    unfold bindC
    exact bindC_get (i := i) (List.nodup_cons.mp nd).2 (by simpa using h1) (by simpa using h2) hk

noncomputable def start (N : List Str) (vs : List V) : St := vs.map some ++ List.replicate (N.length - vs.length) none

noncomputable def cxOf (CX : CXT) (P : Program) (w : World) (K : PySem.W.Frag) (mg : Str → Option Value) (base : Heap) (N : List Str) (qual : Str) (scope : Scope) (f : Addr) (cd : Value) (A : Around) (outer : List Env) (s : Shared) (H : Hp) (E : XK) : Cx where
  prog := P
  w := w
  K := K
  mg := mg
  base := base
  A := A.deeper (envOfC qual scope s.heap.objs.size f cd)
  N := N
  s₀ := s
  H₀ := H
  env := envOfC qual scope s.heap.objs.size f cd
  outer := outer
  stack := envOfC qual scope s.heap.objs.size f cd :: outer
  ex := []
  calm := true
  fn := fun _ => true
  pn := []
  xe := fun e s' => wpAny (model P w) (A.deeper (envOfC qual scope s.heap.objs.size f cd)) (leaving (envOfC qual scope s.heap.objs.size f cd) e) (fun _ s'' => CX outer H s E e s'') (fun e' s'' => CX outer H s E e' s'') s'

theorem cell_has {sc : Scope} {n : Nat} {x : Str} (h : sc.names.lookup x = some .cell) : ∃ c, (cellsFrom n sc.names []).lookup x = some c := by
  have q := PySem.W.cellsFrom_some sc.names n [] (.inl h)
  exact Option.isSome_iff_exists.mp q

theorem inv_start {CX : CXT} {P : Program} {w : World} {K : PySem.W.Frag} {mg : Str → Option Value} {base : Heap} {N ps : List Str} {qual : Str} {scope : Scope} {f : Addr} {cd : Value} {A : Around} {outer : List Env} {s s1 : Shared} {H : Hp} {E : XK} {us : List Value} {vs : List V}
    (S : FnScope N ps scope) (hd : A.handled = none) (e0 : Env0 P w K mg base A outer s H) (hl : vs.length = ps.length) (r : Vals vs us)
    (x : InCallC s s.heap.objs.size (bindL (envOfC qual scope s.heap.objs.size f cd).kindOf (ps.zip us) fun _ => none) (cellsFrom (s.heap.objs.size + 1) scope.names []) (bindC (envOfC qual scope s.heap.objs.size f cd).kindOf (ps.zip us) fun _ => none) s1) :
    Inv (cxOf CX P w K mg base N qual scope f cd A outer s H E) [] (start N vs) H s1 := by
  have hpl : ps.length ≤ N.length := by have := congrArg List.length S.pre; rw [List.length_take] at this; (first | lia | omega)
  obtain ⟨h1, tk, rfl, hk⟩ := x.done
  have noA : ∀ b : Addr, b ∉ (cxOf CX P w K mg base N qual scope f cd A outer s H E).ex := fun b z => absurd (show b ∈ ([] : List Addr) from z) (by simp)
  refine ⟨⟨e0.mod, S.kind, rfl, rfl, Nat.le_refl _, fun y z c h1 h2 => ?_, fun y hy => ?_, fun y c _ h => ?_, fun _ => hd, Around.frames_deeper e0.frames, .inr ⟨rfl, rfl⟩, fun b z => absurd z (noA b), e0.bs, e0.bsz, fun b _ _ => noA b, fun b z => absurd z (noA b), e0.funs, e0.frf⟩,
    rfl, e0.bare, Un.kept hk, ⟨_, x.toInCall.ns, fun i y v h1 h2 h3 => ?_⟩, fun y c h => ⟨_, x.cell y c h⟩, e0.hok.fresh (Nat.le_refl _), fun y c h => ?_, fun p hp => absurd (show p ∈ ([] : List (Addr × Obj)) from hp) (by simp), e0.hok.kept hk, ?_⟩
  · exact name_of_addr x.apart (PySem.mem_of_lookup h1) (PySem.mem_of_lookup h2)
  · have hy : scope.names.lookup y = some .cell ∨ scope.names.lookup y = some .free := hy
    rcases hy with hy | hy
    · exact cell_has hy
    · exact absurd rfl (S.nofree _ (PySem.mem_of_lookup hy))
  · exact Nat.le_of_lt (x.above y c (PySem.mem_of_lookup h))
  · have hi : i < vs.length := by
      unfold start at h2
      by_cases hi : i < vs.length
      · exact hi
      · rw [List.getElem?_append_right (by simpa using hi)] at h2
        rw [List.getElem?_replicate] at h2
        split at h2 <;> cases h2
    have ha : vs[i]? = some v := by
      unfold start at h2
      rw [List.getElem?_append_left (by simpa using hi), List.getElem?_map] at h2
      cases e : vs[i]? with
      | none => rw [e] at h2; cases h2
      | some a => rw [e] at h2; cases h2; rfl
    obtain ⟨u, hu, rv⟩ := r.get ha
    have hp : ps[i]? = some y := by
      rw [← S.pre, List.getElem?_take_of_lt (by (first | lia | omega))]; exact h1
    have ndP : ps.Nodup := by rw [← S.pre]; exact S.nd.sublist (List.take_sublist _ _)
    refine ⟨u, rv, ?_⟩
    rcases S.par y (List.mem_of_getElem? hp) with k | k
    · exact .inl ⟨k, bindL_get ndP hp hu k⟩
    · obtain ⟨c, e⟩ := cell_has (n := s.heap.objs.size + 1) k
      refine .inr ⟨.inl k, c, e, ?_⟩
      have q := x.cell y c e
      rw [bindC_get ndP hp hu (by show scope.names.lookup y ≠ _; rw [k]; decide)] at q
      exact q
  · exact e0.hok.fresh (Nat.le_of_lt (x.above y c (PySem.mem_of_lookup h)))
  · unfold start
    show _ = N.length
    rw [List.length_append, List.length_map, List.length_replicate]
    (first | lia | omega)

theorem fn_of {CX : CXT} {P : Program} {w : World} {K : PySem.W.Frag} {mg : Str → Option Value} {base : Heap} {k : Nat} {f : Addr} {name qual : Str} {params : Arguments} {body : List Stmt} {scope : Scope} {dV kV doc pm cdv ct oc : Value} {an od : Option Addr}
    {osl : Array (Option Value)} {N ps : List Str} {sp : Sp} (lk : K.lookup f = some ⟨oc, od, .func (PySem.W.fnOf name qual params body scope dV kV doc pm an cdv ct), osl⟩) (hcd : PySem.W.codeIn K cdv qual = true) (S : FnScope N ps scope)
    (len : ∀ vs H Q E, sp vs H Q E → vs.length = ps.length)
    (hbody : ∀ (A : Around) (outer : List Env) (s : Shared) (H : Hp) (vs : List V) (Q : VK) (E : XK), Room k (A.deeper (envOfC qual scope s.heap.objs.size f cdv)) → sp vs H Q E →
      ∃ t, PSs (cxOf CX P w K mg base N qual scope f cdv A outer s H E) body t ∧ t { nx := fun _ H' => Q .non H', rt := Q } (start N vs) H) :
    FnOk P w K mg base CX (k + 1) f (PySem.W.fnOf name qual params body scope dV kV doc pm an cdv ct) ps sp := by
  refine ⟨len, fun A outer s H args us vs Q E hr e0 hb r hsp => ?_⟩
  have hl := len _ _ _ _ hsp
  have KX : K.In s.heap := e0.mod.kin.keeps fun b o e => (e0.bs b o e).1
  have lim : s.heap.NoLimit := e0.mod.nolimit.keeps fun b o e => (e0.bs b o e).1
  have hkind : ∀ y ∈ ps.zip us, scope.names.lookup y.1 = some .local ∨ (scope.names.lookup y.1 = some .cell ∧ ((cellsFrom (s.heap.objs.size + 1) scope.names []).lookup y.1).isSome = true) := fun ⟨n, v⟩ hy => by
    rcases S.par n (List.of_mem_zip hy).1 with q | q
    · exact .inl q
    · exact .inr ⟨q, PySem.W.cellsFrom_some _ _ _ (.inl q)⟩
  refine codeAny_call_function hr.depth (KX _ _ lk) rfl S.co S.gen rfl (PySem.W.codeRec_of KX hcd) (hb _ _ _ _ ?_)
  refine wpAny_newFunctionEnv_cells S.kind hkind fun env he s1 x => ?_
  subst he
  refine ⟨lim.keeps x.toInCall.keep, codeAny_func ?_⟩
  obtain ⟨t, ht, hq⟩ := hbody A outer s H vs Q E (hr.deeper _) hsp
  have I : Inv (cxOf CX P w K mg base N qual scope f cdv A outer s H E) [] (start N vs) H s1 := inv_start S hr.hd e0 hl r x
  refine wpAny_mono (ht [] s1 (start N vs) H _ I hq) (fun fl s' hs => ?_) fun e s' hs => hs
  have fin : ∀ {σ' : St} {H' : Hp} {v : V} {u : Value}, Inv (cxOf CX P w K mg base N qual scope f cdv A outer s H E) [] σ' H' s' → RelV v u → Q v H' → CE outer P w H s Q u s' :=
    fun {σ' H' v u} J rv q => ⟨v, H', J.os, J.bare, J.base, J.hok, rv, q⟩
  cases fl with
  | ret u =>
    obtain ⟨v, σ', H', J, rv, q⟩ := hs
    exact fin J rv q
  | next =>
    obtain ⟨σ', H', J, q⟩ := hs
    exact fin (v := V.non) (u := Value.none) J rfl q
  | brk =>
    obtain ⟨_, _, _, q⟩ := hs
    exact False.elim q
  | cont =>
    obtain ⟨_, _, _, q⟩ := hs
    exact False.elim q
end L2

namespace L2
open PySem PySem.Spec PyProof.Rows
section
variable {X : Cx} {x : Str} {p pos : Pos} {e : Expr} {es : List Expr} {t : TA} {id T : String} {r : List V → Hp → VK → Prop}

noncomputable def tCB (r : List V → Hp → VK → Prop) (t : TA) : TE := fun σ H Q => t σ H fun vs H1 => r vs H1 Q
theorem pe_callB (hc : CallR X (.builtin id) r) (hg : Gl X x) (hm : X.mg x = none) (hv : bootBuiltins x = some (.builtin id)) (ha : PA X (e :: es) t) (hn : x ≠ "__name__" := by decide) (hdb : (x == ("__debug__" : Str)) = false := by decide)
    (he : starEach (e :: es) X.env = (false, eval e X.env) :: starEach es X.env := by rfl) (hpl : (backTo pos (starEach es X.env)).any (·.1) = false := by rfl) : PE X (.Call (.Name x p) (e :: es) [] pos) (tCB r t) := by
  intro pins s σ H Q I h
  refine wpAny_Call_Name_kw (ld_blt I hg hm hv ?_ hn hdb)
  exact PyProof.Rows.callWith_builtin1 (thn (ha pos pins s σ H _ I h) fun us s1 ⟨vs, H1, I1, r1, q1⟩ => hc pins s1 σ H1 vs us Q I1 r1 q1) he hpl
theorem pe_callTy (hc : CallR X (.type T) r) (hg : Gl X x) (hm : X.mg x = none) (hv : bootBuiltins x = some (.type T)) (ha : PA X (e :: es) t) (hn : x ≠ "__name__" := by decide) (hdb : (x == ("__debug__" : Str)) = false := by decide)
    (he : starEach (e :: es) X.env = (false, eval e X.env) :: starEach es X.env := by rfl) (hpl : (backTo pos (starEach es X.env)).any (·.1) = false := by rfl) : PE X (.Call (.Name x p) (e :: es) [] pos) (tCB r t) := by
  intro pins s σ H Q I h
  refine wpAny_Call_Name_kw (ld_blt I hg hm hv ?_ hn hdb)
  exact PyProof.Rows.callWith_type1 (thn (ha pos pins s σ H _ I h) fun us s1 ⟨vs, H1, I1, r1, q1⟩ => hc pins s1 σ H1 vs us Q I1 r1 q1) he hpl
end
end L2

namespace HT
open PySem PyProof.Rows

section
open PySem.SeqAt
open PySem.AutoSeq1 (wpAny_loadPart')
open PySem.MeetsSeq PySem.MeetsSeq2 PySem.MeetsSeq3

end

section
variable {prog : Program} {w : World} {A : Around} {E : Value → Shared → Prop} {s : Shared}

theorem cat_tup {t b : Addr} {vs ws : List Value} {Q : Value → Shared → Prop} (ht : IsTup s.heap t vs.toArray) (hb : IsTup s.heap b ws.toArray) (hv : vs ≠ [])
    (h1 : ws = [] → Q (.ref t) s) (h2 : ws ≠ [] → Q (.ref s.heap.objs.size) { s with heap := s.heap.push { cls := .type "tuple", data := .seq (vs ++ ws).toArray } })
    (hsz : vs.length + ws.length ≤ sizeLine) : wpAny (model prog w) A (binaryOp .Add (.ref t) (.ref b)) Q E s := by
  obtain ⟨⟨cls, dd, data, sl⟩, ho, hc, n, hd⟩ := id ht
  obtain ⟨⟨cls2, dd2, data2, sl2⟩, ho2, hc2, n2, hd2⟩ := id hb
  simp only at hc hd hc2 hd2
  subst hc hd hc2 hd2
  have e : vs.toArray ++ ws.toArray = (vs ++ ws).toArray := by simp
  by_cases hw : ws = []
  · exact concat_meets ⟨_, ho, rfl⟩ ⟨_, ho2, rfl⟩ noFill_tuple_add seq_tuple_add PySem.F.slot_tuple_add PySem.F.entry_tuple_add (PySem.F.args_tuple_add_2 _ _)
      (tuple_addW1 t b vs.toArray ws.toArray n n2 dd dd2 sl sl2 (by simpa using hv) (by simp [hw])) ⟨ho, ho2, h1 hw⟩
  · refine concat_meets ⟨_, ho, rfl⟩ ⟨_, ho2, rfl⟩ noFill_tuple_add seq_tuple_add PySem.F.slot_tuple_add PySem.F.entry_tuple_add (PySem.F.args_tuple_add_2 _ _)
      (tuple_addW2 t b vs.toArray ws.toArray n n2 dd dd2 sl sl2 (by simpa using hv) (by simpa using hw) (by rw [List.size_toArray, List.size_toArray]; exact hsz)) ⟨ho, ho2, ?_⟩
    rw [e]
    exact h2 hw

noncomputable def sIx (n d : Nat) : Option Int → Nat
  | none => d
  | some v => if v < 0 then (v + (n : Int)).toNat else min v.toNat n
theorem sIx_nat (n d k : Nat) : sIx n d (some (k : Int)) = min k n := by
  show (if (k : Int) < 0 then ((k : Int) + (n : Int)).toNat else min (k : Int).toNat n) = min k n
  rw [if_neg (by (first | lia | omega)), Int.toNat_natCast]
end
end HT

namespace L2
open PySem PySem.Spec PyProof.Rows

noncomputable abbrev TO := St → Hp → (Option Int → Hp → Prop) → Prop
noncomputable def PO (X : Cx) (e : Option Expr) (t : TO) : Prop :=
  ∀ (pins : List (Addr × Obj)) (s : Shared) (σ : St) (H : Hp) (Q : Option Int → Hp → Prop), Inv X pins σ H s → t σ H Q →
    wpAny (model X.prog X.w) X.A (evalPart e X.env) (fun u s' => ∃ o H', Inv X pins σ H' s' ∧ IsPart u o ∧ Q o H') X.xe s
noncomputable def tNoPart : TO := fun _ H Q => Q none H
noncomputable def tPart (t : TE) : TO := fun σ H Q => t σ H fun x H1 => ∃ i, x = .int i ∧ Q (some i) H1

theorem intsAre_of {ns : List Int} : ∀ {us : List Value}, Vals (ns.map V.int) us → IntsAre us ns := by
  induction ns with
  | nil => intro us r; rw [List.map_nil] at r; cases r; exact .nil
  | cons n ns ih =>
    intro us r
    rw [List.map_cons] at r
    cases r with
    | cons r1 r2 =>
      obtain ⟨t, e⟩ := r1
      subst e
      exact .cons n t (ih r2)

section
variable {X : Cx} {e : Expr} {te : TE} {lo hi : Option Expr} {tl th : TO} {pos p2 : Pos}

theorem po_none : PO X none tNoPart := by
  intro pins s σ H Q I h
  rw [evalPart_none]
  exact wpAny_pure ⟨none, H, I, .none, h⟩
theorem po_some (h : PE X e te) : PO X (some e) (tPart te) := by
  intro pins s σ H Q I hw
  rw [evalPart_some]
  refine thn (h pins s σ H _ I hw) fun u s1 ⟨x, H1, I1, r1, q1⟩ => ?_
  obtain ⟨i, rfl, q⟩ := q1
  obtain ⟨t, rfl⟩ := r1
  exact ⟨some i, H1, I1, .int i t, q⟩

noncomputable def SlR (X : Cx) (r : V → Option Int → Option Int → Hp → VK → Prop) : Prop :=
  ∀ (pins : List (Addr × Obj)) (s : Shared) (σ : St) (H : Hp) (x : V) (v vl vu : Value) (lo hi : Option Int) (sl : Addr) (Q : VK), Inv X pins σ H s → RelV x v → s.heap.IsSliceOf sl vl vu .none → IsPart vl lo → IsPart vu hi → r x lo hi H Q →
    ∃ T id, typeLookup (.type T) "__getitem__" = pure (some (.builtin id)) ∧ s.TypeIs v T ∧ wpAny (model X.prog X.w) X.A (getItem v (.ref sl)) (EP X pins σ Q) X.xe s
noncomputable def tSl (r : V → Option Int → Option Int → Hp → VK → Prop) (te : TE) (tl th : TO) : TE := fun σ H Q => te σ H fun x H1 => tl σ H1 fun l H2 => th σ H2 fun u H3 => r x l u H3 Q
theorem pe_slice {r : V → Option Int → Option Int → Hp → VK → Prop} (hr : SlR X r) (he : PE X e te) (hl : PO X lo tl) (hu : PO X hi th) : PE X (.Subscript e (.Slice lo hi none p2) pos) (tSl r te tl th) := by
  intro pins s σ H Q I h
  refine Subscript_ (thn (he pins s σ H _ I h) fun v s1 ⟨x, H1, I1, r1, q1⟩ => ?_)
  refine wpAny_Slice (thn (hl pins s1 σ H1 _ I1 q1) fun vl s2 ⟨l, H2, I2, pl, q2⟩ => thn (hu pins s2 σ H2 _ I2 q2) fun vu s3 ⟨u, H3, I3, pu, q3⟩ => ?_)
  rw [evalPart_none]
  refine wpAny_pure ?_
  have I4 : Inv X pins σ H3 { s3 with heap := s3.heap.push { cls := .type "slice", data := .fields #[vl, vu, .none] } } := I3.kept (t' := s3.toks) fun b ob q => Heap.get?_push_of_some _ q
  obtain ⟨T, id, hT, ht, hg⟩ := hr pins { s3 with heap := s3.heap.push { cls := .type "slice", data := .fields #[vl, vu, .none] } } σ H3 x v vl vu l u s3.heap.objs.size Q I4 r1 (Heap.IsSliceOf.new ..) pl pu q3
  show wpAny (model X.prog X.w) X.A (subscriptTail e (.Slice lo hi none p2) v (.ref s3.heap.objs.size)) (EP X pins σ Q) X.xe { s3 with heap := s3.heap.push { cls := .type "slice", data := .fields #[vl, vu, .none] } }
  exact tail_any (ops := [.ref s3.heap.objs.size, v]) ht hT hg (by with_unfolding_all rfl)

noncomputable def cutV (xs : List V) (lo hi : Option Int) : List V := (xs.drop (HT.sIx xs.length 0 lo)).take (HT.sIx xs.length xs.length hi - HT.sIx xs.length 0 lo)
theorem cutV_length (xs : List V) (lo hi : Option Int) : (cutV xs lo hi).length ≤ xs.length := by
  unfold cutV
  rw [List.length_take, List.length_drop]
  (first | lia | omega)
noncomputable def rCatT (K : PySem.W.Frag) : R2 := fun x y H Q => ∃ a b xs ys, x = .ref a ∧ y = .ref b ∧ SqT K H a xs ∧ SqT K H b ys ∧ xs ≠ [] ∧ xs.length + ys.length ≤ sizeLine ∧
  (ys = [] → Q (.ref a) H) ∧ (ys ≠ [] → ∀ p, H p = none → Q (.ref p) (upd H p (.tup (xs ++ ys))))
theorem Vals.nil_iff {xs : List V} {us : List Value} (r : Vals xs us) : us = [] ↔ xs = [] := by
  cases r with
  | nil => simp
  | cons _ _ => simp
theorem op_catT : OpR X (binaryOp .Add) (rCatT X.K) := by
  intro pins s σ H x y v u Q I rx ry h
  obtain ⟨a, b, xs, ys, rfl, rfl, ha, hb, hx, hz, q1, q2⟩ := h
  cases rx
  cases ry
  obtain ⟨its, r1, p1, _⟩ := I.tuple ha
  obtain ⟨its2, r2, p2, _⟩ := I.tuple hb
  refine HT.cat_tup p1 p2 (fun z => hx (r1.nil_iff.mp z)) (fun z => ⟨.ref a, H, I, rfl, q1 (r2.nil_iff.mp z)⟩) (fun z => ?_) (by rw [← r1.length, ← r2.length]; exact hz)
  refine ⟨.ref s.heap.objs.size, _, I.laid (t' := s.toks) (o := .tup (xs ++ ys)) (fun b ob q => Heap.get?_push_of_some _ q) (Nat.le_refl _) ?_, rfl, q2 (fun w => z (r2.nil_iff.mpr w)) _ (I.hok.fresh (Nat.le_refl _))⟩
  exact ⟨by rw [List.length_append]; exact hz, _, r1.append r2, IsTup.new _ _⟩
end
end L2

namespace L2
open PySem PySem.Spec PyProof.Rows

noncomputable def ixN (n : Nat) (i : Int) : Option Nat := if 0 ≤ i then (if i < n then some i.toNat else none) else if -(n : Int) ≤ i then some (i + n).toNat else none
noncomputable def atI {α : Type} (xs : List α) (i : Int) : Option α := (ixN xs.length i).bind fun j => xs[j]?
theorem ixN_seq {n : Nat} {i : Int} {j : Nat} (h : ixN n i = some j) : seqIndex? i n = some j ∧ j < n ∧ -(n : Int) ≤ i ∧ i < n := by
  unfold ixN at h
  by_cases h0 : 0 ≤ i
  · rw [if_pos h0] at h
    by_cases h1 : i < n
    · rw [if_pos h1] at h
      have e : i.toNat = j := Option.some.inj h
      exact ⟨by rw [seqIndex_of h0 h1, e], by (first | lia | omega), by (first | lia | omega), h1⟩
    · rw [if_neg h1] at h; cases h
  · rw [if_neg h0] at h
    by_cases h1 : -(n : Int) ≤ i
    · rw [if_pos h1] at h
      have e : (i + n).toNat = j := Option.some.inj h
      exact ⟨by rw [seqIndex_neg (by (first | lia | omega)) h1, e], by (first | lia | omega), h1, by (first | lia | omega)⟩
    · rw [if_neg h1] at h; cases h
theorem atI_get {α : Type} {xs : List α} {i : Int} {v : α} (h : atI xs i = some v) : ∃ j, seqIndex? i xs.length = some j ∧ xs[j]? = some v ∧ j < xs.length ∧ -(xs.length : Int) ≤ i ∧ i < xs.length := by
  unfold atI at h
  cases e : ixN xs.length i with
  | none => rw [e] at h; cases h
  | some j =>
    rw [e] at h
    obtain ⟨h1, h2, h3, h4⟩ := ixN_seq e
    exact ⟨j, h1, h, h2, h3, h4⟩
theorem atI_nat {α : Type} {xs : List α} {j : Nat} {v : α} (h : xs[j]? = some v) : atI xs (j : Int) = some v := by
  have hj : j < xs.length := (List.getElem?_eq_some_iff.mp h).1
  have e : ixN xs.length (j : Int) = some j := by
    unfold ixN
    rw [if_pos (by (first | lia | omega)), if_pos (by (first | lia | omega))]; simp
  unfold atI; rw [e]; exact h
noncomputable def PlainIx (b : Expr) : Prop := ∀ o i, subscripted b false o i = operate [o, i] (getItem o i)
noncomputable def IxR (X : Cx) (r : R2) : Prop :=
  ∀ (value slice : Expr) (pins : List (Addr × Obj)) (s : Shared) (σ : St) (H : Hp) (x y : V) (v u : Value) (Q : VK), Inv X pins σ H s → RelV x v → RelV y u → r x y H Q →
    subscripted slice false v u = operate [v, u] (getItem v u) → wpAny (model X.prog X.w) X.A (subscriptTail value slice v u) (EP X pins σ Q) X.xe s
noncomputable def MtR (X : Cx) (id : String) (r : V → List V → Hp → VK → Prop) : Prop :=
  ∀ (pins : List (Addr × Obj)) (s : Shared) (σ : St) (H : Hp) (x : V) (xs : List V) (v : Value) (us : List Value) (Q : VK), Inv X pins σ H s → RelV x v → Vals xs us → r x xs H Q →
    wpAny (model X.prog X.w) X.A (call (.builtin id) (v :: us)) (EP X pins σ Q) X.xe s
section
variable {X : Cx} {a b : Expr} {ta tb : TE} {pos : Pos}
theorem pe_ix {r : R2} (hr : IxR X r) (ha : PE X a ta) (hb : PE X b tb) (hs : PlainIx b) : PE X (.Subscript a b pos) (tOp r ta tb) := by
  intro pins s σ H Q I h
  exact Subscript_ (binT ha hb I h fun v u s2 x y H2 I2 rx ry q => hr a b pins s2 σ H2 x y v u Q I2 rx ry q (hs _ _))

noncomputable def rIxL (K : PySem.W.Frag) : R2 := fun x y H Q => ∃ p xs i v, x = .ref p ∧ y = .int i ∧ SqL K H p xs ∧ atI xs i = some v ∧ Q v H
noncomputable def rIxT (K : PySem.W.Frag) : R2 := fun x y H Q => ∃ p xs i v, x = .ref p ∧ y = .int i ∧ SqT K H p xs ∧ atI xs i = some v ∧ Q v H
noncomputable def rIxS : R2 := fun x y H Q => ∃ z i c, x = .str z ∧ y = .int i ∧ z.length ≤ sizeLine ∧ atI z.cps.toList i = some c ∧ Q (.str ⟨#[c]⟩) H
theorem ix_list : IxR X (rIxL X.K) := by
  intro value slice pins s σ H x y v u Q I rx ry h hs
  obtain ⟨p, xs, i, z, rfl, rfl, hq, he, q⟩ := h
  cases rx
  obtain ⟨t, rfl⟩ := ry
  obtain ⟨its, r, pl, hz⟩ := I.list hq
  obtain ⟨j, h1, h2, h3, h4, h5⟩ := atI_get he
  obtain ⟨w, ew, rw'⟩ := r.get h2
  have hl := r.length
  have hn := line63
  have fin : EP X pins σ Q w s := ⟨z, H, I, rw', q⟩
  by_cases h0 : 0 ≤ i
  · have hj : i.toNat = j := by
      rw [seqIndex_of h0 h5] at h1
      exact Option.some.inj h1
    exact item_listR pl.isList h0 (by (first | lia | omega)) (by rw [hj]; simpa using ew) fin hs
  · have hj : (i + (its.toArray.size : Int)).toNat = j := by
      rw [seqIndex_neg (by (first | lia | omega)) h4] at h1
      rw [List.size_toArray, ← hl]
      exact Option.some.inj h1
    exact subscriptTail_builtinR (x := w) pl.isList.typeIs slot_list_getitem.lookup
      (wpAny_getItem_list_neg (Q := fun r s' => r = w ∧ EP X pins σ Q r s') pl.isList (by (first | lia | omega)) (by rw [List.size_toArray] <;> (first | lia | omega)) (by (first | lia | omega)) (by rw [hj]; simpa using ew) ⟨rfl, fin⟩) hs
theorem ix_tup : IxR X (rIxT X.K) := by
  intro value slice pins s σ H x y v u Q I rx ry h hs
  obtain ⟨p, xs, i, z, rfl, rfl, hq, he, q⟩ := h
  cases rx
  obtain ⟨t, rfl⟩ := ry
  obtain ⟨its, r, pl, hz⟩ := I.tuple hq
  obtain ⟨j, h1, h2, h3, h4, h5⟩ := atI_get he
  obtain ⟨w, ew, rw'⟩ := r.get h2
  have hl := r.length
  have hn := line63
  have fin : EP X pins σ Q w s := ⟨z, H, I, rw', q⟩
  exact subscriptTail_builtinR (x := w) pl.typeIs slot_tuple_getitem.lookup
    (getItem_tuple (j := j) (Q := fun r s' => r = w ∧ EP X pins σ Q r s') pl (by (first | lia | omega)) (by (first | lia | omega)) (by rw [List.size_toArray, ← hl]; exact h1) (by simpa using ew) ⟨rfl, fin⟩) hs
theorem ix_str : IxR X rIxS := by
  intro value slice pins s σ H x y v u Q I rx ry h hs
  obtain ⟨z, i, c, rfl, rfl, hz, he, q⟩ := h
  obtain ⟨t, rfl⟩ := rx
  obtain ⟨t', rfl⟩ := ry
  obtain ⟨j, h1, h2, h3, h4, h5⟩ := atI_get he
  have hl : z.cps.toList.length = z.length := by simp [Str.length]
  rw [hl] at h1 h4 h5
  have hn := line63
  exact tail_any (typeIs_str s z t) slot_str_getitem.lookup (getItem_str (c := c) (by
    have e1 : decide (i < -(2 ^ 63 : Int)) = false := decide_eq_false (by (first | lia | omega))
    have e2 : decide (i ≥ 2 ^ 63) = false := decide_eq_false (by (first | lia | omega))
    rw [e1, e2, Bool.or_false]) (by rw [h1]; simpa using h2) ⟨.str ⟨#[c]⟩, H, I.tok _, ⟨_, rfl⟩, q⟩) hs
theorem mapSeq_set (its : List Value) (n j : Nat) (u : Value) : Obj.mapSeq (·.setIfInBounds j u) { cls := .type "list", data := .seq its.toArray n } = { cls := .type "list", data := .seq (its.set j u).toArray n } := by
  simp [Obj.mapSeq]
theorem Inv.lst {pins : List (Addr × Obj)} {σ : St} {H : Hp} {s : Shared} {p : Addr} {xs : List V} (I : Inv X pins σ H s) (h : H p = some (.lst xs)) :
    ∃ (its : List Value) (n : Nat), Vals xs its ∧ s.heap.get? p = some { cls := .type "list", data := .seq its.toArray n } ∧ xs.length ≤ sizeLine := by
  obtain ⟨z, its, n, r, e⟩ := I.hok p _ h
  exact ⟨its, n, r, e, z⟩
theorem Inv.lstUpd {pins : List (Addr × Obj)} {σ : St} {H : Hp} {s : Shared} {p : Addr} {xs ys : List V} {its its' : List Value} {n n' : Nat} {f : Obj → Obj} (I : Inv X pins σ H s) (h : H p = some (.lst xs))
    (ho : s.heap.get? p = some { cls := .type "list", data := .seq its.toArray n }) (hf : f { cls := .type "list", data := .seq its.toArray n } = { cls := .type "list", data := .seq its'.toArray n' }) (r : Vals ys its') (hz : ys.length ≤ sizeLine) (t : Nat) :
    Inv X pins σ (upd H p (.lst ys)) { s with heap := s.heap.update p f, toks := t } := by
  have e : (s.heap.update p f).get? p = some { cls := .type "list", data := .seq its'.toArray n' } := by
    rw [Heap.get?_update_self f ho (by rw [hf] <;> rfl), hf]
  refine I.write (x := p) (e := p) (by rw [h]; trivial) (.inl rfl) (fun b u hb q => (Heap.get?_update_other _ _ (Ne.symm hb)).trans q) ⟨_, e⟩ ?_
  exact ⟨hz, its', n', r, e⟩
noncomputable def rSetL : V → V → V → Hp → (Hp → Prop) → Prop := fun o i v H Q => ∃ p xs k j, o = .ref p ∧ i = .int k ∧ H p = some (.lst xs) ∧ ixN xs.length k = some j ∧ Q (upd H p (.lst (xs.set j v)))
theorem set_list : PSet X rSetL := by
  intro pins s σ H o i v ov iv u Q I ro ri rv h
  obtain ⟨p, xs, k, j, rfl, rfl, hp, hj, q⟩ := h
  cases ro
  obtain ⟨t, rfl⟩ := ri
  obtain ⟨its, n, r, ho, hz⟩ := I.lst hp
  obtain ⟨h1, h2, h3, h4⟩ := ixN_seq hj
  have hl := r.length
  have hn := line63
  have I' : Inv X pins σ (upd H p (.lst (xs.set j v))) { s with heap := s.heap.update p (Obj.mapSeq (·.setIfInBounds j u)) } :=
    I.lstUpd hp ho (mapSeq_set its n j u) (r.set rv j) (by rw [List.length_set]; exact hz) s.toks
  by_cases h0 : 0 ≤ k
  · have hk : k.toNat = j := by
      rw [seqIndex_of h0 h4] at h1
      exact Option.some.inj h1
    exact PySem.W.ki_setAt ho h0 (by (first | lia | omega)) (by rw [List.size_toArray, ← hl]; exact h4) (by rw [hk]; exact ⟨_, I', q⟩)
  · have hk : (k + (its.toArray.size : Int)).toNat = j := by
      rw [seqIndex_neg (by (first | lia | omega)) h3] at h1
      rw [List.size_toArray, ← hl]
      exact Option.some.inj h1
    exact PySem.W.ki_setBack ho (by (first | lia | omega)) (by rw [List.size_toArray, ← hl]; exact h3) (by (first | lia | omega)) (by rw [hk]; exact ⟨_, I', q⟩)

theorem slice_bounds (lo hi : Option Int) (n : Nat) : (sliceBounds lo hi none n).1 = ((HT.sIx n 0 lo : Nat) : Int) ∧ (sliceBounds lo hi none n).2.1 = ((HT.sIx n n hi : Nat) : Int) ∧ (sliceBounds lo hi none n).2.2 = 1 := by
  refine ⟨?_, ?_, rfl⟩
  · cases lo with
    | none => simp [sliceBounds, HT.sIx]
    | some i =>
      simp only [sliceBounds, HT.sIx, Option.getD_none, show (1 : Int) > 0 by decide, if_true]
      by_cases h : i < 0
      · simp only [h, if_true] <;> (first | lia | omega)
      · simp only [h, if_false] <;> (first | lia | omega)
  · cases hi with
    | none => simp [sliceBounds, HT.sIx]
    | some i =>
      simp only [sliceBounds, HT.sIx, Option.getD_none, show (1 : Int) > 0 by decide, if_true]
      by_cases h : i < 0
      · simp only [h, if_true] <;> (first | lia | omega)
      · simp only [h, if_false] <;> (first | lia | omega)
theorem slicePick_cut (its : List Value) (lo hi : Option Int) : slicePick its.toArray lo hi none = ((its.drop (HT.sIx its.length 0 lo)).take (HT.sIx its.length its.length hi - HT.sIx its.length 0 lo)).toArray := by
  obtain ⟨h1, h2, h3⟩ := slice_bounds lo hi its.toArray.size
  unfold slicePick
  rw [h1, h2, h3]
  simp only [sliceRange_one, pick_run, List.size_toArray] <;> rfl
noncomputable def rSlL (K : PySem.W.Frag) : V → Option Int → Option Int → Hp → VK → Prop := fun x lo hi H Q => ∃ a xs, x = .ref a ∧ SqL K H a xs ∧ ∀ p, H p = none → Q (.ref p) (upd H p (.lst (cutV xs lo hi)))
theorem sl_list : SlR X (rSlL X.K) := by
  intro pins s σ H x v vl vu lo hi sl Q I rx hs pl pu h
  obtain ⟨a, xs, rfl, hx, q⟩ := h
  cases rx
  obtain ⟨its, r, ht, hz⟩ := I.list hx
  have hlen := r.length
  refine ⟨"list", _, slot_list_getitem.lookup, ht.isList.typeIs, ?_⟩
  refine wpAny_getItem_list_slice ht.isList hs pl pu .none (by simp) ?_ (by rw [List.size_toArray] <;> (first | lia | omega))
  rw [slicePick_cut, ← hlen]
  refine ⟨.ref s.heap.objs.size, _, I.laid (t' := s.toks) (o := .lst (cutV xs lo hi)) (fun b ob q => Heap.get?_push_of_some _ q) (Nat.le_refl _) ?_, rfl, q _ (I.hok.fresh (Nat.le_refl _))⟩
  exact ⟨Nat.le_trans (cutV_length xs lo hi) hz, _, 0, (r.drop (HT.sIx xs.length 0 lo)).take (HT.sIx xs.length xs.length hi - HT.sIx xs.length 0 lo), Heap.get?_push_size _ rfl⟩

noncomputable def flatV : V → Bool
  | .non => true
  | .bl _ => true
  | .int _ => true
  | .str _ => true
  | _ => false
noncomputable def eqV : V → V → Bool
  | .non, .non => true
  | .bl a, .bl b => a == b
  | .bl a, .int b => (if a then 1 else 0) == b
  | .int a, .bl b => a == (if b then 1 else 0)
  | .int a, .int b => a == b
  | .str a, .str b => a == b
  | _, _ => false
theorem eqAt_V {A : Around} {s : Shared} {y x : V} {u v : Value} (ry : RelV y u) (rx : RelV x v) (fy : flatV y = true) (fx : flatV x = true) : SeqAt.EqAt A s u v (eqV y x) := by
  cases y with
  | non =>
    cases ry
    cases x with
    | non => cases rx; exact SeqAt.EqAt.same _
    | bl b => cases rx; exact SeqAt.EqAt.none_bool b
    | int b => obtain ⟨t, rfl⟩ := rx; exact SeqAt.EqAt.none_int b t
    | str b => obtain ⟨t, rfl⟩ := rx; exact SeqAt.EqAt.none_str b t
    | _ => exact absurd (show false = true from fx) Bool.false_ne_true
  | bl a =>
    cases ry
    cases x with
    | non => cases rx; exact SeqAt.EqAt.bool_none a
    | bl b => cases rx; exact SeqAt.EqAt.bool_bool a b
    | int b => obtain ⟨t, rfl⟩ := rx; exact SeqAt.EqAt.bool_int a b t
    | str b => obtain ⟨t, rfl⟩ := rx; exact SeqAt.EqAt.bool_str a b t
    | _ => exact absurd (show false = true from fx) Bool.false_ne_true
  | int a =>
    obtain ⟨t', rfl⟩ := ry
    cases x with
    | non => cases rx; exact SeqAt.EqAt.int_none a t'
    | bl b => cases rx; exact SeqAt.EqAt.int_bool a t' b
    | int b => obtain ⟨t, rfl⟩ := rx; exact SeqAt.EqAt.int_int a t' b t
    | str b => obtain ⟨t, rfl⟩ := rx; exact SeqAt.EqAt.int_str a t' b t
    | _ => exact absurd (show false = true from fx) Bool.false_ne_true
  | str a =>
    obtain ⟨t', rfl⟩ := ry
    cases x with
    | non => cases rx; exact SeqAt.EqAt.str_none a t'
    | bl b => cases rx; exact SeqAt.EqAt.str_bool a t' b
    | int b => obtain ⟨t, rfl⟩ := rx; exact SeqAt.EqAt.str_int a t' b t
    | str b => obtain ⟨t, rfl⟩ := rx; exact SeqAt.EqAt.str_str a t' b t
    | _ => exact absurd (show false = true from fx) Bool.false_ne_true
  | _ => exact absurd (show false = true from fy) Bool.false_ne_true
noncomputable def eqU (x : V) (u : Value) : Bool := match u with
  | .none => eqV .non x
  | .bool b => eqV (.bl b) x
  | .int i _ => eqV (.int i) x
  | .str z _ => eqV (.str z) x
  | _ => false
theorem eqU_of {x y : V} {u : Value} (r : RelV y u) (f : flatV y = true) : eqU x u = eqV y x := by
  cases y with
  | non => cases r; rfl
  | bl b => cases r; rfl
  | int i => obtain ⟨t, rfl⟩ := r; rfl
  | str z => obtain ⟨t, rfl⟩ := r; rfl
  | _ => exact absurd (show false = true from f) Bool.false_ne_true
theorem any_eqU {x : V} : ∀ {xs : List V} {us : List Value}, Vals xs us → xs.all flatV = true → us.any (eqU x) = xs.any fun y => eqV y x
  | _, _, .nil, _ => rfl
  | y :: xs, u :: us, .cons r t, f => by
    rw [List.all_cons, Bool.and_eq_true] at f
    rw [List.any_cons, List.any_cons, eqU_of r f.1, any_eqU t f.2]
theorem mem_eqAt {A : Around} {s : Shared} {x : V} {v : Value} (rx : RelV x v) (fx : flatV x = true) : ∀ {xs : List V} {us : List Value}, Vals xs us → xs.all flatV = true → ∀ u ∈ us, SeqAt.EqAt A s u v (eqU x u)
  | _, _, .nil, _ => fun u hu => by cases hu
  | y :: xs, u :: us, .cons r t, f => fun u' hu => by
    rw [List.all_cons, Bool.and_eq_true] at f
    rcases List.mem_cons.mp hu with rfl | hu
    · rw [eqU_of r f.1]; exact eqAt_V r rx f.1 fx
    · exact mem_eqAt rx fx t f.2 u' hu
noncomputable def inV (x : V) (xs : List V) : Bool := xs.any fun y => eqV y x
noncomputable def rIn (K : PySem.W.Frag) (neg : Bool) : R2 := fun x y H Q => ∃ p xs, y = .ref p ∧ (SqL K H p xs ∨ SqT K H p xs) ∧ flatV x = true ∧ xs.all flatV = true ∧ Q (.bl (if neg then !inV x xs else inV x xs)) H
theorem op_in_seq : OpR X (compareOp .In) (rIn X.K false) := by
  intro pins s σ H x y v u Q I rx ry h
  obtain ⟨p, xs, rfl, hq, fx, fs, q⟩ := h
  cases ry
  rcases hq with hq | hq
  · obtain ⟨its, r, pl, hz⟩ := I.list hq
    refine SeqAt.in_listAt (eqU x) pl.isList (fun w hw => mem_eqAt rx fx r fs w (by simpa using hw)) ⟨.bl _, H, I, rfl, ?_⟩
    rw [show its.toArray.any (eqU x) = its.any (eqU x) by simp, any_eqU r fs]
    exact q
  · obtain ⟨its, r, pl, hz⟩ := I.tuple hq
    refine SeqAt.in_tupleAt (eqU x) pl (fun w hw => mem_eqAt rx fx r fs w (by simpa using hw)) ⟨.bl _, H, I, rfl, ?_⟩
    rw [show its.toArray.any (eqU x) = its.any (eqU x) by simp, any_eqU r fs]
    exact q
theorem call_len_seq : CallR X (.builtin "len") (fun xs H Q => ∃ p ys, xs = [.ref p] ∧ (SqL X.K H p ys ∨ SqT X.K H p ys) ∧ Q (.int ys.length) H) := by
  intro pins s σ H xs us Q I r h
  obtain ⟨p, ys, rfl, hq, q⟩ := h
  obtain ⟨u, rfl, rx⟩ := vals1 r
  cases rx
  have hn := line63
  rcases hq with hq | hq
  · obtain ⟨its, r', pl, hz⟩ := I.list hq
    have hlen := r'.length
    exact Calls.call_len_list pl.isList (by simp only [List.size_toArray] <;> (first | lia | omega)) ⟨.int ys.length, H, I.tok _, ⟨s.toks + 1, by rw [List.size_toArray, hlen]⟩, q⟩
  · obtain ⟨its, r', pl, hz⟩ := I.tuple hq
    have hlen := r'.length
    exact len_tuple pl (by simp only [List.size_toArray] <;> (first | lia | omega)) ⟨.int ys.length, H, I.tok _, ⟨s.toks + 1, by rw [List.size_toArray, hlen]⟩, q⟩
theorem call_len_str : CallR X (.builtin "len") (fun xs H Q => ∃ z, xs = [.str z] ∧ z.length ≤ sizeLine ∧ Q (.int z.length) H) := by
  intro pins s σ H xs us Q I r h
  obtain ⟨z, rfl, hz, q⟩ := h
  obtain ⟨u, rfl, t, rfl⟩ := vals1 r
  have hn := line63
  exact len_str (by (first | lia | omega)) ⟨.int z.length, H, I.tok _, ⟨_, rfl⟩, q⟩
theorem call_tuple_of : CallR X (.type "tuple") (fun xs H Q => ∃ p ys, xs = [.ref p] ∧ ((SqL X.K H p ys ∧ ∀ l, H l = none → Q (.ref l) (upd H l (.tup ys))) ∨ (SqT X.K H p ys ∧ Q (.ref p) H))) := by
  intro pins s σ H xs us Q I r h
  obtain ⟨p, ys, rfl, h⟩ := h
  obtain ⟨u, rfl, rx⟩ := vals1 r
  cases rx
  rcases h with ⟨hq, q⟩ | ⟨hq, q⟩
  · obtain ⟨its, r', pl, hz⟩ := I.list hq
    have hlen := r'.length
    refine call_tuple_list pl.isList (fun h' kp => ?_) (by simp only [List.size_toArray] <;> (first | lia | omega))
    have I1 : Inv X pins σ H { s with heap := h' } := I.kept (t' := s.toks) kp
    have I2 : Inv X pins σ (upd H h'.objs.size (.tup ys)) { s with heap := h'.push { cls := .type "tuple", data := .seq its.toArray } } :=
      I1.laid (t' := s.toks) (fun b o e => Heap.get?_push_of_some _ e) (Nat.le_refl _) (show ObjOk X.prog X.w _ _ _ (.tup ys) from ⟨hz, its, r', IsTup.new _ _⟩)
    exact ⟨.ref h'.objs.size, _, I2, rfl, q _ (I1.hok.fresh (Nat.le_refl _))⟩
  · obtain ⟨its, r', pl, hz⟩ := I.tuple hq
    exact call_tuple_same pl ⟨.ref p, H, I, rfl, q⟩

noncomputable def tyV (K : PySem.W.Frag) (T : String) (x : V) (H : Hp) : Prop := match x with
  | .str _ => T = "str"
  | .int _ => T = "int"
  | .ref p => (T = "list" ∧ ∃ xs, SqL K H p xs) ∨ (T = "tuple" ∧ ∃ o, K.lookup p = some o ∧ o.cls = .type "tuple" ∧ o.dict = none) ∨
      (T = "dict" ∧ ((∃ kvs, H p = some (.dK kvs)) ∨ ∃ kvs, H p = some (.dT kvs))) ∨ (T = "set" ∧ ∃ S n, H p = some (.set S n))
  | _ => False
theorem tyV_is {pins : List (Addr × Obj)} {σ : St} {H : Hp} {s : Shared} {T : String} {x : V} {v : Value} (I : Inv X pins σ H s) (r : RelV x v) (ty : tyV X.K T x H) :
    s.TypeIs v T ∧ ∀ a, v = .ref a → ∃ ob, s.heap.get? a = some ob ∧ ob.dict = none := by
  cases x with
  | str z =>
    obtain ⟨t, rfl⟩ := r
    cases (show T = "str" from ty)
    exact ⟨typeIs_str s z t, fun _ e => nomatch e⟩
  | int i =>
    obtain ⟨t, rfl⟩ := r
    cases (show T = "int" from ty)
    exact ⟨typeIs_int s i t, fun _ e => nomatch e⟩
  | ref p =>
    cases r
    rcases ty with ⟨rfl, xs, hq⟩ | ⟨rfl, o, hk, hc, hd⟩ | ⟨rfl, hk⟩ | ⟨rfl, S, n, hk⟩
    · obtain ⟨its, _, pl, _⟩ := I.list hq
      refine ⟨pl.isList.typeIs, fun a e => ?_⟩
      cases e
      obtain ⟨o, n, e, c, hd, _⟩ := pl
      exact ⟨o, e, hd⟩
    · refine ⟨⟨o, I.kIn p o hk, hc⟩, fun a e => ?_⟩
      cases e
      exact ⟨o, I.kIn _ o hk, hd⟩
    · have z : ∃ o, s.heap.get? p = some o ∧ o.ExactDict := by
        rcases hk with ⟨kvs, hk⟩ | ⟨kvs, hk⟩
        · obtain ⟨_, _, _, _, o, _, _, e, ex, _⟩ := I.hok p _ hk
          exact ⟨o, e, ex⟩
        · obtain ⟨_, _, _, _, o, _, _, e, ex, _⟩ := I.hok p _ hk
          exact ⟨o, e, ex⟩
      obtain ⟨o, e, ex⟩ := z
      refine ⟨⟨o, e, ex.1⟩, fun a e2 => ?_⟩
      cases e2
      exact ⟨o, e, ex.2.1⟩
    · obtain ⟨o, _, _, _, e, ex, _⟩ := I.hok p _ hk
      refine ⟨⟨o, e, ex.1⟩, fun a e2 => ?_⟩
      cases e2
      exact ⟨o, e, ex.2.1⟩
  | _ => exact False.elim ty
noncomputable def tBM0 (K : PySem.W.Frag) (T : String) (r : V → List V → Hp → VK → Prop) (to : TE) : TE := fun σ H Q => to σ H fun x H1 => tyV K T x H1 ∧ r x [] H1 Q
noncomputable def tBM (K : PySem.W.Frag) (T : String) (r : V → List V → Hp → VK → Prop) (to : TE) (t : TA) : TE := fun σ H Q => to σ H fun x H1 => tyV K T x H1 ∧ t σ H1 fun xs H2 => r x xs H2 Q
variable {o e : Expr} {es : List Expr} {to : TE} {t : TA} {name : Str} {apos cpos : Pos} {T id : String} {r : V → List V → Hp → VK → Prop}
theorem pe_bm0 (pa : PlainAttrs T) (slot : Slot T name id) (hty : typeOf (.builtin id) = pure (.type "method_descriptor")) (hm : MtR X id r) (ho : PE X o to)
    (hbase : attributeBase o name X.env (eval o X.env) = eval o X.env := by rfl) (hline : (apos.endLine == cpos.line) = true := by rfl) : PE X (.Call (.Attribute o name apos) [] [] cpos) (tBM0 X.K T r to) := by
  intro pins s σ H Q I h
  refine wpAny_Call_method0_late hbase hline (thn (ho pins s σ H _ I h) fun v s1 ⟨x, H1, I1, r1, ty, q1⟩ => ?_)
  obtain ⟨h1, h2⟩ := tyV_is I1 r1 ty
  exact ⟨T, id, pa, slot, hty, h1, h2, Calls.callWith_builtin rfl (PySem.evalArgs_none (hm pins s1 σ H1 x [] v [] Q I1 r1 .nil q1))⟩
theorem pe_bm (pa : PlainAttrs T) (slot : Slot T name id) (hty : typeOf (.builtin id) = pure (.type "method_descriptor")) (hm : MtR X id r) (ho : PE X o to) (ha : PA X (e :: es) t)
    (hbase : attributeBase o name X.env (eval o X.env) = eval o X.env := by rfl)
    (hfew : ((backTo cpos (starEach (e :: es) X.env)).all (fun x => !x.1) && (backToKw cpos (keywordEach [] X.env)).all (fun x => x.1.isSome)
      && decide ((e :: es).length + ([] : List Keyword).length + (if ([] : List Keyword).isEmpty then 0 else 1) < 30)) = true := by rfl)
    (hline : (apos.endLine == cpos.line) = true := by rfl) (hs : starEach (e :: es) X.env = (false, eval e X.env) :: starEach es X.env := by rfl) (hplain : (backTo cpos (starEach es X.env)).any (·.1) = false := by rfl) :
    PE X (.Call (.Attribute o name apos) (e :: es) [] cpos) (tBM X.K T r to t) := by
  intro pins s σ H Q I h
  refine wpAny_Call_method_late hbase hfew hline rfl (thn (ho pins s σ H _ I h) fun v s1 ⟨x, H1, I1, r1, ty, q1⟩ => ?_)
  obtain ⟨h1, h2⟩ := tyV_is I1 r1 ty
  refine ⟨T, id, pa, slot, hty, h1, h2, ?_⟩
  have hA := ha cpos pins s1 σ H1 _ I1 q1
  rw [hs] at hA ⊢
  refine Calls.callWith_builtin (by show (false || (backTo cpos (starEach es X.env)).any (·.1)) = false; rw [hplain] <;> rfl) (Calls.evalArgs_plain ?_)
  exact thn hA fun us s2 ⟨vs, H2, I2, r2, q2⟩ => hm pins s2 σ H2 x vs v us Q I2 r1 r2 q2
/- xs.append(e), list.index on a module's tuple .. are MtR facts of 06m -/
end
end L2

namespace L2
open PySem PySem.Spec PyProof.Rows

noncomputable def MtM (X : Cx) (id : String) (r : V → List V → Hp → VK → Prop) : Prop :=
  ∀ (pins : List (Addr × Obj)) (s : Shared) (σ : St) (H : Hp) (x : V) (xs : List V) (v : Value) (us : List Value) (Q : VK), Inv X pins σ H s → RelV x v → Vals xs us → r x xs H Q →
    wpAny (model X.prog X.w) X.A (call (.builtin id) (v :: us)) (EP X pins σ Q) X.xe s

theorem Vals.one : ∀ {x : V} {us : List Value}, Vals [x] us → ∃ u, us = [u] ∧ RelV x u
  | _, _, .cons r .nil => ⟨_, rfl, r⟩
theorem Vals.zero : ∀ {us : List Value}, Vals [] us → us = []
  | _, .nil => rfl
theorem Vals.rep {xs : List V} {us : List Value} (h : Vals xs us) : ∀ k : Nat, Vals (List.replicate k xs).flatten (List.replicate k us).flatten
  | 0 => .nil
  | k + 1 => by
    rw [List.replicate_succ, List.replicate_succ, List.flatten_cons, List.flatten_cons]
    exact Vals.append h (Vals.rep h k)
theorem foldl_rep (its : List Value) : ∀ (k : Nat) (acc : List Value),
    List.foldl (fun x1 x2 => x1 ++ x2) acc.toArray (List.replicate k its.toArray) = (acc ++ (List.replicate k its).flatten).toArray
  | 0, acc => by simp
  | k + 1, acc => by
    have e : acc.toArray ++ its.toArray = (acc ++ its).toArray := by simp
    have e2 : (acc ++ its) ++ (List.replicate k its).flatten = acc ++ (List.replicate (k + 1) its).flatten := by
      rw [List.replicate_succ, List.flatten_cons, List.append_assoc]
    rw [← e2, ← foldl_rep its k (acc ++ its), ← e, List.replicate_succ, List.foldl_cons]

section
variable {X : Cx} {pins : List (Addr × Obj)} {σ : St} {H : Hp} {s : Shared} {l b : Addr} {xs ys zs : List V}

theorem Inv.lset {its its' : List Value} {n : Nat} {f : Array Value → Array Value} {t' : Nat} (I : Inv X pins σ H s) (hH : H l = some (.lst xs))
    (e : s.heap.get? l = some { cls := .type "list", data := .seq its.toArray n }) (hf : f its.toArray = its'.toArray) (hv : Vals ys its') (hz : ys.length ≤ sizeLine) :
    Inv X pins σ (upd H l (.lst ys)) { s with heap := s.heap.update l (Obj.mapSeq f), toks := t' } := by
  have q := PySem.IsL.update e f
  rw [hf] at q
  refine I.write (x := l) (e := l) (by rw [hH]; exact trivial) (.inl rfl) (fun b' u hb hu => (Heap.get?_update_other s.heap (Obj.mapSeq f) (Ne.symm hb)).trans hu) ⟨_, q⟩ ?_
  exact ⟨hz, its', _, hv, q⟩
theorem Inv.lnew {its : List Value} {t' : Nat} (I : Inv X pins σ H s) (hv : Vals ys its) (hz : ys.length ≤ sizeLine) :
    Inv X pins σ (upd H s.heap.objs.size (.lst ys)) { s with heap := s.heap.push { cls := .type "list", data := .seq its.toArray }, toks := t' } :=
  I.laid (fun _ _ q => Heap.get?_push_of_some _ q) (Nat.le_refl _) ⟨hz, its, 0, hv, Heap.get?_push_size _ rfl⟩
theorem Inv.fresh (I : Inv X pins σ H s) : H s.heap.objs.size = none := I.hok.fresh (Nat.le_refl _)
theorem Inv.lstM (I : Inv X pins σ H s) (hH : H l = some (.lst xs)) : xs.length ≤ sizeLine ∧ ∃ (its : List Value) (n : Nat), Vals xs its ∧ xs.length = its.length ∧ s.heap.get? l = some { cls := .type "list", data := .seq its.toArray n } := by
  obtain ⟨z, its, n, r, e⟩ := I.hok l _ hH
  exact ⟨z, its, n, r, r.length, e⟩

theorem notLongL {n : Nat} (h : n ≤ sizeLine) : Builtin.List.listTooLong n = false := by
  unfold Builtin.List.listTooLong
  exact decide_eq_false (by (first | lia | omega))
end

section
variable {X : Cx}

noncomputable def rAppend : V → List V → Hp → VK → Prop := fun x vs H Q => ∃ l xs y, x = .ref l ∧ vs = [y] ∧ H l = some (.lst xs) ∧ xs.length < sizeLine ∧ Q .non (upd H l (.lst (xs ++ [y])))
theorem mt_append : MtM X "list.append" rAppend := by
  intro pins s σ H x vs v us Q I rx rv h
  obtain ⟨l, xs, y, rfl, rfl, hH, hz, q⟩ := h
  cases rx
  obtain ⟨u, rfl, ru⟩ := rv.one
  obtain ⟨z, its, n, r, hl, e⟩ := I.lstM hH
  refine call_meets F.slot_list_append ⟨_, e, rfl⟩ F.entry_list_append (F.args_list_append_2 _ _) (PySem.list_append l its.toArray n u (by rw [List.size_toArray]; (first | lia | omega))) ⟨e, ?_⟩
  refine ⟨.non, _, I.lset (its' := its ++ [u]) hH e (by simp) (r.append (.cons ru .nil)) ?_, rfl, q⟩
  rw [List.length_append, List.length_singleton]
  (first | lia | omega)

noncomputable def rCat : R2 := fun x y H Q => ∃ l b xs zs, x = .ref l ∧ y = .ref b ∧ H l = some (.lst xs) ∧ H b = some (.lst zs) ∧ xs.length + zs.length ≤ sizeLine ∧ ∀ p, H p = none → Q (.ref p) (upd H p (.lst (xs ++ zs)))
theorem op_cat : OpR X (binaryOp .Add) rCat := by
  intro pins s σ H x y v u Q I rx ry h
  obtain ⟨l, b, xs, zs, rfl, rfl, hH, hB, hz, q⟩ := h
  cases rx
  cases ry
  obtain ⟨z, its, n, r, hl, e⟩ := I.lstM hH
  obtain ⟨z2, its2, n2, r2, hl2, e2⟩ := I.lstM hB
  refine PySem.P.add_list e e2 ?_ (by rw [List.size_toArray, List.size_toArray]; (first | lia | omega))
  have ea : its.toArray ++ its2.toArray = (its ++ its2).toArray := by simp
  rw [ea]
  exact ⟨.ref _, _, I.lnew (t' := s.toks) (r.append r2) (by rw [List.length_append]; (first | lia | omega)), rfl, q _ I.fresh⟩
noncomputable def rRep : R2 := fun x y H Q => ∃ l k xs, x = .ref l ∧ y = .int k ∧ H l = some (.lst xs) ∧ -(2 ^ 63) ≤ k ∧ k < 2 ^ 63 ∧ xs.length * k.toNat ≤ sizeLine ∧
  ∀ p, H p = none → Q (.ref p) (upd H p (.lst (List.replicate k.toNat xs).flatten))
theorem len_rep {α : Type} (xs : List α) (k : Nat) : (List.replicate k xs).flatten.length = k * xs.length := by
  induction k with
  | zero => simp
  | succ k ih => rw [List.replicate_succ, List.flatten_cons, List.length_append, ih, Nat.succ_mul, Nat.add_comm]
theorem op_rep : OpR X (binaryOp .Mult) rRep := by
  intro pins s σ H x y v u Q I rx ry h
  obtain ⟨l, k, xs, rfl, rfl, hH, h1, h2, hz, q⟩ := h
  cases rx
  obtain ⟨t, rfl⟩ := ry
  obtain ⟨z, its, n, r, hl, e⟩ := I.lstM hH
  have hlen : its.toArray.size * k.toNat ≤ sizeLine := by rw [List.size_toArray, ← hl]; exact hz
  have hcap : ¬ its.toArray.size * k.toNat > (2 ^ 63 - 1) / 8 := by
    have : (sizeLine : Nat) ≤ (2 ^ 63 - 1) / 8 := by decide
    (first | lia | omega)
  have hfit : ¬ (!Builtin.List.listFitsIndex k) = true := by
    rw [fitsIndex_both h1 h2]
    exact Bool.false_ne_true
  have hlong : ¬ Builtin.List.listTooLong (its.toArray.size * k.toNat) = true := by
    rw [notLongL hlen]
    exact Bool.false_ne_true
  have hnew : List.foldl (fun x1 x2 => x1 ++ x2) #[] (List.replicate (if its.toArray.isEmpty = true then 0 else k.toNat) its.toArray) = (List.replicate k.toNat its).flatten.toArray := by
    have f0 : ∀ m : Nat, List.foldl (fun x1 x2 => x1 ++ x2) #[] (List.replicate m its.toArray) = (List.replicate m its).flatten.toArray := fun m => by
      have := foldl_rep its m []
      rw [List.nil_append] at this
      exact this
    rw [f0]
    cases its with
    | nil => simp
    | cons a r' => rw [if_neg (by simp)]
  refine wpAny_binaryOp_repeat_ref (T := "list") (U := "int") (by decide) ⟨_, e, rfl⟩ (fun s' => typeIs_int s' k t) noFill_list_mul F.fills_int_mul F.slot_int_rmul repeat_list F.slot_int_index.lookup
    (call_meets F.slot_int_rmul (typeIs_int s k t) F.entry_int_rmul (F.args_int_rmul_2 _ _) (int___rmul___int_list k t l its.toArray n)
      ⟨e, rfl, ⟨_, e, rfl⟩, call_meets F.slot_list_mul ⟨_, e, rfl⟩ F.entry_list_mul (F.args_list_mul_2 _ _) (AutoListH.list___mul___list_int_3 l its.toArray n k t hfit hcap hlong) ⟨e, ?_⟩⟩)
  rw [hnew]
  exact ⟨.ref _, _, I.lnew (t' := s.toks) (r.rep k.toNat) (by rw [len_rep, Nat.mul_comm]; exact hz), rfl, q _ I.fresh⟩

end

section
variable {prog : Program} {w : World} {A : Around} {E : Value → Shared → Prop} {s : Shared}
end

section
variable {X : Cx}
end
end L2

namespace Att
open PySem PySem.W PySem.Calls PyProof.Rows

theorem ints_of_wellAll {P : Params} {h : Heap} : ∀ (ns : List Int) (vs : List Value), WellAll P h vs (ns.map WData.int) → IntsAre vs ns := by
  intro ns
  induction ns with
  | nil =>
    intro vs w
    rw [List.map_nil] at w
    cases w
    exact .nil
  | cons n ns ih =>
    intro vs w
    rw [List.map_cons] at w
    cases w with
    | cons a b =>
      cases a
      exact .cons _ _ (ih _ b)

theorem script_of {l : OpenLaw} {n : Nat} (hn : l.most = some n) {P : Params} {h : Heap} {args : List WData} {vals : List Value}
    (hpre : l.row.toRowW.claim.pre args = true) (hwl : WellAll P h vals args) :
    ∃ a vs ns, vals = [Value.ref a] ∧ args = [WData.list (ns.map WData.int)] ∧ h.get? a = some { cls := .type "list", data := .seq vs.toArray } ∧ IntsAre vs ns ∧ ns.length ≤ n := by
  have hsh : WShape.hasAll [] args [.list .int] = true := (pre_splitW hpre).1
  have hc : l.pre.holds [] { args := args } = true := (pre_splitW hpre).2
  obtain ⟨d, r, rfl, h1, h2⟩ := hasAllW_cons hsh
  obtain rfl := hasAllW_nil h2
  obtain ⟨xs, rfl, h3⟩ := hasW_list h1
  obtain ⟨ns, rfl⟩ := items_int h3
  have hlen : ns.length ≤ n := by
    unfold OpenLaw.pre at hc
    have h4 : (WTm.not (.lt (.lit (.int (n : Int))) (.len (.arg 0)))).holds [] { args := [.list (ns.map .int)] } = true := by
      have h4 := (holds_andW hc).1
      rw [hn] at h4
      exact h4
    have h5 := condW_of h4 (w_not (w_lt w_lit (w_len_list (w_arg rfl))))
    rw [List.length_map] at h5
    refine Nat.le_of_not_lt fun q => ?_
    have q' : (n : Int) < ((ns.length : Nat) : Int) := by (first | lia | omega)
    first
      | (rw [decide_eq_true q'] at h5; exact absurd h5 (by decide))
      | (simp at h5; (first | lia | omega))
  cases hwl with
  | cons w1 w2 =>
    cases w2
    cases w1 with
    | list ho hall => exact ⟨_, _, ns, rfl, rfl, ho, ints_of_wellAll ns _ hall, hlen⟩

theorem post_true (l : OpenLaw) (args : List WData) : l.row.toRowW.claim.post args (.bool true) args = true :=
  postW_of (r := l.row.toRowW) (X := (true == true))
    (show WShape.has [] (.bool true) .bool = true by first | rfl | decide | simp [WShape.has, WShape.arms, WShape.armsAll])
    (show (WTm.eq .res (.lit (.bool true))).value [] { args := args, res := some (.bool true), after := args } = some (.bool (true == true)) from w_eq_bool (w_res rfl) w_lit) rfl

theorem attach_call {l : OpenLaw} {n : Nat} {q : Program} {loose : List Str} {XP : (Str → Option Value) → Heap → Prop} {YP : World → Heap → Prop} {d : DefRec}
    (hn : l.most = some n) (hdf : d.params.defaults = [])
    (call : ∀ (w : World) (s₀ s₁ : Shared) (mg mb : Str → Option Value) (fa : Addr) (o : Obj) (pm cd doc : Value) (a : Addr) (vs : List Value) (ns : List Int),
      Ground q loose [] XP w s₀ mg mb s₁.heap → YP w s₁.heap →
      s₁.heap.get? fa = some o → o.data = .func (docDef d.name d.params d.body d.scope pm cd doc) → s₁.heap.CodeRec cd d.name → mg d.name = some (.ref fa) →
      s₁.heap.get? a = some { cls := .type "list", data := .seq vs.toArray } → IntsAre vs ns → ns.length ≤ n → s₁.gens = #[] →
      codeAny (model l.prog w) callerA (.call (.ref fa) ⟨[.ref a], []⟩) (fun r s' => r = .ok (.ret (.bool true)) ∧ OldK s₁.heap s'.heap ∧ s'.os = s₁.os ∧ AllBare s'.gens) s₁) :
    WalkO q loose XP YP l.row.toRowW d [] (fun f vs => PySem.call f vs) := by
  intro w s₀ s₁ mg mb G Y fa o pm cd doc dV kV ho hd hcd hD hmg hg args vals as hpre hlay hrd hwl hlo
  obtain rfl : dV = .none := Dflts.none hD hdf
  obtain rfl : kV = .none := Dflts.noKw hD
  obtain ⟨a, vs, ns, rfl, rfl, hobj, hints, hlen⟩ := script_of hn hpre hwl
  refine enter_call (codeAny_mono (call w s₀ s₁ mg mb fa o pm cd doc a vs ns G Y ho (fd_plain hd) hcd hmg hobj hints hlen hg) fun r s' hq => ?_)
  obtain ⟨rfl, h2, h3, h4⟩ := hq
  exact ⟨.inl ⟨.bool true, .bool true, [], rfl, fun _ => rfl, .bool true, post_true l _, fun _ => ⟨List.Pairwise.nil, fun _ hm => (nomatch hm)⟩⟩, h2, h3, h4⟩

section
variable {prog : Program} {w : World} {A : Around} {E : Value → Shared → Prop} {s : Shared} {K : Frag}

end
end Att

namespace L2
open PySem PySem.Spec PyProof.Rows

theorem vals_ints : ∀ {vs : List Value} {ns : List Int}, IntsAre vs ns → Vals (ns.map V.int) vs
  | _, _, .nil => .nil
  | _, _, .cons n t h => .cons ⟨t, rfl⟩ (vals_ints h)

noncomputable def Only (H : Hp) : Prop := ∀ b, H b = none ∨ ∃ o xs, H b = some (.frz o (.lst xs))

theorem law_call {P : Program} {w : World} {K : PySem.W.Frag} {mg mb : Str → Option Value} {CX : CXT} {k : Nat} {fa a : Addr} {fd : FuncData} {x : Str} {sp : Sp} {s₁ : Shared} {vs : List Value} {ns : List Int}
    (KX : K.In s₁.heap) (hns : s₁.heap.Ns mainGlobals mg) (hb : s₁.heap.Ns builtinsNs mb) (hbb : ∀ x : Str, x ≠ "__name__" → mb x = bootBuiltins x) (hlim : s₁.heap.NoLimit) (hg : s₁.gens = #[])
    (ha : s₁.heap.get? a = some { cls := .type "list", data := .seq vs.toArray }) (hi : IntsAre vs ns) (hl : ns.length ≤ sizeLine) (hr : Room k callerA)
    (F : ∀ base : Heap, K.In base → base.Ns mainGlobals mg → FnOk P w K mg base CX k fa fd [x] sp) (hbind : ∀ (s : Shared) (u : Value), BindsTo s fd ⟨[u], []⟩ [(x, u)])
    (hsp : ∀ H : Hp, Only H → SqL K H a (ns.map V.int) → sp [.ref a] H (fun v _ => v = .bl true) fun _ _ _ => False)
    (hCX : ∀ H e s', CX [] H s₁ (fun _ _ _ => False) e s' → False) :
    codeAny (model P w) callerA (.call (.ref fa) ⟨[.ref a], []⟩) (fun r s' => r = .ok (.ret (.bool true)) ∧ OldK s₁.heap s'.heap ∧ s'.os = s₁.os ∧ AllBare s'.gens) s₁ := by
  have rv := vals_ints hi
  have lenV := hi.length
  -- from an abstract heap in which nothing but the script may be tracked
  have core : ∀ H : Hp, Only H → SqL K H a (ns.map V.int) → HOk P w H s₁.heap → (∀ b, H b ≠ none → b = a) → (H a ≠ none → K.lookup a = none) →
      codeAny (model P w) callerA (.call (.ref fa) ⟨[.ref a], []⟩) (fun r s' => r = .ok (.ret (.bool true)) ∧ OldK s₁.heap s'.heap ∧ s'.os = s₁.os ∧ AllBare s'.gens) s₁ := by
    intro H hO hS hok hA hK
    have base_of : ∀ {b : Addr} {o : Obj}, s₁.heap.get? b = some o → H b = none → (hidT s₁.heap H).get? b = some o := fun e n => hidT_get e n
    have noA : ∀ {b : Addr} {o : Obj} {es : Array DictEntry} {ep : Nat}, s₁.heap.get? b = some o → o.data = .dict es ep → H b = none := fun {b o es ep} e d => by
      cases q : H b with
      | none => rfl
      | some u =>
        have e' : b = a := hA b (by rw [q]; simp)
        subst e'
        rw [ha] at e; cases e
        have d' : Data.seq vs.toArray _ = Data.dict es ep := d
        cases d'
    have nsK : ∀ {b : Addr} {m : Str → Option Value}, s₁.heap.Ns b m → (hidT s₁.heap H).Ns b m := fun {b m} ⟨o, es, ep, e, d, r⟩ => ⟨o, es, ep, base_of e (noA e d), d, r⟩
    have hKb : K.In (hidT s₁.heap H) := fun b o e => base_of (KX b o e) (by
      cases q : H b with
      | none => rfl
      | some u =>
        have e' : b = a := hA b (by rw [q]; simp)
        subst e'
        rw [hK (by rw [q]; simp)] at e; cases e)
    have hM : Mod K mg (hidT s₁.heap H) := ⟨hKb, nsK hns, ⟨mb, nsK hb, hbb⟩, let ⟨mc, h1, h2⟩ := hlim; ⟨mc, nsK h1, h2⟩⟩
    have e0 : Env0 P w K mg (hidT s₁.heap H) callerA [] s₁ H := ⟨rfl, hM, fun b o e => of_hidT e, Nat.le_of_eq (hidT_size _ _), trivial, fun b hb => absurd (show b ∈ ([] : List Addr) from hb) (by simp), hok, .of_eq hg⟩
    refine codeAny_mono ((F _ hKb (nsK hns)).run callerA [] s₁ H ⟨[.ref a], []⟩ [.ref a] [.ref a] _ _ hr e0 (hbind s₁ (.ref a)) (.cons rfl .nil) (hsp H hO hS)) fun r s' h => ?_
    cases r with
    | error e => exact (hCX H e s' h).elim
    | ok fl =>
      cases fl with
      | next => exact False.elim h
      | brk => exact False.elim h
      | cont => exact False.elim h
      | ret u =>
        obtain ⟨v, H', os, bare, un, hok', r', q⟩ := h
        have q' : v = .bl true := q
        subst q'
        obtain rfl : u = Value.bool true := r'
        refine ⟨rfl, OldK.of_keep fun b o e => ?_, os, bare⟩
        cases q : H b with
        | none => exact un.keep b o e q (by intro z; exact absurd (show b ∈ ([] : List Addr) from z) (by simp)) (by simp)
        | some u =>
          rcases hO b with z | ⟨ob, xs, z⟩
          · rw [q] at z; cases z
          · have z2 := un.frzs b ob _ z
            obtain ⟨e1, _⟩ := hok b _ z
            obtain ⟨e2, _⟩ := hok' b _ z2
            rw [e] at e1; cases e1
            exact e2
  cases hk : K.lookup a with
  | some o =>
    -- the script is one of the module's own objects
    have e := KX a o hk
    rw [ha] at e
    cases e
    refine core (fun _ => none) (fun _ => .inl rfl) (.inr ⟨_, vs.toArray, _, hk, rfl, rfl, rfl, by rw [List.size_toArray, lenV]; exact hl, by simpa using rv⟩) (fun b u z => by have z' : (none : Option HO) = some u := z; cases z') (fun b z => absurd rfl z) fun z => absurd rfl z
  | none =>
    refine core (fun b => if b = a then some (.frz { cls := .type "list", data := .seq vs.toArray } (.lst (ns.map V.int))) else none) (fun b => ?_) (.inl (.inr ⟨{ cls := .type "list", data := .seq vs.toArray }, if_pos rfl⟩)) (fun b u z => ?_) (fun b z => ?_) fun _ => hk
    · by_cases hb : b = a
      · exact .inr ⟨_, _, if_pos hb⟩
      · exact .inl (if_neg hb)
    · by_cases hb : b = a
      · have z' := (if_pos hb).symm.trans z
        cases z'
        subst hb
        exact ⟨ha, by rw [List.length_map]; exact hl, vs, _, rv, ha⟩
      · have z' := (if_neg hb).symm.trans z
        cases z'
    · by_cases hb : b = a
      · exact hb
      · exact absurd (if_neg hb) z
end L2

namespace L2
open PySem PySem.Spec PyProof.Rows

theorem walk_of {l : PySem.W.OpenLaw} {n k : Nat} {q : Program} {loose : List Str} {XP : (Str → Option Value) → Heap → Prop} {YP : World → Heap → Prop} {d : DefRec} {K : Params → PySem.W.Frag} {CX : World → CXT} {sp : World → Sp} {x : Str}
    (hn : l.most = some n) (hn2 : n ≤ sizeLine) (hdf : d.params.defaults = []) (hr : Room k callerA)
    (hY : ∀ (w : World) (h : Heap), YP w h → (K w.params).In h)
    (F : ∀ (w : World) (mg : Str → Option Value) (fa : Addr) (h : Heap), (K w.params).In h → h.Ns mainGlobals mg → mg d.name = some (.ref fa) →
      ∃ fd : FuncData, (∀ (s : Shared) (u : Value), BindsTo s fd ⟨[u], []⟩ [(x, u)]) ∧
        ∀ base : Heap, (K w.params).In base → base.Ns mainGlobals mg → FnOk l.prog w (K w.params) mg base (CX w) k fa fd [x] (sp w))
    (hsp : ∀ (w : World) (H : Hp) (a : Addr) (ns : List Int), ns.length ≤ n → Only H → SqL (K w.params) H a (ns.map V.int) → sp w [.ref a] H (fun v _ => v = .bl true) fun _ _ _ => False)
    (hCX : ∀ (w : World) (H : Hp) (s : Shared) (e : Value) (s' : Shared), CX w [] H s (fun _ _ _ => False) e s' → False) :
    PySem.W.WalkO q loose XP YP l.row.toRowW d [] (fun f vs => PySem.call f vs) := by
  refine Att.attach_call hn hdf fun w s₀ s₁ mg mb fa o pm cd doc a vs ns G Y ho hd hcd hmg hobj hints hlen hg => ?_
  have KX := hY w _ Y
  obtain ⟨fd, hb, hF⟩ := F w mg fa _ KX G.T.g hmg
  exact law_call KX G.T.g G.T.b G.T.builtins G.T.nolimit hg hobj hints (Nat.le_trans hlen hn2) hr hF hb (fun H hO hS => hsp w H a ns hlen hO hS) fun H e s' => hCX w H s₁ e s'
end L2


namespace L2
open PySem PySem.Spec PyProof.Rows

noncomputable def inClass (s : Stmt) (j : Nat) : Stmt := match s with
  | .ClassDef _ _ _ body _ _ _ _ _ _ _ => body.getD j (.Pass ⟨0, 0, 0, 0⟩)
  | _ => .Pass ⟨0, 0, 0, 0⟩
noncomputable def defArgs (s : Stmt) : Arguments := match s with
  | .FunctionDef _ a _ _ _ _ _ _ _ _ => a
  | _ => { posonlyargs := [], args := [], vararg := none, kwonlyargs := [], kw_defaults := [], kwarg := none, defaults := [] }
noncomputable def defBody (s : Stmt) : List Stmt := match s with
  | .FunctionDef _ _ b _ _ _ _ _ _ _ => b
  | _ => []
noncomputable def defScope (s : Stmt) : Scope := match s with
  | .FunctionDef _ _ _ _ _ _ sc _ _ _ => sc
  | _ => { kind := .function, names := [], isGenerator := false, isCoroutine := false }

noncomputable abbrev CX0 : CXT := fun _ _ _ _ _ _ => False
noncomputable abbrev E0 : XK := fun _ _ _ => False
theorem pass0 {X : Cx} : Passes CX0 X E0 := fun _ _ _ _ _ _ _ h => h.elim

structure Fun (K : PySem.W.Frag) (x qual : Str) (st : Stmt) (f : Addr) (fd : FuncData) : Prop where
  ex : ∃ (oc : Value) (od : Option Addr) (kV doc pm : Value) (an : Option Addr) (cdv ct : Value) (osl : Array (Option Value)),
    fd = PySem.W.fnOf x qual (defArgs st) (defBody st) (defScope st) .none kV doc pm an cdv ct ∧ K.lookup f = some ⟨oc, od, .func fd, osl⟩ ∧ PySem.W.codeIn K cdv qual = true
  kp : PySem.W.keepIn K (.ref f) = true
section
variable {P : Program} {w : World} {K : PySem.W.Frag} {mg : Str → Option Value} {base : Heap}
theorem Fun.ok {x qual : Str} {st : Stmt} {f : Addr} {fd : FuncData} {N ps : List Str} {k : Nat} {sp : Sp} (F : Fun K x qual st f fd) (S : FnScope N ps (defScope st)) (len : ∀ vs H Q E, sp vs H Q E → vs.length = ps.length)
    (hbody : ∀ (cdv : Value) (A : Around) (outer : List Env) (s : Shared) (H : Hp) (vs : List V) (Q : VK) (E : XK), Room k (A.deeper (envOfC qual (defScope st) s.heap.objs.size f cdv)) → sp vs H Q E →
      ∃ t, PSs (cxOf CX0 P w K mg base N qual (defScope st) f cdv A outer s H E).nox (defBody st) t ∧ t { nx := fun _ H' => Q .non H', rt := Q } (start N vs) H) : FnOk P w K mg base CX0 (k + 1) f fd ps sp := by
  obtain ⟨oc, od, kV, doc, pm, an, cdv, ct, osl, rfl, lk, hcd⟩ := F.ex
  refine fn_of lk hcd S len fun A outer s H vs Q E hr hsp => ?_
  obtain ⟨t, h, q⟩ := hbody cdv A outer s H vs Q E hr hsp
  exact ⟨t, h.nox, q⟩
theorem Fun.binds {x qual : Str} {st : Stmt} {f : Addr} {fd : FuncData} {ps : List Str} (F : Fun K x qual st f fd)
    (h : ∀ (kV doc pm : Value) (an : Option Addr) (cdv ct : Value) (us : List Value), us.length = ps.length → bindArgs (PySem.W.fnOf x qual (defArgs st) (defBody st) (defScope st) .none kV doc pm an cdv ct) ⟨us, []⟩ = pure (ps.zip us)) : Binds K fd ps [] := by
  obtain ⟨oc, od, kV, doc, pm, an, cdv, ct, osl, rfl, lk, hcd⟩ := F.ex
  exact .all (h kV doc pm an cdv ct)
theorem fun_mk {x qual : Str} {st : Stmt} {f : Addr} {oc : Value} {od an : Option Addr} {osl : Array (Option Value)} {kV doc pm cdv ct : Value} (l : K.lookup f = some ⟨oc, od, .func (PySem.W.fnOf x qual (defArgs st) (defBody st) (defScope st) .none kV doc pm an cdv ct), osl⟩)
    (c : PySem.W.codeIn K cdv qual = true) (k : PySem.W.keepIn K (.ref f) = true) : Fun K x qual st f (PySem.W.fnOf x qual (defArgs st) (defBody st) (defScope st) .none kV doc pm an cdv ct) := ⟨⟨oc, od, kV, doc, pm, an, cdv, ct, osl, rfl, l, c⟩, k⟩
end
theorem hu_of {A : Around} {k : Nat} (hr : Room k A) : A.units + 1 < cLine := Nat.lt_of_le_of_lt (Nat.add_le_add_left (by decide : 1 ≤ 64) _) hr.units
theorem small1000 {n : Nat} (h : n ≤ 1000) : n < sizeLine := Nat.lt_of_le_of_lt h (by decide)

section
variable {X : Cx}
theorem pv (i : Nat) {x : Str} {pos : Pos} (hN : X.N[i]? = some x := by rfl) (hv : Vis X.env.scope x := by first | exact Or.inl rfl | exact Or.inr (Or.inl rfl) | exact Or.inr (Or.inr rfl)) (hd : (x == ("__debug__" : Str)) = false := by decide)
    (hcd : (x == ("__classdict__" : Str)) = false := by decide) : PE X (.Name x pos) (tVar i) := pe_var hN hv hd hcd
end

theorem iteF {A B : Prop} (h : B) : if false = true then A else B := by
  rw [if_neg Bool.false_ne_true]
  exact h
theorem iteT {A B : Prop} (h : A) : if true = true then A else B := by
  rw [if_pos rfl]
  exact h
theorem ite2 {c A B : Prop} [Decidable c] (h1 : c → A) (h2 : ¬ c → B) : if c then A else B := by
  by_cases h : c
  · rw [if_pos h]
    exact h1 h
  · rw [if_neg h]
    exact h2 h
noncomputable def Same (H H' : Hp) : Prop := ∀ b o, H b = some o → H' b = some o
theorem Same.refl (H : Hp) : Same H H := fun _ _ h => h
theorem Same.trans {H H1 H2 : Hp} (a : Same H H1) (b : Same H1 H2) : Same H H2 := fun c o h => b c o (a c o h)
theorem Same.free {H H' : Hp} (e : Same H H') {l : Addr} (h : H' l = Option.none) : H l = Option.none := by
  cases q : H l with
  | none => rfl
  | some o =>
    rw [e l o q] at h
    cases h
theorem Same.seq {K : PySem.W.Frag} {H H' : Hp} {a : Addr} {xs : List V} (e : Same H H') (h : SqL K H a xs) : SqL K H' a xs := by
  rcases h with (h | ⟨o, h⟩) | h
  · exact .inl (.inl (e _ _ h))
  · exact .inl (.inr ⟨o, e _ _ h⟩)
  · exact .inr h

end L2
set_option Elab.async false
set_option linter.all false
set_option maxRecDepth 100000
namespace L2
open PySem PySem.Spec PyProof.Rows

section
variable {κ : Type} [DecidableEq κ]
noncomputable def valV (kvs : List (κ × V)) (k : κ) : Option V := (kvs.find? fun kv => decide (kv.1 = k)).map (·.2)
noncomputable def putK (kvs : List (κ × V)) (k : κ) (v : V) : List (κ × V) :=
  if (kvs.any fun kv => decide (kv.1 = k)) = true then kvs.map (fun kv => if kv.1 = k then (kv.1, v) else kv) else kvs ++ [(k, v)]
theorem valV_pos {p : κ × V} {r : List (κ × V)} {k : κ} (e : p.1 = k) : valV (p :: r) k = some p.2 := by simp [valV, List.find?_cons, e]
theorem valV_neg {p : κ × V} {r : List (κ × V)} {k : κ} (e : ¬ p.1 = k) : valV (p :: r) k = valV r k := by simp [valV, List.find?_cons, e]
theorem valV_any (k : κ) : ∀ kvs : List (κ × V), (kvs.any fun kv => decide (kv.1 = k)) = (valV kvs k).isSome
  | [] => rfl
  | p :: r => by
    rw [List.any_cons]
    by_cases e : p.1 = k
    · simp only [valV_pos e, decide_eq_true e, Bool.true_or, Option.isSome_some]
    · rw [valV_neg e, decide_eq_false e, Bool.false_or]; exact valV_any k r
theorem length_putK (kvs : List (κ × V)) (k : κ) (v : V) : (putK kvs k v).length ≤ kvs.length + 1 := by
  unfold putK
  split
  · rw [List.length_map]; (first | lia | omega)
  · rw [List.length_append, List.length_cons, List.length_nil]; (first | lia | omega)
theorem putK_new {kvs : List (κ × V)} {k : κ} (v : V) (h : valV kvs k = none) : putK kvs k v = kvs ++ [(k, v)] := by
  unfold putK
  rw [valV_any, h]
  exact if_neg (by decide)

theorem RelO.isSome_eq {o : Option V} {u : Option Value} (r : RelO o u) : o.isSome = u.isSome := by
  cases o with
  | none => cases u with
    | none => rfl
    | some _ => exact (show False from r).elim
  | some _ => cases u with
    | none => exact (show False from r).elim
    | some _ => rfl
theorem RelO.getD {o : Option V} {u : Option Value} {d : V} {d' : Value} (r : RelO o u) (rd : RelV d d') : RelV (o.getD d) (u.getD d') := by
  cases o with
  | none => cases u with
    | none => exact rd
    | some _ => exact (show False from r).elim
  | some _ => cases u with
    | none => exact (show False from r).elim
    | some _ => exact r

theorem KV.val {kvs : List (κ × V)} {vs : List (κ × Value)} (r : KV kvs vs) (k : κ) : RelO (valV kvs k) (valueAt vs k) := by
  unfold KV at r
  induction r with
  | nil => exact True.intro
  | @cons p q ps qs h t ih =>
    obtain ⟨h1, h2⟩ := h
    by_cases e : p.1 = k
    · have e' : q.1 = k := h1.symm.trans e
      have b : valueAt (q :: qs) k = some q.2 := by simp [valueAt, List.find?_cons, e']
      rw [valV_pos e, b]; exact h2
    · have e' : ¬ q.1 = k := fun z => e (h1.trans z)
      have b : valueAt (q :: qs) k = valueAt qs k := by simp [valueAt, List.find?_cons, e']
      rw [valV_neg e, b]; exact ih
theorem KV.any {kvs : List (κ × V)} {vs : List (κ × Value)} (r : KV kvs vs) (k : κ) : (kvs.any fun kv => decide (kv.1 = k)) = vs.any fun kv => decide (kv.1 = k) := by
  unfold KV at r
  induction r with
  | nil => rfl
  | cons h t ih => rw [List.any_cons, List.any_cons, ih, h.1]
theorem KV.repl {kvs : List (κ × V)} {vs : List (κ × Value)} (r : KV kvs vs) (k : κ) {y : V} {u : Value} (ry : RelV y u) :
    KV (kvs.map fun kv => if kv.1 = k then (kv.1, y) else kv) (vs.map fun kv => if kv.1 = k then (kv.1, u) else kv) := by
  unfold KV at r ⊢
  induction r with
  | nil => exact .nil
  | @cons p q ps qs h t ih =>
    rw [List.map_cons, List.map_cons]
    refine .cons ?_ ih
    obtain ⟨h1, h2⟩ := h
    by_cases e : p.1 = k
    · rw [if_pos e, if_pos (h1.symm.trans e)]; exact ⟨h1, ry⟩
    · rw [if_neg e, if_neg (fun z => e (h1.trans z))]; exact ⟨h1, h2⟩
theorem KV.put {kvs : List (κ × V)} {vs : List (κ × Value)} (r : KV kvs vs) (k : κ) {y : V} {u : Value} (ry : RelV y u) : KV (putK kvs k y) (stored vs k u) := by
  unfold putK stored
  rw [r.any k]
  by_cases e : (vs.any fun kv => decide (kv.1 = k)) = true
  · rw [if_pos e, if_pos e]; exact r.repl k ry
  · rw [if_neg e, if_neg e]; exact Paired.snoc r ⟨rfl, ry⟩
theorem KV.keys {kvs : List (κ × V)} {vs : List (κ × Value)} (r : KV kvs vs) : kvs.map (·.1) = vs.map (·.1) := by
  unfold KV at r
  induction r with
  | nil => rfl
  | cons h t ih => rw [List.map_cons, List.map_cons, ih, h.1]
theorem KV.length {kvs : List (κ × V)} {vs : List (κ × Value)} (r : KV kvs vs) : kvs.length = vs.length := Paired.length r
end


theorem kV_is {P : Program} {w : World} {k : Key} {u : Value} (r : RelV (kV k) u) : (mixKind P w).is k u = true := by
  cases k with
  | inl i => obtain ⟨t, e⟩ := (show ∃ t, u = Value.int i t from r); subst e; exact mixKind_int P w i t
  | inr x => obtain ⟨t, e⟩ := (show ∃ t, u = Value.str x t from r); subst e; exact mixKind_str P w x t
theorem items_are {P : Program} {w : World} : ∀ {ks : List Key} {us : List Value}, Vals (ks.map kV) us → ItemsAre (mixKind P w) ks us
  | [], _, r => by rw [List.map_nil] at r; cases r; exact .nil
  | k :: ks, _, r => by
    rw [List.map_cons] at r
    cases r with
    | cons h t => exact .cons (kV_is h) (items_are t)

noncomputable abbrev KT (H : Hp) : List (List Key × V) → List (List Key × Addr × Value) → Prop := Paired fun p q => p.1 = q.1 ∧ H q.2.1 = some (.tup (p.1.map kV)) ∧ RelV p.2 q.2.2
theorem KT.val {H : Hp} {kvs : List (List Key × V)} {xs : List (List Key × Addr × Value)} (r : KT H kvs xs) (k : List Key) : RelO (valV kvs k) ((atKey xs k).map (·.2)) := by
  induction r with
  | nil => exact True.intro
  | @cons p q ps qs h t ih =>
    obtain ⟨h1, _, h2⟩ := h
    by_cases e : p.1 = k
    · have e' : q.1 = k := h1.symm.trans e
      have b : atKey (q :: qs) k = some q.2 := by simp [atKey, List.find?_cons, e']
      rw [valV_pos e, b]; exact h2
    · have e' : ¬ q.1 = k := fun z => e (h1.trans z)
      have b : atKey (q :: qs) k = atKey qs k := by simp [atKey, List.find?_cons, e']
      rw [valV_neg e, b]; exact ih
theorem KT.repl {H : Hp} {kvs : List (List Key × V)} {xs : List (List Key × Addr × Value)} (r : KT H kvs xs) (k : List Key) {y : V} {u : Value} (ry : RelV y u) :
    KT H (kvs.map fun kv => if kv.1 = k then (kv.1, y) else kv) (xs.map (putAt k u)) := by
  induction r with
  | nil => exact .nil
  | @cons p q ps qs h t ih =>
    rw [List.map_cons, List.map_cons]
    refine .cons ?_ ih
    obtain ⟨h1, h2, h3⟩ := h
    unfold putAt
    by_cases e : p.1 = k
    · rw [if_pos e, if_pos (h1.symm.trans e)]; exact ⟨h1, h2, ry⟩
    · rw [if_neg e, if_neg (fun z => e (h1.trans z))]; exact ⟨h1, h2, h3⟩
theorem KT.put {H : Hp} {kvs : List (List Key × V)} {xs : List (List Key × Addr × Value)} (r : KT H kvs xs) (k : List Key) {b : Addr} {y : V} {u : Value} (hb : H b = some (.tup (k.map kV))) (ry : RelV y u) :
    KT H (putK kvs k y) (storedH xs k b u) := by
  have e : (kvs.any fun kv => decide (kv.1 = k)) = (atKey xs k).isSome := by
    rw [valV_any, (r.val k).isSome_eq, Option.isSome_map]
  unfold putK storedH
  rw [e]
  by_cases q : (atKey xs k).isSome = true
  · rw [if_pos q, if_pos q]; exact r.repl k ry
  · rw [if_neg q, if_neg q]; exact Paired.snoc r ⟨rfl, hb, ry⟩
theorem KT.keeps {H H' : Hp} {kvs : List (List Key × V)} {xs : List (List Key × Addr × Value)} (r : KT H kvs xs) (ht : ∀ b ys, H b = some (.tup ys) → H' b = some (.tup ys)) : KT H' kvs xs :=
  Paired.mapP r fun _ _ z => ⟨z.1, ht _ _ z.2.1, z.2.2⟩

section
variable {P : Program} {w : World} {H : Hp} {h : Heap} {a : Addr}
theorem rd_of {u : HO} (ok : HOk P w H h) (e : Rd H a u) : ObjOk P w H h a u := e.ok ok
theorem dk_rd {kvs : List (Key × V)} (ok : HOk P w H h) (e : Rd H a (.dK kvs)) : kvs.length ≤ sizeLine ∧ (a == sysModules) = false ∧ ∃ vs, KV kvs vs ∧ h.DictOf (mixKind P w) a vs :=
  show ObjOk P w H h a (.dK kvs) from rd_of ok e
theorem dk_of {kvs : List (Key × V)} (ok : HOk P w H h) (e : H a = some (.dK kvs)) : kvs.length ≤ sizeLine ∧ (a == sysModules) = false ∧ ∃ vs, KV kvs vs ∧ h.DictOf (mixKind P w) a vs := dk_rd ok (.inl e)
theorem key_of {ks : List Key} (ok : HOk P w H h) (e : H a = some (.tup (ks.map kV))) : (tupleKind (mixKind P w)).is h ks a := by
  obtain ⟨_, its, r, o, h1, h2, n, h3⟩ := (show ObjOk P w H h a (.tup (ks.map kV)) from ok a _ e)
  exact ⟨o, its.toArray, n, h1, h2, h3, by simpa using items_are r⟩
theorem dt_rd {kvs : List (List Key × V)} (ok : HOk P w H h) (e : Rd H a (.dT kvs)) : kvs.length ≤ sizeLine ∧ (a == sysModules) = false ∧
    ∃ xs, KT H kvs xs ∧ h.DictOfH (tupleKind (mixKind P w)) a xs := by
  obtain ⟨z, y, xs, r, o, es, ep, h1, h2, h3, h4, h5⟩ := (show ObjOk P w H h a (.dT kvs) from rd_of ok e)
  refine ⟨z, y, xs, r, o, es, ep, h1, h2, h3, h4, fun x hx => ?_, h5⟩
  have all : ∀ {l : List (List Key × V)} {m : List (List Key × Addr × Value)}, KT H l m → ∀ x ∈ m, (tupleKind (mixKind P w)).is h x.1 x.2.1 := by
    intro l m q
    induction q with
    | nil => intro x hx; exact nomatch hx
    | @cons p q ps qs hq t ih =>
      intro x hx
      rcases List.mem_cons.mp hx with e | hx
      · subst e
        exact key_of ok (by rw [← hq.1]; exact hq.2.1)
      · exact ih x hx
  exact all r x hx
theorem dt_of {kvs : List (List Key × V)} (ok : HOk P w H h) (e : H a = some (.dT kvs)) : kvs.length ≤ sizeLine ∧ (a == sysModules) = false ∧
    ∃ xs, KT H kvs xs ∧ h.DictOfH (tupleKind (mixKind P w)) a xs := dt_rd ok (.inl e)
end

noncomputable def DGet (H : Hp) (a : Addr) (y : V) (r : Option V) : Prop :=
  (∃ kvs k, Rd H a (.dK kvs) ∧ y = kV k ∧ r = valV kvs k) ∨ ∃ kvs k b, Rd H a (.dT kvs) ∧ y = .ref b ∧ H b = some (.tup (k.map kV)) ∧ r = valV kvs k
noncomputable def DPut (H : Hp) (a : Addr) (y v : V) (H' : Hp) : Prop :=
  (∃ kvs k, H a = some (.dK kvs) ∧ y = kV k ∧ kvs.length < sizeLine ∧ H' = upd H a (.dK (putK kvs k v))) ∨
  ∃ kvs k b, H a = some (.dT kvs) ∧ y = .ref b ∧ H b = some (.tup (k.map kV)) ∧ kvs.length < sizeLine ∧ H' = upd H a (.dT (putK kvs k v))
theorem DGet.k {H : Hp} {a : Addr} {kvs : List (Key × V)} {k : Key} (e : H a = some (.dK kvs)) : DGet H a (kV k) (valV kvs k) := .inl ⟨kvs, k, .inl e, rfl, rfl⟩
theorem DPut.k {H : Hp} {a : Addr} {kvs : List (Key × V)} {k : Key} {v : V} (e : H a = some (.dK kvs)) (hl : kvs.length < sizeLine) : DPut H a (kV k) v (upd H a (.dK (putK kvs k v))) := .inl ⟨kvs, k, e, rfl, hl, rfl⟩
section
variable {X : Cx} {pins : List (Addr × Obj)} {σ : St} {H : Hp} {s : Shared} {a : Addr} {y v : V} {u r : Value} {o : Option V} {A : Around} {E : Value → Shared → Prop}

theorem Inv.big (I : Inv X pins σ H s) : sysModules < s.heap.objs.size := by
  have h : mainGlobals < s.heap.objs.size := (I.mod.glob.keeps I.bk).lt
  exact Nat.lt_trans (by decide) h

theorem d_getItem {Q : Value → Shared → Prop} (hu : A.units + 1 < cLine) (I : Inv X pins σ H s) (g : DGet H a y (some v)) (ry : RelV y u) (h : ∀ w' s', Inv X pins σ H s' → RelV v w' → Q w' s') :
    wpAny (model X.prog X.w) A (getItem (.ref a) u) Q E s := by
  rcases g with ⟨kvs, k, e, ey, l⟩ | ⟨kvs, k, b, e, ey, eb, l⟩
  · subst ey
    obtain ⟨z, hd, vs, rel, dd⟩ := dk_rd I.hok e
    obtain ⟨w', hw, rw'⟩ := RelO.some_of (v := v) (o := valueAt vs k) (by rw [l]; exact rel.val k)
    exact wpAny_getItem_of (kV_is ry) dd.mapOf hw (h w' _ (I.tok _) rw')
  · subst ey
    cases (show u = Value.ref b from ry)
    obtain ⟨z, hd, xs, rel, dd⟩ := dt_rd I.hok e
    obtain ⟨w', hw, rw'⟩ := RelO.some_of (v := v) (o := (atKey xs k).map (·.2)) (by rw [l]; exact rel.val k)
    obtain ⟨p, hp, hp2⟩ := Option.map_eq_some_iff.mp hw
    refine wpAny_getItem_heap (tupleKind_room_in1 hu) (key_of I.hok eb) dd hp ?_
    rw [hp2]
    exact h w' _ (I.tok _) rw'
theorem d_in {Q : Value → Shared → Prop} (hu : A.units + 1 < cLine) (I : Inv X pins σ H s) (g : DGet H a y o) (ry : RelV y u) (h : ∀ s', Inv X pins σ H s' → Q (.bool o.isSome) s') :
    wpAny (model X.prog X.w) A (compareOp .In u (.ref a)) Q E s := by
  rcases g with ⟨kvs, k, e, ey, l⟩ | ⟨kvs, k, b, e, ey, eb, l⟩
  · subst ey
    obtain ⟨z, hd, vs, rel, dd⟩ := dk_rd I.hok e
    refine wpAny_in_of (kV_is ry) hd dd.mapOf ?_
    rw [← (rel.val k).isSome_eq, ← l]
    exact h _ (I.tok _)
  · subst ey
    cases (show u = Value.ref b from ry)
    obtain ⟨z, hd, xs, rel, dd⟩ := dt_rd I.hok e
    refine wpAny_in_heap (tupleKind_room_in1 hu) (key_of I.hok eb) hd dd ?_
    have q := (rel.val k).isSome_eq
    rw [Option.isSome_map] at q
    rw [← q, ← l]
    exact h _ (I.tok _)
theorem d_notIn {Q : Value → Shared → Prop} (hu : A.units + 1 < cLine) (I : Inv X pins σ H s) (g : DGet H a y o) (ry : RelV y u) (h : ∀ s', Inv X pins σ H s' → Q (.bool (!o.isSome)) s') :
    wpAny (model X.prog X.w) A (compareOp .NotIn u (.ref a)) Q E s := by
  rcases g with ⟨kvs, k, e, ey, l⟩ | ⟨kvs, k, b, e, ey, eb, l⟩
  · subst ey
    obtain ⟨z, hd, vs, rel, dd⟩ := dk_rd I.hok e
    refine wpAny_notIn_of (kV_is ry) hd dd.mapOf ?_
    rw [← (rel.val k).isSome_eq, ← l]
    exact h _ (I.tok _)
  · subst ey
    cases (show u = Value.ref b from ry)
    obtain ⟨z, hd, xs, rel, dd⟩ := dt_rd I.hok e
    refine wpAny_notIn_heap (tupleKind_room_in1 hu) (key_of I.hok eb) hd dd ?_
    have q := (rel.val k).isSome_eq
    rw [Option.isSome_map] at q
    rw [← q, ← l]
    exact h _ (I.tok _)
theorem d_write {h' : Heap} {t' : Nat} {ob : HO} (I : Inv X pins σ H s) (mu : Mut (H a)) (hs : Heap.SameBut a s.heap h') (he : ∃ q, h'.get? a = some q) (new : ObjOk X.prog X.w (upd H a ob) h' a ob) :
    Inv X pins σ (upd H a ob) { s with heap := h', toks := t' } :=
  I.write (x := a) (e := a) mu (.inl rfl) (fun b q hb z => (hs.2 b hb).trans z) he new
theorem dk_new {P : Program} {w : World} {H' : Hp} {h' : Heap} {kvs : List (Key × V)} {vs : List (Key × Value)} (z : kvs.length ≤ sizeLine) (hd : (a == sysModules) = false) (rel : KV kvs vs) (dd : h'.DictOf (mixKind P w) a vs) :
    ObjOk P w H' h' a (.dK kvs) := ⟨z, hd, vs, rel, dd⟩
theorem d_setItem {H' : Hp} {Q : Unit → Shared → Prop} (hu : A.units + 1 < cLine) (I : Inv X pins σ H s) (g : DPut H a y v H') (ry : RelV y u) (rv : RelV v r) (h : ∀ s', Inv X pins σ H' s' → Q () s') :
    wpAny (model X.prog X.w) A (setItem (.ref a) u r) Q E s := by
  rcases g with ⟨kvs, k, e, ey, l, eH⟩ | ⟨kvs, k, b, e, ey, eb, l, eH⟩
  · subst ey eH
    obtain ⟨z, hd, vs, rel, dd⟩ := dk_of I.hok e
    have hz : vs.length ≤ sizeLine := by rw [← rel.length]; exact z
    have hl : (putK kvs k v).length ≤ sizeLine := by have := length_putK kvs k v; (first | lia | omega)
    refine wpAny_setItem_pairs (hsz := hz) (kV_is ry) dd fun h' dd' hs => h _ ?_
    have he : ∃ q, h'.get? a = some q := let ⟨q, _, _, hq, _⟩ := dd'; ⟨q, hq⟩
    exact d_write I (by rw [e]; exact True.intro) hs he (dk_new hl hd (rel.put k rv) dd')
  · subst ey eH
    cases (show u = Value.ref b from ry)
    obtain ⟨z, hd, xs, rel, dd⟩ := dt_of I.hok e
    have hz : xs.length ≤ sizeLine := by rw [← Paired.length rel]; exact z
    have hl : (putK kvs k v).length ≤ sizeLine := by have := length_putK kvs k v; (first | lia | omega)
    refine wpAny_setItem_heap (hsz := hz) (tupleKind_room_in1 hu) (key_of I.hok eb) dd fun h' dd' hs => h _ ?_
    obtain ⟨q, es, ep, hq, h2, h3, h4, _, h5⟩ := dd'
    refine d_write I (by rw [e]; exact True.intro) hs ⟨q, hq⟩ ⟨hl, hd, _, (rel.put k eb rv).keeps fun c ys ec => ?_, q, es, ep, hq, h2, h3, h4, h5⟩
    rw [upd_ne (ne_of ec e (fun z => nomatch z))]
    exact ec
end

section
variable {X : Cx} {pins : List (Addr × Obj)} {σ : St} {H : Hp} {s : Shared} {a : Addr} {kvs : List (Key × V)} {k : Key} {u : Value} {A : Around} {E : Value → Shared → Prop}
theorem d_len {Q : Value → Shared → Prop} (I : Inv X pins σ H s) (e : Rd H a (.dK kvs)) (h : ∀ t s', Inv X pins σ H s' → Q (.int kvs.length t) s') : wpAny (model X.prog X.w) A (call (.builtin "len") [.ref a]) Q E s := by
  obtain ⟨z, hd, vs, rel, dd⟩ := dk_rd I.hok e
  refine call_len_dict hd dd (by rw [← rel.length]; rw [sizeLine_eq] at z; (first | lia | omega)) ?_
  rw [← rel.length]
  exact h _ _ (I.tok _)
end


noncomputable def NoSl (i : Expr) : Prop := ∀ ov iv, subscripted i false ov iv = operate [ov, iv] (getItem ov iv)
theorem subD_of {prog : Program} {w : World} {A : Around} {E : Value → Shared → Prop} {s : Shared} {env : Env} {value slice : Expr} {pos : Pos} {T id : String} {Q : Value → Shared → Prop}
    (hl : typeLookup (.type T) "__getitem__" = pure (some (.builtin id))) (hs : NoSl slice)
    (h : wpAny (model prog w) A (eval value env) (fun o s₁ => wpAny (model prog w) A (eval slice env) (fun i s₂ => s₂.TypeIs o T ∧ wpAny (model prog w) A (getItem o i) Q E s₂) E s₁) E s) :
    wpAny (model prog w) A (eval (.Subscript value slice pos) env) Q E s := by
  refine Subscript_ (wpAny_mono h (fun o s₁ h₁ => wpAny_mono h₁ (fun i s₂ h₂ => ?_) fun _ _ x => x) fun _ _ x => x)
  obtain ⟨hT, h₂⟩ := h₂
  unfold subscriptTail
  refine wpAny_bind ?_
  rw [getitemInPython_of_ne hT.not_modules]
  refine wpAny_bind (wpAny_specialOf hT hl ?_)
  have fin : wpAny (model prog w) A (subscripted slice false o i) (fun r s₃ => wpAny (model prog w) A (letTemporaryGo value o r >>= fun _ => pure r) Q E s₃) E s₂ := by
    rw [hs o i]
    exact wpAny_operating (wpAny_mono h₂ (fun r s₃ h₃ => wpAny_bind (wpAny_letTemporaryGo (wpAny_pure h₃))) fun _ _ x => x)
  first
    | exact wpAny_pure (wpAny_bind fin)
    | exact wpAny_bind (wpAny_pure (wpAny_bind fin))
    | exact wpAny_bind fin

theorem dict_typeIs {X : Cx} {pins : List (Addr × Obj)} {σ : St} {H : Hp} {s : Shared} {a : Addr} {y : V} {o : Option V} (I : Inv X pins σ H s) (g : DGet H a y o) : s.TypeIs (.ref a) "dict" := by
  rcases g with ⟨kvs, k, e, _, _⟩ | ⟨kvs, k, b, e, _, _, _⟩
  · obtain ⟨_, _, vs, _, dd⟩ := dk_rd I.hok e
    exact dd.typeIs
  · obtain ⟨_, _, xs, _, dd⟩ := dt_rd I.hok e
    exact dd.typeIs
noncomputable def tDGet (td ty : TE) : TE := fun σ H Q => td σ H fun x H1 => ty σ H1 fun y H2 => ∃ a v, x = .ref a ∧ DGet H2 a y (some v) ∧ Q v H2
noncomputable def tDIn (ty td : TE) : TE := fun σ H Q => ty σ H fun y H1 => td σ H1 fun x H2 => ∃ a o, x = .ref a ∧ DGet H2 a y o ∧ Q (.bl o.isSome) H2
noncomputable def tDNotIn (ty td : TE) : TE := fun σ H Q => ty σ H fun y H1 => td σ H1 fun x H2 => ∃ a o, x = .ref a ∧ DGet H2 a y o ∧ Q (.bl (!o.isSome)) H2
noncomputable def sDPut (td ty tv : TE) : TS := fun D σ H => tv σ H fun v H1 => td σ H1 fun x H2 => ty σ H2 fun y H3 => ∃ a H4, x = .ref a ∧ DPut H3 a y v H4 ∧ D.nx σ H4
section
variable {X : Cx} {o i e value : Expr} {pos pos' tpos : Pos} {td ty tv : TE}
theorem pe_dget (hu : X.A.units + 1 < cLine) (ho : PE X o td) (hi : PE X i ty) (hs : NoSl i) : PE X (.Subscript o i pos) (tDGet td ty) := by
  intro pins s σ H Q I h
  refine subD_of PySem.F.slot_dict_getitem.lookup hs (thn (ho pins s σ H _ I h) fun u s1 ⟨x, H1, I1, rx, q1⟩ => thn (hi pins s1 σ H1 _ I1 q1) fun iv s2 ⟨y, H2, I2, ry, a, v, ex, g, q2⟩ => ?_)
  subst ex
  obtain rfl : u = Value.ref a := rx
  exact ⟨dict_typeIs I2 g, d_getItem hu I2 g ry fun w' s3 I3 rw' => ⟨v, H2, I3, rw', q2⟩⟩
theorem pc_din (hu : X.A.units + 1 < cLine) (hi : PE X i ty) (ho : PE X o td) : PC X .In i o (tDIn ty td) := by
  intro pins s σ H Q I h
  refine thn (hi pins s σ H _ I h) fun iv s1 ⟨y, H1, I1, ry, q1⟩ => thn (ho pins s1 σ H1 _ I1 q1) fun u s2 ⟨x, H2, I2, rx, a, ov, ex, g, q2⟩ => ?_
  subst ex
  obtain rfl : u = Value.ref a := rx
  exact d_in hu I2 g ry fun s3 I3 => ⟨.bl ov.isSome, H2, I3, rfl, q2⟩
theorem pc_dnotin (hu : X.A.units + 1 < cLine) (hi : PE X i ty) (ho : PE X o td) : PC X .NotIn i o (tDNotIn ty td) := by
  intro pins s σ H Q I h
  refine thn (hi pins s σ H _ I h) fun iv s1 ⟨y, H1, I1, ry, q1⟩ => thn (ho pins s1 σ H1 _ I1 q1) fun u s2 ⟨x, H2, I2, rx, a, ov, ex, g, q2⟩ => ?_
  subst ex
  obtain rfl : u = Value.ref a := rx
  exact d_notIn hu I2 g ry fun s3 I3 => ⟨.bl (!ov.isSome), H2, I3, rfl, q2⟩
theorem ps_dput (hu : X.A.units + 1 < cLine) (ho : PE X o td) (hi : PE X i ty) (hv : PE X value tv) (hs : swapsWith value (some (.Subscript o i pos')) pos.line X.env = pure false) :
    PS X (.Assign [.Subscript o i pos'] value pos) (sDPut td ty tv) := by
  intro pins s σ H D I h
  refine wpAny_Assign_Subscript (thn (hv pins s σ H _ I h) fun r s1 ⟨v, H1, I1, rv, q1⟩ => thn (ho pins s1 σ H1 _ I1 q1) fun u s2 ⟨x, H2, I2, rx, q2⟩ => thn (hi pins s2 σ H2 _ I2 q2) fun iv s3 ⟨y, H3, I3, ry, a, H4, ex, g, q3⟩ => ?_) hs
  subst ex
  obtain rfl : u = Value.ref a := rx
  exact d_setItem hu I3 g ry rv fun s4 I4 => ⟨σ, H4, I4, q3⟩
end


theorem dk_empty {P : Program} {w : World} {H : Hp} (h : Heap) (hb : sysModules < h.objs.size) : ObjOk P w H (h.push { cls := .type "dict", data := .dict #[] }) h.objs.size (.dK []) :=
  ⟨Nat.zero_le _, beq_eq_false_iff_ne.mpr (Ne.symm (Nat.ne_of_lt hb)), [], .nil, Heap.DictOf.new h⟩
noncomputable def tDNewK : TE := fun _ H Q => ∀ p, H p = none → Q (.ref p) (upd H p (.dK []))
section
variable {X : Cx} {pos : Pos}
theorem pe_dnewK : PE X (.Dict [] [] pos) tDNewK := fun pins s σ H Q I h =>
  wpAny_Dict_empty ⟨.ref s.heap.objs.size, _, I.laid (a := s.heap.objs.size) (o := .dK []) (t' := s.toks) (fun _ _ q => Heap.get?_push_of_some _ q) (Nat.le_refl _) (dk_empty s.heap I.big), rfl, h _ (I.hok.fresh (Nat.le_refl _))⟩
end

noncomputable def tPairs : List (TE × TE) → St → Hp → (List (V × V) → Hp → Prop) → Prop
  | [], _, H, Q => Q [] H
  | (tk, tv) :: r, σ, H, Q => tk σ H fun x H1 => tv σ H1 fun y H2 => tPairs r σ H2 fun ps H3 => Q ((x, y) :: ps) H3
noncomputable abbrev VV : List (V × V) → List (Value × Value) → Prop := Paired fun p q => RelV p.1 q.1 ∧ RelV p.2 q.2
noncomputable def PPs (X : Cx) (pos : Pos) (keys : List (Option Expr)) (values : List Expr) (trs : List (TE × TE)) : Prop :=
  ∀ (pins : List (Addr × Obj)) (s : Shared) (σ : St) (H : Hp) (Q : List (V × V) → Hp → Prop), Inv X pins σ H s → tPairs trs σ H Q →
    wpAny (model X.prog X.w) X.A (evalPairs (pairTrees keys values X.env pos)) (fun vs s' => ∃ ps H', Inv X pins σ H' s' ∧ VV ps vs ∧ Q ps H') X.xe s
theorem pps_nil {X : Cx} {pos : Pos} : PPs X pos [] [] [] := fun pins s σ H Q I h => pairTrees_nil_walk ⟨[], H, I, .nil, h⟩
theorem pps_cons {X : Cx} {pos : Pos} {k v : Expr} {ks : List (Option Expr)} {vs : List Expr} {tk tv : TE} {trs : List (TE × TE)} (hk : PE X k tk) (hv : PE X v tv) (hr : PPs X pos ks vs trs) :
    PPs X pos (some k :: ks) (v :: vs) ((tk, tv) :: trs) := fun pins s σ H Q I h =>
  pairTrees_cons_walk (thn (hk pins s σ H _ I h) fun u s1 ⟨x, H1, I1, rx, q1⟩ => thn (hv pins s1 σ H1 _ I1 q1) fun w2 s2 ⟨y, H2, I2, ry, q2⟩ =>
    thn (hr pins s2 σ H2 _ I2 q2) fun ws s3 ⟨ps, H3, I3, rel, q3⟩ => ⟨(x, y) :: ps, H3, I3, .cons ⟨rx, ry⟩ rel, q3⟩)

noncomputable def mergeK (kvs more : List (Key × V)) : List (Key × V) := more.foldl (fun acc kv => putK acc kv.1 kv.2) kvs
theorem KV.merge : ∀ {more : List (Key × V)} {rs : List (Key × Value)} {kvs : List (Key × V)} {vs : List (Key × Value)}, KV more rs → KV kvs vs → KV (mergeK kvs more) (merged vs rs) := by
  intro more rs kvs vs r
  unfold KV at r
  induction r generalizing kvs vs with
  | nil => intro q; exact q
  | @cons p q ps qs h t ih =>
    intro r0
    have e : KV (putK kvs p.1 p.2) (stored vs q.1 q.2) := by
      have := r0.put p.1 h.2
      rw [← h.1]; exact this
    exact ih e
theorem length_mergeK : ∀ (more kvs : List (Key × V)), (mergeK kvs more).length ≤ kvs.length + more.length
  | [], kvs => by show kvs.length ≤ kvs.length + 0; (first | lia | omega)
  | p :: r, kvs => by
    have h1 := length_mergeK r (putK kvs p.1 p.2)
    have h2 := length_putK kvs p.1 p.2
    show (mergeK (putK kvs p.1 p.2) r).length ≤ _
    rw [List.length_cons]; (first | lia | omega)
theorem carries_of {P : Program} {w : World} : ∀ {kvs : List (Key × V)} {ws : List (Value × Value)}, VV (kvs.map fun kv => (kV kv.1, kv.2)) ws → ∃ rs, Carries (mixKind P w) ws rs ∧ KV kvs rs
  | [], _, r => by rw [List.map_nil] at r; cases r; exact ⟨[], True.intro, .nil⟩
  | p :: kvs, _, r => by
    rw [List.map_cons] at r
    cases r with
    | @cons a b as bs h t =>
      obtain ⟨rs, c, q⟩ := carries_of (P := P) (w := w) t
      obtain ⟨b1, b2⟩ := b
      exact ⟨(p.1, b2) :: rs, ⟨kV_is h.1, rfl, c⟩, .cons ⟨rfl, h.2⟩ q⟩
noncomputable def tDisp (trs : List (TE × TE)) : TE := fun σ H Q => ∀ p, H p = none → tPairs trs σ (upd H p (.dK [])) fun ps H2 => H2 p = some (.dK []) ∧ ∃ kvs : List (Key × V), ps = kvs.map (fun kv => (kV kv.1, kv.2)) ∧ kvs.length ≤ 15 ∧ Q (.ref p) (upd H2 p (.dK (mergeK [] kvs)))
theorem pe_disp {X : Cx} {pos : Pos} {keys : List (Option Expr)} {values : List Expr} {trs : List (TE × TE)} (h : PPs X pos keys values trs) (hall : keys.all (·.isSome) = true) (hl : keys.length = values.length) (h0 : keys ≠ [])
    (h15 : keys.length ≤ 15) : PE X (.Dict keys values pos) (tDisp trs) := by
  intro pins s σ H Q I q
  have hn := I.hok.fresh (Nat.le_refl s.heap.objs.size)
  have I1 := I.laid (a := s.heap.objs.size) (o := .dK []) (h' := s.heap.push { cls := .type "dict", data := .dict #[] }) (t' := s.toks) (fun _ _ q => Heap.get?_push_of_some _ q) (Nat.le_refl _) (dk_empty s.heap I.big)
  refine wpAny_Dict_walk (knd := mixKind X.prog X.w) hall hl h0 h15 (thn (h pins _ σ _ _ I1 (q _ hn)) fun ws s2 ⟨ps, H2, I2, rel, e, kvs, ep, lk, q2⟩ => ?_)
  subst ep
  obtain ⟨rs, c, rk⟩ := carries_of (P := X.prog) (w := X.w) rel
  obtain ⟨z, hd, vs0, r0, dd⟩ := dk_of I2.hok e
  cases r0
  refine ⟨rs, c, dd, fun h' dd' hs => ⟨.ref s.heap.objs.size, _, ?_, rfl, q2⟩⟩
  have hz : (mergeK [] kvs).length ≤ sizeLine := by
    have h1 := length_mergeK kvs []
    rw [List.length_nil] at h1
    rw [sizeLine_eq]; (first | lia | omega)
  have he : ∃ q, h'.get? s.heap.objs.size = some q := let ⟨q, _, _, hq, _⟩ := dd'; ⟨q, hq⟩
  exact d_write I2 (by rw [e]; exact True.intro) hs he (dk_new hz hd (rk.merge .nil) dd')


structure M2 (X : Cx) (o : Expr) (m : Str) (apos : Pos) (e f : Expr) (cpos : Pos) : Prop where
  base : attributeBase o m X.env (eval o X.env) = eval o X.env
  few : ((backTo cpos (starEach [e, f] X.env)).all (fun x => !x.1) && (backToKw cpos (keywordEach [] X.env)).all (fun x => x.1.isSome)
    && decide (([e, f] : List Expr).length + ([] : List Keyword).length + (if ([] : List Keyword).isEmpty then 0 else 1) < 30)) = true
  line : (apos.endLine == cpos.line) = true
  trees : backTo cpos (starEach [e, f] X.env) = [(false, eval e X.env), (false, eval f X.env)]

noncomputable def IsD (H : Hp) (a : Addr) : Prop := (∃ kvs, Rd H a (.dK kvs)) ∨ ∃ kvs, Rd H a (.dT kvs)
theorem isD_at {X : Cx} {pins : List (Addr × Obj)} {σ : St} {H : Hp} {s : Shared} {a : Addr} (I : Inv X pins σ H s) (d : IsD H a) :
    s.TypeIs (.ref a) "dict" ∧ (∀ b, Value.ref a = .ref b → ∃ ob, s.heap.get? b = some ob ∧ ob.dict = none) ∧ (a == sysModules) = false := by
  rcases d with ⟨kvs, e⟩ | ⟨kvs, e⟩
  · obtain ⟨_, hd, vs, _, dd⟩ := dk_rd I.hok e
    refine ⟨dd.typeIs, fun b q => ?_, hd⟩
    cases q
    obtain ⟨ob, _, _, h1, h2, _⟩ := dd
    exact ⟨ob, h1, h2.2.1⟩
  · obtain ⟨_, hd, xs, _, dd⟩ := dt_rd I.hok e
    refine ⟨dd.typeIs, fun b q => ?_, hd⟩
    cases q
    obtain ⟨ob, _, _, h1, h2, _⟩ := dd
    exact ⟨ob, h1, h2.2.1⟩

section
variable {X : Cx} {pins : List (Addr × Obj)} {σ : St} {H : Hp} {s : Shared} {a : Addr} {y d : V} {u r : Value} {o : Option V} {A : Around} {E : Value → Shared → Prop}
theorem d_get2 {Q : Value → Shared → Prop} (hu : A.units + 1 < cLine) (I : Inv X pins σ H s) (g : DGet H a y o) (ry : RelV y u) (rd : RelV d r) (h : ∀ w' s', Inv X pins σ H s' → RelV (o.getD d) w' → Q w' s') :
    wpAny (model X.prog X.w) A (call (.builtin "dict.get") [.ref a, u, r]) Q E s := by
  rcases g with ⟨kvs, k, e, ey, l⟩ | ⟨kvs, k, b, e, ey, eb, l⟩
  · subst ey
    obtain ⟨z, hd, vs, rel, dd⟩ := dk_rd I.hok e
    refine call_meetsIn PySem.F.slot_dict_get dd.typeIs PySem.F.entry_dict_get (PySem.F.args_dict_get_3 _ _ _) (meets_dict_get_default (mixKind X.prog X.w) a (kV_is ry) hd r) ⟨_, dd.mapOf, h _ _ (I.tok _) ?_⟩
    rw [l]
    exact (rel.val k).getD rd
  · subst ey
    cases (show u = Value.ref b from ry)
    obtain ⟨z, hd, xs, rel, dd⟩ := dt_rd I.hok e
    refine call_meetsIn PySem.F.slot_dict_get dd.typeIs PySem.F.entry_dict_get (PySem.F.args_dict_get_3 _ _ _) (meetsH_dict_get_default (tupleKind (mixKind X.prog X.w)) a b hd r) ⟨tupleKind_room_in1 hu, k, xs, key_of I.hok eb, dd, h _ _ (I.tok _) ?_⟩
    rw [l]
    exact (rel.val k).getD rd
end

noncomputable def tDGet2 (td ty tx : TE) : TE := fun σ H Q => td σ H fun x H1 => ∃ a, x = .ref a ∧ IsD H1 a ∧ ty σ H1 fun y H2 => tx σ H2 fun z H3 => ∃ o, DGet H3 a y o ∧ Q (o.getD z) H3
section
variable {X : Cx} {o e f : Expr} {apos cpos : Pos} {td ty tx : TE}
theorem pe_dget2 (hu : X.A.units + 1 < cLine) (ho : PE X o td) (he : PE X e ty) (hf : PE X f tx) (m : M2 X o "get" apos e f cpos) : PE X (.Call (.Attribute o "get" apos) [e, f] [] cpos) (tDGet2 td ty tx) := by
  intro pins s σ H Q I h
  refine wpAny_Call_method m.base m.few m.line PySem.F.plainAttrs_dict PySem.F.slot_dict_get PySem.F.type_dict_get (thn (ho pins s σ H _ I h) fun u s1 ⟨x, H1, I1, rx, a, ex, d, q1⟩ => ?_)
  subst ex
  obtain rfl : u = Value.ref a := rx
  obtain ⟨t1, t2, _⟩ := isD_at I1 d
  refine ⟨t1, t2, ?_⟩
  rw [m.trees]
  refine Calls.callWith_builtin rfl (Calls.evalArgs_plain (Calls.spliced_cons (thn (he pins s1 σ H1 _ I1 q1) fun iv s2 ⟨y, H2, I2, ry, q2⟩ =>
    Calls.spliced_cons (thn (hf pins s2 σ H2 _ I2 q2) fun fv s3 ⟨z, H3, I3, rz, ov, g, q3⟩ => Calls.spliced_nil ?_))))
  exact d_get2 hu I3 g ry rz fun w' s4 I4 rw' => ⟨_, H3, I4, rw', q3⟩
end

section
variable {X : Cx} {pins : List (Addr × Obj)} {σ : St} {H : Hp} {s : Shared} {a : Addr} {kvs : List (Key × V)} {A : Around} {E : Value → Shared → Prop}
end


section
variable {X : Cx} {pins : List (Addr × Obj)} {σ : St} {H : Hp} {s : Shared} {a : Addr} {y : V} {u : Value} {A : Around} {E : Value → Shared → Prop}
end
end L2
namespace L2
open PySem PySem.Spec PyProof.Rows
section
variable {X : Cx}
theorem call_lenD : CallR X (.builtin "len") (fun xs H Q => ∃ a kvs, xs = [V.ref a] ∧ H a = some (.dK kvs) ∧ Q (.int kvs.length) H) := by
  intro pins s σ H xs us Q I r h
  obtain ⟨a, kvs, rfl, ha, q⟩ := h
  obtain ⟨u, rfl, ru⟩ := vals1 r
  cases ru
  exact d_len I (.inl ha) fun t s' I' => ⟨.int kvs.length, H, I', ⟨t, rfl⟩, q⟩
end
section
variable {κ : Type} [DecidableEq κ]
end
end L2
set_option Elab.async false
set_option linter.all false
set_option maxRecDepth 100000
namespace L2
open PySem PySem.Spec PyProof.Rows

section
variable {X : Cx} {pins : List (Addr × Obj)} {σ : List (Option V)} {H : Hp} {s : Shared} {h' : Heap}
theorem Inv.turnLaid {t' : Nat} {e it T : Addr} {o : HO} (I : Inv X pins σ H s) (k : ∀ b u, b ≠ e → b ≠ it → s.heap.get? b = some u → h'.get? b = some u)
    (fe : FpOk X pins H e) (fi : FpOk X pins H it) (hT : s.heap.objs.size ≤ T) (new : ObjOk X.prog X.w (upd H T o) h' T o) : Inv X pins σ (upd H T o) { s with heap := h', toks := t' } := by
  have hn : H T = none := I.hok.fresh hT
  have nch : ∀ {b : Addr}, b ∉ [e, it] → b ≠ e ∧ b ≠ it := fun {b} hb => ⟨fun z => hb (by simp [z]), fun z => hb (by simp [z])⟩
  have lt : ∀ {b : Addr} {u : Obj}, s.heap.get? b = some u → b ≠ T := fun {b u} q => Nat.ne_of_lt (Nat.lt_of_lt_of_le (Heap.lt_size q) hT)
  have tr : ∀ {b : Addr} {u : HO}, H b = some u → b ≠ e ∧ b ≠ it := fun {b u} q => ⟨fun z => (by rw [z, fe.1] at q; cases q), fun z => (by rw [z, fi.1] at q; cases q)⟩
  refine I.step (g' := s.gens) (d' := s.drawn) (ch := [e, it]) (fun b hb => ?_) (fun b u _ _ hc q _ => k b u (nch hc).1 (nch hc).2 q) (fun b u _ _ hc q _ => ⟨u.slots, k b u (nch hc).1 (nch hc).2 q⟩)
    (fun b u _ q n => by rw [upd_ne (lt q)]; exact n) (fun b u hc q => ⟨u, k b u (nch hc).1 (nch hc).2 q⟩) (fun b xs q => by rw [upd_ne (ne_of_none q hn)]; exact q) (fun b u v q => by rw [upd_ne (ne_of_none q hn)]; exact q)
    (fun b ps q => ⟨#[], by rw [upd_ne (ne_of_none q hn), q]; simp⟩) (fun m hm => ?_) (fun b u q => ?_) I.bare
  · rcases List.mem_cons.mp hb with z | hb
    · subst z; exact ⟨fe.2.2.2.1, fe.2.1, fe.2.2.2.2.1, fe.2.2.2.2.2⟩
    · rcases List.mem_cons.mp hb with z | hb
      · subst z; exact ⟨fi.2.2.2.1, fi.2.1, fi.2.2.2.2.1, fi.2.2.2.2.2⟩
      · cases hb
  · obtain ⟨ob, es, ep, ho, r⟩ := hm
    exact ⟨ob, es, ep, k _ ob (Ne.symm fe.2.1) (Ne.symm fi.2.1) ho, r⟩
  · by_cases hb : b = T
    · subst hb; rw [upd_same] at q; cases q; exact new
    · rw [upd_ne hb] at q
      refine (I.hok b u q).stay (fun c v hc z => ?_) (fun c z => by rw [upd_ne (ne_of_none z hn)]; exact z) fun c xs z => by rw [upd_ne (ne_of_none z hn)]; exact z
      rcases hc with z' | z'
      · rw [z'] at z ⊢; exact k b v (tr q).1 (tr q).2 z
      · exact k c v (tr z').1 (tr z').2 z
theorem Inv.turned2 {t' : Nat} {e it : Addr} (I : Inv X pins σ H s) (k : ∀ b u, b ≠ e → b ≠ it → s.heap.get? b = some u → h'.get? b = some u)
    (fe : FpOk X pins H e) (fi : FpOk X pins H it) : Inv X pins σ H { s with heap := h', toks := t' } := by
  have nch : ∀ {b : Addr}, b ∉ [e, it] → b ≠ e ∧ b ≠ it := fun {b} hb => ⟨fun z => hb (by simp [z]), fun z => hb (by simp [z])⟩
  have tr : ∀ {b : Addr} {u : HO}, H b = some u → b ≠ e ∧ b ≠ it := fun {b u} q => ⟨fun z => (by rw [z, fe.1] at q; cases q), fun z => (by rw [z, fi.1] at q; cases q)⟩
  refine I.step (g' := s.gens) (d' := s.drawn) (ch := [e, it]) (fun b hb => ?_) (fun b u _ _ hc q _ => k b u (nch hc).1 (nch hc).2 q) (fun b u _ _ hc q _ => ⟨u.slots, k b u (nch hc).1 (nch hc).2 q⟩)
    (fun b u _ q n => n) (fun b u hc q => ⟨u, k b u (nch hc).1 (nch hc).2 q⟩) (fun b xs q => q) (fun b u v q => q)
    (fun b ps q => ⟨#[], by rw [q]; simp⟩) (fun m hm => ?_) (fun b u q => ?_) I.bare
  · rcases List.mem_cons.mp hb with z | hb
    · subst z; exact ⟨fe.2.2.2.1, fe.2.1, fe.2.2.2.2.1, fe.2.2.2.2.2⟩
    · rcases List.mem_cons.mp hb with z | hb
      · subst z; exact ⟨fi.2.2.2.1, fi.2.1, fi.2.2.2.2.1, fi.2.2.2.2.2⟩
      · cases hb
  · obtain ⟨ob, es, ep, ho, r⟩ := hm
    exact ⟨ob, es, ep, k _ ob (Ne.symm fe.2.1) (Ne.symm fi.2.1) ho, r⟩
  · refine (I.hok b u q).stay (fun c v hc z => ?_) (fun c z => z) fun c xs z => z
    rcases hc with z' | z'
    · rw [z'] at z ⊢; exact k b v (tr q).1 (tr q).2 z
    · exact k c v (tr z').1 (tr z').2 z
end

noncomputable def Ite (K : PySem.W.Frag) (a : Addr) : It :=
  ⟨fun i H => ∃ xs x, SqL K H a xs ∧ xs[i]? = some x, fun i H v H' => ∃ T, H T = none ∧ v = .ref T ∧ ∀ xs, SqL K H a xs → ∃ x, xs[i]? = some x ∧ H' = upd H T (.tup [.int i, x]), fun i H => ∃ xs, SqL K H a xs ∧ xs.length ≤ i⟩
theorem turn_enum {P : Program} {w : World} {K : PySem.W.Frag} {elts : List Expr} {x1 : Nat} {pos : Pos} (a e it : Addr) (hne : e ≠ it) :
    Turn P w K (.Tuple elts x1 pos) (Ite K a) [e, it] e (fun i h => (∃ old, IsEnum h e it i old) ∧ h.IsListIter it a i) where
  mem := by simp
  obj := fun i h st b hb => by
    obtain ⟨⟨old, he⟩, o, ho, c, d⟩ := st
    rcases List.mem_cons.mp hb with z | hb
    · subst z
      exact ⟨_, he, fun v z => by cases z⟩
    · rcases List.mem_cons.mp hb with z | hb
      · subst z
        exact ⟨o, ho, fun v z => by rw [d] at z; cases z⟩
      · cases hb
  keep := fun i h h' st k => by
    obtain ⟨⟨old, he⟩, hit⟩ := st
    exact ⟨⟨old, k e (by simp) _ he⟩, hit.at fun o q => k it (by simp) o q⟩
  item := by
    intro X hP hw hK hc i pins s σ H E I hf st hg
    subst hP hw hK
    obtain ⟨xs, x, hq, hx⟩ := hg
    obtain ⟨its, rv, p, hz⟩ := I.list hq
    obtain ⟨u, hu, ru⟩ := rv.get hx
    have fe := hf e (by simp)
    have fi := hf it (by simp)
    obtain ⟨⟨old, he⟩, hit⟩ := st
    have hel : e < s.heap.objs.size := Heap.lt_size he
    have hil : it < s.heap.objs.size := by obtain ⟨o, ho, _⟩ := hit; exact Heap.lt_size ho
    refine wpAny_pyNext_enum_item he hit p.isList (x := u) (by simpa using hu) hne fun h1 he1 hit1 hT1 hz1 k1 => ?_
    refine ⟨_, rfl, ?_⟩
    refine wpAny_letOwnedTupleGo_enum (s := { s with heap := h1, toks := s.toks + 1 }) he1 fun h2 he2 sb => ?_
    have k2 : ∀ b ob, b ≠ e → b ≠ it → s.heap.get? b = some ob → h2.get? b = some ob := fun b ob n1 n2 q => (sb.2 b n1).trans (k1 b ob n1 n2 q)
    have hT2 : h2.get? s.heap.objs.size = some { cls := .type "tuple", data := .seq #[.int i s.toks, u] } := (sb.2 _ (Nat.ne_of_gt hel)).trans hT1
    have hfr : H s.heap.objs.size = none := I.hok.fresh (Nat.le_refl _)
    refine ⟨.ref s.heap.objs.size, upd H s.heap.objs.size (.tup [.int i, x]), I.turnLaid (t' := s.toks + 1) k2 fe fi (Nat.le_refl _) ?_, rfl, ⟨_, hfr, rfl, fun ys hy => ⟨x, by rw [I.list_inj hy hq]; exact hx, rfl⟩⟩, ⟨⟨u, ?_⟩, ?_⟩, fun b hb => ?_⟩
    · exact ⟨(by show 2 ≤ sizeLine; decide), [.int i s.toks, u], .cons ⟨_, rfl⟩ (.cons ru .nil), ⟨_, hT2, rfl, _, rfl⟩⟩
    · have e1 : ((i + 1 : Nat) : Int) = (i : Int) + 1 := by push_cast; rfl
      rw [e1]
      exact he2
    · exact hit1.at fun o q => (sb.2 it (Ne.symm hne)).trans q
    · rcases List.mem_cons.mp hb with z | hb
      · subst z; rw [upd_ne (Nat.ne_of_lt hel)]; exact fe.1
      · rcases List.mem_cons.mp hb with z | hb
        · subst z; rw [upd_ne (Nat.ne_of_lt hil)]; exact fi.1
        · cases hb
  done := by
    intro X hP hw hK hc i pins s σ H E I hf st hg
    subst hP hw hK
    obtain ⟨xs, hq, hx⟩ := hg
    obtain ⟨its, rv, p, hz⟩ := I.list hq
    have fe := hf e (by simp)
    have fi := hf it (by simp)
    obtain ⟨⟨old, he⟩, hit⟩ := st
    have hl := rv.length
    refine wpAny_pyNext_enum_end (I.ok.hd hc) he hit p.isList (by simp; (first | lia | omega)) fun h1 k1 => ⟨rfl, ?_⟩
    exact I.turned2 (t' := s.toks) (fun b u n1 n2 q => k1 b u n2 q) fe fi
  self := fun _ _ _ _ _ st h => by
    obtain ⟨⟨old, he⟩, _⟩ := st
    exact wpAny_pyIter_enum he h
section
variable {X : Cx}
noncomputable def iEnum (K : PySem.W.Frag) (ta : TA) : TI := fun σ H R => ta σ H fun vs H1 => ∃ a, vs = [.ref a] ∧ (∃ xs, SqL K H1 a xs) ∧ R (Ite K a) H1
theorem pi_enum {elts : List Expr} {x1 : Nat} {tpos : Pos} {a : Expr} {ta : TA} {p pos : Pos} (hg : Gl X "enumerate") (hm : X.mg "enumerate" = none) (ha : PA X [a] ta) (hs : starEach [a] X.env = [(false, eval a X.env)] := by rfl) :
    PI X (.Tuple elts x1 tpos) (.Call (.Name "enumerate" p) [a] [] pos) (iEnum X.K ta) := by
  intro pins s σ H R I h
  refine Call_ (ld_blt I hg hm boot_enumerate (PyProof.Rows.callWith_type1 (thn (ha pos pins s σ H _ I h) fun us s1 ⟨vs, H1, I1, r1, q1⟩ => ?_) hs rfl))
  obtain ⟨l, e, ⟨xs, hq⟩, q⟩ := q1
  subst e
  obtain ⟨u, rfl, ru⟩ := vals1 r1
  cases ru
  obtain ⟨its, rv, pl, hz⟩ := I1.list hq
  refine call_enumerate_list pl.isList fun h' he hit hsz hk => ?_
  refine wpAny_pyIter_enum (s := { s1 with heap := h' }) he ?_
  have ne : s1.heap.objs.size + 1 ≠ s1.heap.objs.size := Nat.succ_ne_self _
  refine ⟨s1.heap.objs.size + 1, [s1.heap.objs.size + 1, s1.heap.objs.size], _, _, H1, rfl, I1.kept (t' := s1.toks) hk, turn_enum l _ _ ne, ⟨⟨_, he⟩, hit⟩, fun b hb => ?_, q⟩
  rcases List.mem_cons.mp hb with z | hb
  · subst z; exact I1.fpOk (Nat.le_succ _) (I1.hok.fresh (Nat.le_succ _))
  · rcases List.mem_cons.mp hb with z | hb
    · subst z; exact I1.fpOk (Nat.le_refl _) (I1.hok.fresh (Nat.le_refl _))
    · cases hb
end
theorem for_enum {K : PySem.W.Frag} {a : Addr} {xs : List V} {g : TG} {tb : TS} {D : Ends} {σ : St} {H : Hp} (Pv : Nat → St → Hp → Prop) (h0 : Pv 0 σ H) (hl : ∀ i σ H, i ≤ xs.length → Pv i σ H → SqL K H a xs)
    (hs : ∀ i x σ H T, xs[i]? = some x → Pv i σ H → H T = none → g (.ref T) σ (upd H T (.tup [.int i, x])) fun σ2 H2 => tb { D with nx := Pv (i + 1), ct := Pv (i + 1), bk := D.nx } σ2 H2) (hd : ∀ σ H, Pv xs.length σ H → D.nx σ H) :
    ∃ W : Nat → Nat → St → Hp → Prop, (∃ m, W 0 m σ H) ∧ ∀ i m σ H, W i m σ H →
      ((Ite K a).stop i H ∧ D.nx σ H) ∨ ((Ite K a).go i H ∧ ∃ N : St → Hp → Prop, (∀ σ' H', N σ' H' → ∃ m', m' < m ∧ W (i + 1) m' σ' H') ∧ ∀ x H', (Ite K a).yld i H x H' → g x σ H' fun σ2 H2 => tb { D with nx := N, ct := N, bk := D.nx } σ2 H2) := by
  refine ⟨fun i m σ H => m = xs.length - i ∧ i ≤ xs.length ∧ Pv i σ H, ⟨xs.length, by simp, Nat.zero_le _, h0⟩, ?_⟩
  rintro i m σ H ⟨rfl, hi, p⟩
  have q := hl i σ H hi p
  by_cases hlt : i < xs.length
  · refine .inr ⟨⟨xs, xs[i], q, by simp [hlt]⟩, Pv (i + 1), fun σ' H' p' => ⟨xs.length - (i + 1), by (first | lia | omega), rfl, hlt, p'⟩, fun x H' y => ?_⟩
    obtain ⟨T, hT, rfl, y⟩ := y
    obtain ⟨z, hz, rfl⟩ := y xs q
    exact hs i z σ H T hz p hT
  · have e : i = xs.length := by (first | lia | omega)
    subst e
    exact .inl ⟨⟨xs, q, Nat.le_refl _⟩, hd σ H p⟩

noncomputable def CDivL (i j : Int) : Prop := 0 < j ∧ j < 2 ^ 200
theorem log2_of {j : Int} (h0 : 0 < j) (h : j < 2 ^ 200) : j.natAbs.log2 < 9000 := by
  have e : j.natAbs < 2 ^ 200 := by
    have : (j.natAbs : Int) = j := Int.natAbs_of_nonneg (Int.le_of_lt h0)
    have h2 : (j.natAbs : Int) < ((2 ^ 200 : Nat) : Int) := by rw [this]; exact_mod_cast h
    exact_mod_cast h2
  have : j.natAbs.log2 < 200 := (Nat.log2_lt (by (first | lia | omega))).mpr e
  (first | lia | omega)
section
variable {X : Cx}
theorem op_fdivL : OpR X (binaryOp .FloorDiv) (rI CDivL fun i j => .int (i / j)) := opI fun i j _ _ _ _ _ hc q => by
  have h1 : (0 : Int) < j := hc.1
  exact floordiv_int (by (first | lia | omega)) (by rw [Int.fdiv_eq_ediv_of_nonneg i (by (first | lia | omega))]; exact q) (.inl (PyProof.noPylong_of_log2 (log2_of hc.1 hc.2)))

theorem call_isinst {T : String} : CallR X (.builtin "isinstance") (fun xs H Q => ∃ x t b, xs = [x, .ty T] ∧ TyOf X.K H x t ∧ PySem.W.kitOne X.K t (.type T) = some b ∧ Q (.bl b) H) := by
  intro pins s σ H xs us Q I r h
  obtain ⟨x, t, b, rfl, ty, e, q⟩ := h
  obtain ⟨u, w', rfl, ru, rt⟩ := vals2 r
  cases rt
  exact isinst_ok I ru ty e fun tk => ⟨.bl b, H, I.tok tk, rfl, q⟩
end
end L2
set_option Elab.async false
set_option linter.all false
set_option maxRecDepth 100000
namespace L2
open PySem PySem.Spec PyProof.Rows
noncomputable def Keep (p : Addr) (H H' : Hp) : Prop := ∀ b o, b ≠ p → H b = some o → H' b = some o
theorem Keep.trans {p : Addr} {H H1 H2 : Hp} (a : Keep p H H1) (b : Keep p H1 H2) : Keep p H H2 := fun c o n h => b c o n (a c o n h)
theorem Keep.refl (p : Addr) (H : Hp) : Keep p H H := fun _ _ _ h => h
theorem Keep.put {p : Addr} {H H1 : Hp} {o : HO} (a : Keep p H H1) : Keep p H (upd H1 p o) := fun c u n h => by rw [upd_ne n]; exact a c u n h
theorem Keep.laid {p q : Addr} {H H1 : Hp} {o : HO} (a : Keep p H H1) (hq : H1 q = none) : Keep p H (upd H1 q o) := fun c u n h => by
  have h1 := a c u n h
  rw [upd_ne (ne_of_none h1 hq)]; exact h1
theorem Keep.free {p q : Addr} {H H' : Hp} (a : Keep p H H') (n : q ≠ p) (h : H' q = none) : H q = none := by
  cases e : H q with
  | none => rfl
  | some o => rw [a q o n e] at h; cases h
theorem same_new {H : Hp} {p : Addr} (h : H p = none) (o : HO) : Same H (upd H p o) := fun b u q => by rw [upd_ne (ne_of_none q h)]; exact q
structure Cal (P : Program) (w : World) (K : PySem.W.Frag) (mg : Str → Option Value) (base : Heap) (x : Str) (ps : List Str) (k : Nat) (sp : Sp) : Prop where
  ex : ∃ (f : Addr) (fd : FuncData), FnOk P w K mg base CX0 k f fd ps sp ∧ Binds K fd ps [] ∧ PySem.W.keepIn K (.ref f) = true ∧ mg x = some (.ref f)
theorem Cal.of {P : Program} {w : World} {K : PySem.W.Frag} {mg : Str → Option Value} {base : Heap} {x : Str} {ps : List Str} {k : Nat} {sp : Sp} {f : Addr} {fd : FuncData} {q : Str} {st : Stmt} (F : Fun K x q st f fd) (b : Binds K fd ps []) (m : mg x = some (.ref f))
    (o : FnOk P w K mg base CX0 k f fd ps sp) : Cal P w K mg base x ps k sp := ⟨f, fd, o, b, F.kp, m⟩
theorem pe_cal {X : Cx} {x : Str} {ps : List Str} {j k : Nat} {sp : Sp} {p pos : Pos} {e : Expr} {es : List Expr} {t : TA} (C : Cal X.prog X.w X.K X.mg X.base x ps k sp) (hr : Room j X.A) (hg : Gl X x)
    (ha : PA X (e :: es) t) (hj : k ≤ j := by decide) (hdb : (x == ("__debug__" : Str)) = false := by decide) (he : starEach (e :: es) X.env = (false, eval e X.env) :: starEach es X.env := by rfl) (hpl : (backTo pos (starEach es X.env)).any (·.1) = false := by rfl) :
    PE X (.Call (.Name x p) (e :: es) [] pos) (tCall sp [] E0 t) := by
  obtain ⟨f, fd, o, b, kp, m⟩ := C.ex
  exact pe_call o (hr.mono hj) hg m kp b .nil pass0 ha hdb he hpl
noncomputable def spLaw (K : PySem.W.Frag) : Sp := fun vs H Q _ => ∃ (a : Addr) (ns : List Int), vs = [.ref a] ∧ SqL K H a (ns.map V.int) ∧ ns.length ≤ 63 ∧ ∀ H', Q (.bl true) H'
theorem small {n : Nat} (h : n ≤ 1000) : n ≤ sizeLine := Nat.le_of_lt (small1000 h)
theorem cut_ints {ns : List Int} {lo hi : Option Int} {x : V} (h : x ∈ cutV (ns.map V.int) lo hi) : ∃ z, x = .int z := by
  unfold cutV at h
  obtain ⟨z, _, e⟩ := List.mem_map.mp (List.mem_of_mem_drop (List.mem_of_mem_take h))
  exact ⟨z, e.symm⟩
end L2
set_option Elab.async false
set_option linter.all false
set_option maxRecDepth 100000
namespace L2
open PySem PySem.Spec PyProof.Rows
section
variable {X : Cx}
end
theorem kit_int (K : PySem.W.Frag) : PySem.W.kitOne K (.type "int") (.type "int") = some true := by
  unfold PySem.W.kitOne
  rw [if_pos (by decide)]
theorem kit_list (K : PySem.W.Frag) : PySem.W.kitOne K (.type "list") (.type "list") = some true := by
  unfold PySem.W.kitOne
  rw [if_pos (by decide)]
theorem kit_tuple (K : PySem.W.Frag) : PySem.W.kitOne K (.type "tuple") (.type "tuple") = some true := by
  unfold PySem.W.kitOne
  rw [if_pos (by decide)]
theorem kit_int_bool (K : PySem.W.Frag) : PySem.W.kitOne K (.type "int") (.type "bool") = some false := by
  unfold PySem.W.kitOne
  rw [if_neg (by decide)]
  show (if PySem.W.kitMeta "bool" = true then PySem.W.subIn K (.type "int") (.type "bool") else none) = some false
  rw [if_pos (by decide +kernel)]
  show (fastBuiltinMro "int").map (·.contains (.type "bool")) = some false
  decide +kernel
end L2
set_option Elab.async false
set_option linter.all false
set_option maxRecDepth 100000
namespace L2
open PySem PySem.Spec PyProof.Rows

theorem closure_gen (env : Env) : ∀ (ns : List (Str × NameKind)) (acc : List (Str × Addr)), (∀ y ∈ ns, y.2 = .free → ∃ c, env.cells.lookup y.1 = some c) →
    ∃ new : List (Str × Addr), (∀ p ∈ new, env.cells.lookup p.1 = some p.2) ∧ (∀ y ∈ ns, y.2 = .free → ∃ c, (y.1, c) ∈ new) ∧
      (forIn ns acc (fun (x : Str × NameKind) (r : List (Str × Addr)) => match x with
        | (name, kind) => if (kind == NameKind.free) = true then do let c ← cellOf env name; pure (ForInStep.yield ((name, c) :: r)) else pure (ForInStep.yield r)) : Sem (List (Str × Addr))) = pure (new ++ acc)
  | [], acc, _ => ⟨[], fun _ h => (nomatch h), fun _ h => (nomatch h), rfl⟩
  | (n, k) :: rest, acc, h => by
    by_cases hk : k = .free
    · subst hk
      obtain ⟨c, hc⟩ := h (n, .free) List.mem_cons_self rfl
      obtain ⟨new, h1, h2, h3⟩ := closure_gen env rest ((n, c) :: acc) fun y hy => h y (List.mem_cons_of_mem _ hy)
      refine ⟨new ++ [(n, c)], fun p hp => ?_, fun y hy hf => ?_, ?_⟩
      · rcases List.mem_append.mp hp with z | z
        · exact h1 p z
        · obtain rfl := List.mem_singleton.mp z
          exact hc
      · rcases List.mem_cons.mp hy with z | z
        · subst z; exact ⟨c, by simp⟩
        · obtain ⟨c', z'⟩ := h2 y z hf
          exact ⟨c', List.mem_append_left _ z'⟩
      · rw [List.forIn_cons]
        have e1 : cellOf env n = pure c := by unfold cellOf; rw [hc]
        simp only [beq_self_eq_true, if_true, e1]
        rw [List.append_assoc]
        exact h3
    · obtain ⟨new, h1, h2, h3⟩ := closure_gen env rest acc fun y hy => h y (List.mem_cons_of_mem _ hy)
      refine ⟨new, h1, fun y hy hf => ?_, ?_⟩
      · rcases List.mem_cons.mp hy with z | z
        · subst z; exact absurd hf hk
        · exact h2 y z hf
      · rw [List.forIn_cons]
        have e1 : (k == NameKind.free) = false := by simpa using hk
        simp only [e1, Bool.false_eq_true, if_false]
        exact h3
theorem lookup_mem {l : List (Str × Addr)} {x : Str} {c : Addr} (h : (x, c) ∈ l) : ∃ c', l.lookup x = some c' := by
  induction l with
  | nil => cases h
  | cons p r ih =>
    obtain ⟨y, d⟩ := p
    rw [List.lookup_cons]
    cases e : x == y with
    | true => exact ⟨d, rfl⟩
    | false =>
      rcases List.mem_cons.mp h with z | z
      · have : x = y := congrArg Prod.fst z
        rw [this] at e; simp at e
      · exact ih z
theorem closure_for {scope : Scope} {env : Env} (h : ∀ y ∈ scope.names, y.2 = .free → ∃ c, env.cells.lookup y.1 = some c) :
    ∃ cl, closureFor scope env = pure cl ∧ (∀ x c, cl.lookup x = some c → env.cells.lookup x = some c) ∧ (∀ y ∈ scope.names, y.2 = .free → ∃ c, cl.lookup y.1 = some c) := by
  obtain ⟨new, h1, h2, h3⟩ := closure_gen env scope.names [] h
  refine ⟨new, ?_, fun x c e => h1 _ (PySem.mem_of_lookup e), fun y hy hf => ?_⟩
  · rw [List.append_nil] at h3
    have e : closureFor scope env = ((forIn scope.names ([] : List (Str × Addr)) (fun (x : Str × NameKind) (r : List (Str × Addr)) => match x with
        | (name, kind) => if (kind == NameKind.free) = true then do let c ← cellOf env name; pure (ForInStep.yield ((name, c) :: r)) else pure (ForInStep.yield r)) : Sem (List (Str × Addr))) >>= fun r => pure r) := rfl
    rw [e, h3]
    rfl
  · obtain ⟨c, hc⟩ := h2 y hy hf
    exact lookup_mem hc

section
variable {prog : Program} {w : World} {A : Around} {R : Result → Shared → Prop} {s : Shared}
theorem compLoop_gen {elt target iter : Expr} {ifs : List Expr} {scope : Scope} {pos : Pos} {it acc : Value} {env : Env} (I : Nat → Shared → Prop)
    (turn : ∀ n s, I n s → wpAny (model prog w) A (pyNext it) (fun r s₁ => match r with
      | none => R (.ok .next) s₁
      | some v => wpAny (model prog w) A (letOwnedTupleGo target it v) (fun _ s₁' => wpAny (model prog w) A (assign target env v) (fun _ s₂ =>
          wpAny (model prog w) A (forIn ifs true fun c r => if r = true then do let ok ← isTrue c env (eval c env); pure (ForInStep.yield ok) else pure (ForInStep.yield r)) (fun ok s₃ =>
            if ok = true then wpAny (model prog w) A (eval elt env) (fun x s₄ =>
              wpAny (model prog w) A (call (.builtin "list.append") [acc, x]) (fun _ s₅ => ∃ m, m < n ∧ I m s₅) (notedBy (model prog w) A env fun e s' => R (.error e) s') s₄) (notedBy (model prog w) A env fun e s' => R (.error e) s') s₃
            else ∃ m, m < n ∧ I m s₃) (notedBy (model prog w) A env fun e s' => R (.error e) s') s₂) (notedBy (model prog w) A env fun e s' => R (.error e) s') s₁') (notedBy (model prog w) A env fun e s' => R (.error e) s') s₁) (notedBy (model prog w) A env fun e s' => R (.error e) s') s)
    (n : Nat) (h : I n s) :
    codeAny (model prog w) A (.compLoop (.ListComp elt [⟨target, iter, ifs, 0⟩] scope pos) 0 it acc env) R s := by
  refine codeAny_loop rfl I (fun n s hI => ?_) n h
  show wpAny _ A ((compTurn (.ListComp elt [⟨target, iter, ifs, 0⟩] scope pos) 0 it acc env).onRaise (fun x => do noteFrame x env; theTreesLotGoes x)) _ _ s
  refine wpAny_noted ?_
  rw [compTurn_list]
  refine wpAny_bind (wpAny_standAt (wpAny_bind (wpAny_mono (turn n s hI) (fun r s₁ h₁ => ?_) fun _ _ h' => h')))
  cases r with
  | none => exact wpAny_pure h₁
  | some v =>
    refine wpAny_bind (wpAny_mono h₁ (fun _ s₁' h₁' => ?_) fun _ _ h' => h')
    refine wpAny_bind (wpAny_mono h₁' (fun _ s₂ h₂ => wpAny_bind (wpAny_mono h₂ (fun ok s₃ h₃ => ?_) fun _ _ h' => h')) fun _ _ h' => h')
    cases ok with
    | false => exact wpAny_pure ⟨rfl, h₃⟩
    | true =>
      exact wpAny_bind (wpAny_bind (wpAny_mono h₃ (fun x s₄ h₄ => wpAny_bind (wpAny_mono h₄ (fun _ s₅ h₅ => wpAny_pure (wpAny_pure ⟨rfl, h₅⟩)) fun _ _ h' => h')) fun _ _ h' => h'))
end

noncomputable def cxComp (X : Cx) (N : List Str) (scope : Scope) (cl : List (Str × Addr)) (C : Addr) (s : Shared) (H : Hp) (ex : List Addr) (pins : List (Addr × Obj)) : Cx :=
  { X with N := N, s₀ := s, H₀ := H, env := compEnvC scope cl C X.env, outer := X.stack, stack := X.stack, ex := ex, fn := fun _ => false, pn := X.pn ++ pins, xe := fun _ _ => False }
noncomputable def capt (js : List (Option Nat)) (σ : St) : St := js.map fun o => o.bind fun j => (σ[j]?).join
structure CapOk (X : Cx) (N : List Str) (scope : Scope) (js : List (Option Nat)) : Prop where
  len : js.length = N.length
  at_ : ∀ (i j : Nat) (x : Str), js[i]? = some (some j) → N[i]? = some x → X.N[j]? = some x ∧ scope.names.lookup x = some .free ∧ (X.env.scope.names.lookup x = some .cell ∨ X.env.scope.names.lookup x = some .free)
  fr : ∀ y ∈ scope.names, y.2 = .free → X.env.kindOf y.1 = some .cell ∨ X.env.kindOf y.1 = some .free
theorem relabel_free {env : Env} : ∀ {names : List (Str × NameKind)} {x : Str}, names.lookup x = some .free →
    let r := (names.map fun (n, k) => if (k == NameKind.free && env.scope.kind == .function && env.kindOf n == some .cell) then (n, NameKind.cell) else (n, k)).lookup x
    r = some .cell ∨ r = some .free
  | [], _, h => by simp at h
  | (n, k) :: r, x, h => by
    have ih := @relabel_free env r x
    show (List.lookup x ((if (k == NameKind.free && env.scope.kind == .function && env.kindOf n == some .cell) = true then (n, NameKind.cell) else (n, k)) :: _) = _) ∨ (List.lookup x ((if (k == NameKind.free && env.scope.kind == .function && env.kindOf n == some .cell) = true then (n, NameKind.cell) else (n, k)) :: _) = _)
    cases hx : x == n with
    | true =>
      simp only [List.lookup_cons, hx] at h
      cases h
      by_cases hc : (NameKind.free == NameKind.free && env.scope.kind == .function && env.kindOf n == some .cell) = true
      · rw [if_pos hc]; simp only [List.lookup_cons, hx]; exact .inl trivial
      · rw [if_neg hc]; simp only [List.lookup_cons, hx]; exact .inr trivial
    | false =>
      simp only [List.lookup_cons, hx] at h
      by_cases hc : (k == NameKind.free && env.scope.kind == .function && env.kindOf n == some .cell) = true
      · rw [if_pos hc]; simp only [List.lookup_cons, hx]; exact ih h
      · rw [if_neg hc]; simp only [List.lookup_cons, hx]; exact ih h
theorem relabel_back {env : Env} : ∀ {names : List (Str × NameKind)} {x : Str},
    ((names.map fun (n, k) => if (k == NameKind.free && env.scope.kind == .function && env.kindOf n == some .cell) then (n, NameKind.cell) else (n, k)).lookup x = some .cell ∨
     (names.map fun (n, k) => if (k == NameKind.free && env.scope.kind == .function && env.kindOf n == some .cell) then (n, NameKind.cell) else (n, k)).lookup x = some .free) →
    (x, NameKind.free) ∈ names ∨ (x, NameKind.cell) ∈ names
  | [], _, h => by simp at h
  | (n, k) :: r, x, h => by
    have ih := @relabel_back env r x
    rw [List.map_cons] at h
    by_cases hc : (k == NameKind.free && env.scope.kind == .function && env.kindOf n == some .cell) = true
    · have e : (match ((n, k) : Str × NameKind) with | (n, k) => if (k == NameKind.free && env.scope.kind == .function && env.kindOf n == some .cell) = true then (n, NameKind.cell) else (n, k)) = (n, NameKind.cell) := if_pos hc
      rw [e] at h
      simp only [List.lookup_cons] at h
      cases hx : x == n with
      | true =>
        have : x = n := by simpa using hx
        have hk : k = .free := by
          rw [Bool.and_eq_true, Bool.and_eq_true] at hc
          simpa using hc.1.1
        rw [this, hk]
        exact .inl List.mem_cons_self
      | false =>
        rw [hx] at h
        exact (ih h).imp (List.mem_cons_of_mem _) (List.mem_cons_of_mem _)
    · have e : (match ((n, k) : Str × NameKind) with | (n, k) => if (k == NameKind.free && env.scope.kind == .function && env.kindOf n == some .cell) = true then (n, NameKind.cell) else (n, k)) = (n, k) := if_neg hc
      rw [e] at h
      simp only [List.lookup_cons] at h
      cases hx : x == n with
      | true =>
        have : x = n := by simpa using hx
        rw [hx] at h
        rw [this]
        rcases h with h | h
        · cases h; exact .inr List.mem_cons_self
        · cases h; exact .inl List.mem_cons_self
      | false =>
        rw [hx] at h
        exact (ih h).imp (List.mem_cons_of_mem _) (List.mem_cons_of_mem _)

section
variable {X : Cx} {pins : List (Addr × Obj)} {σ : St} {H : Hp} {s : Shared} {N : List Str} {scope : Scope} {cl : List (Str × Addr)} {js : List (Option Nat)} {fp : List Addr}
theorem Inv.block {C : Addr} {h' : Heap} {m : Str → Option Value} {t' : Nat} (I : Inv X pins σ H s) (hf : ∀ b ∈ fp, FpOk X pins H b ∧ b < s.heap.objs.size) (hC : s.heap.objs.size ≤ C) (hk : ∀ b o, s.heap.get? b = some o → h'.get? b = some o) (hn : h'.Ns C m)
    (hkind : scope.kind = .function) (hcell : ∀ y ∈ scope.names, y.2 ≠ .cell) (hc1 : ∀ x c, cl.lookup x = some c → X.env.cells.lookup x = some c) (hc2 : ∀ y ∈ scope.names, y.2 = .free → ∃ c, cl.lookup y.1 = some c) (cap : CapOk X N scope js) :
    Inv (cxComp X N scope cl C s H fp pins) [] (capt js σ) H { s with heap := h', toks := t' } := by
  have cellLt : ∀ x c, X.env.cells.lookup x = some c → c < s.heap.objs.size := fun x c e => by
    obtain ⟨v, q⟩ := I.cell x c e
    exact q.lt
  have pinB : ∀ p ∈ X.pn ++ pins, p.1 ∉ frs X.stack := fun p hp z => by
    obtain ⟨_, _, h3, h4, _⟩ := I.pin p hp
    rcases List.mem_cons.mp (I.stkSub _ z) with q | q
    · exact h3 q
    · exact h4 q
  have okY : (cxComp X N scope cl C s H fp pins).Ok := by
    refine ⟨I.ok.mod, hkind, I.ok.glob, I.ok.blt, hC, fun x y c h1 h2 => I.ok.inj x y c (hc1 x c h1) (hc1 y c h2), fun x hx => ?_, fun x c h _ => ?_, I.ok.hd, I.ok.frames, .inl rfl, fun b hb => ⟨?_, fun x c e => ?_⟩, I.bs, Nat.le_trans I.ok.bsz I.sz,
      fun b o e hb => ?_, fun b hb z => ?_, I.stack, I.stkFree⟩
    · rcases relabel_back (env := X.env) hx with q | q
      · exact hc2 _ q rfl
      · exact absurd rfl (hcell _ q)
    · exact absurd (show false = true from h) Bool.false_ne_true
    · exact Nat.ne_of_lt (Nat.lt_of_lt_of_le (hf b hb).2 hC)
    · exact (hf b hb).1.2.2.2.2.1 x c (hc1 x c e)
    · obtain ⟨_, _, _, h4, _⟩ := (hf b hb).1
      rcases h4 with z | z
      · exact I.ok.noex b o e z
      · exact absurd (Nat.lt_of_lt_of_le (Heap.lt_size e) (Nat.le_trans I.ok.bsz z)) (Nat.lt_irrefl _)
    · obtain ⟨_, h2, h3, _⟩ := (hf b hb).1
      rcases List.mem_cons.mp (I.stkSub _ z) with q | q
      · exact h2 q
      · exact h3 q
  refine ⟨okY, rfl, I.bare, Un.kept hk, ⟨m, hn, fun i x v e1 e2 e3 => ?_⟩, fun x c e => ?_, I.hok.fresh hC, fun x c e => I.freeC x c (hc1 x c e), fun p hp => ?_, I.hok.kept hk, ?_⟩
  · have e2' : (js.map fun o => o.bind fun j => (σ[j]?).join)[i]? = some (some v) := e2
    rw [List.getElem?_map] at e2'
    cases ej : js[i]? with
    | none => rw [ej] at e2'; cases e2'
    | some oj =>
      rw [ej] at e2'
      cases oj with
      | none => cases e2'
      | some j =>
        have e2'' : (σ[j]?).join = some v := Option.some.inj e2'
        have hσ : σ[j]? = some (some v) := by
          cases q : σ[j]? with
          | none => rw [q] at e2''; cases e2''
          | some o => rw [q] at e2''; rw [show o = some v from e2'']
        obtain ⟨hN, hfree, hX⟩ := cap.at_ i j x ej e1
        obtain ⟨mX, _, hl⟩ := I.loc
        obtain ⟨u, ru, lk⟩ := hl j x v hN hσ (hX.elim (fun z => .inr (.inl z)) fun z => .inr (.inr z))
        refine ⟨u, ru, .inr ⟨relabel_free (env := X.env) hfree, ?_⟩⟩
        rcases lk with ⟨hk1, _⟩ | ⟨_, c, hc, hcell'⟩
        · have hk1' : X.env.scope.names.lookup x = some .local := hk1
          rcases hX with z | z <;> rw [z] at hk1' <;> cases hk1'
        · obtain ⟨c', hc'⟩ := hc2 _ (PySem.mem_of_lookup hfree) rfl
          have : c' = c := Option.some.inj ((hc1 x c' hc').symm.trans hc)
          subst this
          obtain ⟨o, ho, hd⟩ := hcell'
          exact ⟨c', hc', o, hk _ _ ho, hd⟩
  · obtain ⟨v, o, ho, hd⟩ := I.cell x c (hc1 x c e)
    exact ⟨v, o, hk _ _ ho, hd⟩
  · have hp' : p ∈ X.pn ++ pins := by
      have : p ∈ (X.pn ++ pins) ++ [] := hp
      rwa [List.append_nil] at this
    obtain ⟨h1, h2, h3, h4, h5⟩ := I.pin p hp'
    exact ⟨hk _ _ h1, h2, Nat.ne_of_lt (Nat.lt_of_lt_of_le (Heap.lt_size h1) hC), pinB p hp', h5⟩
  · show (js.map _).length = N.length
    rw [List.length_map]; exact cap.len
theorem Inv.track {D : Addr} {o : HO} (I : Inv X pins σ H s) (h0 : X.s₀.heap.objs.size ≤ D) (hn : H D = none) (hL : D ≠ X.env.locals) (hc : ∀ x c, X.env.cells.lookup x = some c → c ≠ D) (hp : ∀ p ∈ X.pn ++ pins, p.1 ≠ D)
    (new : ObjOk X.prog X.w (upd H D o) s.heap D o) : Inv X pins σ (upd H D o) s := by
  have old : ∀ b ob, X.s₀.heap.get? b = some ob → b ≠ D := fun b ob e => Nat.ne_of_lt (Nat.lt_of_lt_of_le (Heap.lt_size e) h0)
  refine ⟨I.ok, I.os, I.bare, ⟨I.base.keep, I.base.slot, fun b ob e n hx => ?_, I.base.there, fun b xs e => ?_, fun b ob u e => ?_, fun b ps e => ?_⟩, I.loc, I.cell, ?_, fun x c e => ?_, fun p hp' => ?_, fun b u e => ?_, I.len⟩
  · rw [upd_ne (old b ob e)]; exact I.base.free b ob e n hx
  · have q := I.base.tups b xs e
    rw [upd_ne (ne_of_none q hn)]; exact q
  · have q := I.base.frzs b ob u e
    rw [upd_ne (ne_of_none q hn)]; exact q
  · obtain ⟨more, q⟩ := I.base.tbls b ps e
    exact ⟨more, by rw [upd_ne (ne_of_none q hn)]; exact q⟩
  · rw [upd_ne (Ne.symm hL)]; exact I.free
  · rw [upd_ne (hc x c e)]; exact I.freeC x c e
  · obtain ⟨h1, h2, h3⟩ := I.pin p hp'
    exact ⟨h1, by rw [upd_ne (hp p hp')]; exact h2, h3⟩
  · by_cases hb : b = D
    · subst hb; rw [upd_same] at e; cases e; exact new
    · rw [upd_ne hb] at e
      exact (I.hok b u e).stay (fun c v _ q => q) (fun c z => by rw [upd_ne (ne_of_none z hn)]; exact z) fun c xs z => by rw [upd_ne (ne_of_none z hn)]; exact z
theorem Inv.unblock {C D : Addr} {s' : Shared} {σ' : St} {H' : Hp} {ys : List V} {its : List Value} {n : Nat} (I : Inv X pins σ H s) (hf : ∀ b ∈ fp, FpOk X pins H b ∧ b < s.heap.objs.size) (hC : s.heap.objs.size ≤ C) (hD : s.heap.objs.size ≤ D) (hDC : D ≠ C)
    (J : Inv (cxComp X N scope cl C s H fp pins) [(D, { cls := .type "list", data := .seq its.toArray n })] σ' H' s') (hv : Vals ys its) (hz : ys.length ≤ sizeLine) :
    Inv X pins σ (upd H' D (.lst ys)) s' ∧ FpOk X pins (upd H' D (.lst ys)) C ∧ H' D = none ∧ ∃ m, s'.heap.Ns C m := by
  have hfr : H' C = none := J.free
  have hDn : H' D = none := (J.pin (D, _) (List.mem_append_right _ (List.mem_singleton.mpr rfl))).2.1
  have hDo : s'.heap.get? D = some { cls := .type "list", data := .seq its.toArray n } := (J.pin (D, _) (List.mem_append_right _ (List.mem_singleton.mpr rfl))).1
  have u : Un (frs X.stack) fp H H' s.heap s'.heap := J.base
  obtain ⟨hh, g, d, t, os'⟩ := s'
  have eos : os' = s.os := J.os
  subst eos
  have I1 : Inv X pins σ H' { s with heap := hh, gens := g, drawn := d, toks := t } :=
    I.call (h' := hh) (g' := g) (d' := d) (t' := t) (ch := fp) u J.hok J.bare fun b hb => ⟨(hf b hb).1.2.2.2.1, (hf b hb).1.2.1, (hf b hb).1.2.2.2.2.1, (hf b hb).1.2.2.2.2.2⟩
  have Dl : D ≠ X.env.locals := Nat.ne_of_gt (Nat.lt_of_lt_of_le I.lt hD)
  have young : ∀ a, s.heap.objs.size ≤ a → (∀ x c, X.env.cells.lookup x = some c → c ≠ a) ∧ ∀ p ∈ X.pn ++ pins, p.1 ≠ a := fun a ha => ⟨fun x c e z => by
      obtain ⟨v, q⟩ := I.cell x c e
      exact absurd (Nat.lt_of_lt_of_le q.lt (by rw [z]; exact ha)) (Nat.lt_irrefl _), fun p hp z => absurd (Nat.lt_of_lt_of_le (Heap.lt_size (I.pin p hp).1) (by rw [z]; exact ha)) (Nat.lt_irrefl _)⟩
  refine ⟨I1.track (Nat.le_trans I.sz hD) hDn Dl (young D hD).1 (young D hD).2 ⟨hz, its, n, hv, hDo⟩, ⟨by rw [upd_ne (Ne.symm hDC)]; exact hfr, Nat.ne_of_gt (Nat.lt_of_lt_of_le I.lt hC), I.nofs hC, .inr (Nat.le_trans I.sz hC), (young C hC).1, (young C hC).2⟩, hDn, ?_⟩
  obtain ⟨m, hn, _⟩ := J.loc
  exact ⟨m, hn⟩
end
end L2
set_option Elab.async false
set_option linter.all false
set_option maxRecDepth 100000
namespace L2
open PySem PySem.Spec PyProof.Rows
noncomputable def PIfs (Y : Cx) (ifs : List Expr) (tt : TT) : Prop :=
  ∀ (pins : List (Addr × Obj)) (s : Shared) (σ : St) (H : Hp) (Q : Bool → Hp → Prop), Inv Y pins σ H s → tt σ H Q →
    wpAny (model Y.prog Y.w) Y.A (forIn ifs true fun c r => if r = true then do let ok ← isTrue c Y.env (eval c Y.env); pure (ForInStep.yield ok) else pure (ForInStep.yield r)) (TP Y pins σ Q) Y.xe s
noncomputable def tTrue : TT := fun _ H Q => Q true H
theorem pifs_nil {Y : Cx} : PIfs Y [] tTrue := fun _ _ _ H _ I h => wpAny_pure ⟨H, I, h⟩
theorem pifs_one {Y : Cx} {c : Expr} {tt : TT} (h : PT Y c tt) : PIfs Y [c] tt := by
  intro pins s σ H Q I hw
  simp only [List.forIn_cons, List.forIn_nil, if_true]
  exact wpAny_bind (wpAny_bind (wpAny_mono (h pins s σ H Q I hw) (fun b s' hb => wpAny_pure (wpAny_pure hb)) fun _ _ x => x))
noncomputable def LoopC (J : It) (g : TG) (tt : TT) (te : TE) (W : Nat → Nat → St → List V → Hp → Prop) (Q : V → Hp → Prop) : Prop :=
  ∀ i m σ' ys H', W i m σ' ys H' → (J.stop i H' ∧ ∀ D, H' D = none → Q (.ref D) (upd H' D (.lst ys))) ∨
    (J.go i H' ∧ ∃ N : St → List V → Hp → Prop, (∀ σ2 zs H2, N σ2 zs H2 → zs.length ≤ sizeLine ∧ ∃ m', m' < m ∧ W (i + 1) m' σ2 zs H2) ∧
      ∀ x H2, J.yld i H' x H2 → g x σ' H2 fun σ2 H3 => tt σ2 H3 fun ok H4 => if ok = true then te σ2 H4 fun y H5 => N σ2 (ys ++ [y]) H5 else N σ2 ys H4)
section
variable {X : Cx} {pins : List (Addr × Obj)} {σ : St} {H : Hp} {s : Shared} {N : List Str} {scope : Scope} {cl : List (Str × Addr)} {js : List (Option Nat)} {fp : List Addr} {tg elt iter : Expr} {ifs : List Expr} {pos : Pos} {J : It} {it : Addr} {tn : Nat → Heap → Prop} {g : TG} {tt : TT} {te : TE}
theorem comp_core {W : Nat → Nat → St → List V → Hp → Prop} {Q : V → Hp → Prop} {m0 : Nat} {RR : Value → Addr → Result → Shared → Prop} {E : Value → Shared → Prop} (hc : X.calm = true)
    (hg : ∀ cl C s H ex pins, PG (cxComp X N scope cl C s H ex pins) tg g) (ht : ∀ cl C s H ex pins, PIfs (cxComp X N scope cl C s H ex pins) ifs tt) (he : ∀ cl C s H ex pins, PE (cxComp X N scope cl C s H ex pins) elt te)
    (hkind : scope.kind = .function) (hcell : ∀ y ∈ scope.names, y.2 ≠ .cell) (hc1 : ∀ x c, cl.lookup x = some c → X.env.cells.lookup x = some c) (hc2 : ∀ y ∈ scope.names, y.2 = .free → ∃ c, cl.lookup y.1 = some c) (cap : CapOk X N scope js)
    (I : Inv X pins σ H s) (T : Turn X.prog X.w X.K tg J fp it tn) (st : tn 0 s.heap) (f : ∀ b ∈ fp, FpOk X pins H b) (w0 : W 0 m0 (capt js σ) [] H) (turn : LoopC J g tt te W Q)
    (hRR : ∀ (D C : Addr) (s' : Shared) (ys : List V) (H' : Hp), Inv X pins σ (upd H' D (.lst ys)) s' → FpOk X pins (upd H' D (.lst ys)) C → (∃ m, s'.heap.Ns C m) → Q (.ref D) (upd H' D (.lst ys)) → RR (.ref D) C (.ok .next) s') :
    wpAny (model X.prog X.w) X.A (newList []) (fun acc s₃ => wpAny (model X.prog X.w) X.A (newFunctionEnv scope X.env.globals cl [] X.env.qual none .none (some X.env)) (fun cenv s₄ =>
      codeAny (model X.prog X.w) X.A (.compStart (.ListComp elt [⟨tg, iter, ifs, 0⟩] scope pos) 0 (.ref it) acc { cenv with scope := relabel scope X.env }) (RR acc cenv.locals) s₄) E s₃) E s := by
  have flt : ∀ b ∈ fp, b < s.heap.objs.size := fun b hb => by
    obtain ⟨o, ho, _⟩ := T.obj 0 _ st b hb
    exact Heap.lt_size ho
  have ff : ∀ b ∈ fp, FpOk X pins H b ∧ b < s.heap.objs.size := fun b hb => ⟨f b hb, flt b hb⟩
  refine wpAny_newObj_type (wpAny_newFunctionEnv hcell (by intro y hy; simp at hy) (fun h₁ hns₁ hsb₁ => ?_) hkind)
  dsimp only at hns₁ hsb₁ ⊢
  generalize hH2 : s.heap.push { cls := .type "list", dict := none, data := .seq ([] : List Value).toArray } = H2 at hns₁ hsb₁ ⊢
  have hC : H2.objs.size = s.heap.objs.size + 1 := by rw [← hH2, Heap.size_push]
  have hDC : s.heap.objs.size ≠ H2.objs.size := by rw [hC]; exact Nat.ne_of_lt (Nat.lt_succ_self _)
  have hCle : s.heap.objs.size ≤ H2.objs.size := by rw [hC]; exact Nat.le_succ _
  have below : ∀ b, b < s.heap.objs.size → b ≠ H2.objs.size ∧ b ≠ s.heap.objs.size := fun b hb => ⟨by rw [hC]; exact Nat.ne_of_lt (Nat.lt_succ_of_lt hb), Nat.ne_of_lt hb⟩
  have old : ∀ b o, s.heap.get? b = some o → h₁.get? b = some o := fun b o e => hsb₁.extBut b o (below b (Heap.lt_size e)).1 (Heap.get?_push_of_some _ (hH2 ▸ Heap.get?_push_of_some _ e))
  have hacc : h₁.get? s.heap.objs.size = some { cls := .type "list", dict := none, data := .seq ([] : List Value).toArray } := hsb₁.extBut _ _ hDC (Heap.get?_push_of_some _ (hH2 ▸ Heap.get?_push_size _ rfl))
  generalize H2.objs.size = C at *
  generalize hDd : s.heap.objs.size = D at *
  have hDle : s.heap.objs.size ≤ D := Nat.le_of_eq hDd
  have hCle' : s.heap.objs.size ≤ C := by rw [hDd]; exact hCle
  -- the block's own invariant
  have J0 : Inv (cxComp X N scope cl C s H fp pins) [] (capt js σ) H { s with heap := h₁, toks := s.toks + ([] : List (Str × Value)).length } :=
    I.block (fun b hb => ⟨f b hb, by rw [hDd]; exact flt b hb⟩) hCle' old hns₁ hkind hcell hc1 hc2 cap
  have stk : ∀ b, b ∉ X.fs → b ≠ X.env.locals → b ∉ frs X.stack := fun b h1 h2 z => by
    rcases List.mem_cons.mp (I.stkSub _ z) with q | q
    · exact h2 q
    · exact h1 q
  have Dstk : D ∉ frs X.stack := stk D (I.nofs hDle) (Nat.ne_of_gt (Nat.lt_of_lt_of_le I.lt hDle))
  have Dcell : ∀ x c, cl.lookup x = some c → c ≠ D := fun x c e z => by
    obtain ⟨v, q⟩ := I.cell x c (hc1 x c e)
    exact absurd (Nat.lt_of_lt_of_le q.lt (by rw [z]; exact hDle)) (Nat.lt_irrefl _)
  have Dpn : ∀ p ∈ X.pn ++ pins, p.1 ≠ D := fun p hp z => absurd (Nat.lt_of_lt_of_le (Heap.lt_size (I.pin p hp).1) (by rw [z]; exact hDle)) (Nat.lt_irrefl _)
  -- the list under way is pinned
  have pinD : ∀ {ps : List (Addr × Obj)} {σ' : St} {H' : Hp} {s' : Shared} {its : List Value} {n : Nat}, Inv (cxComp X N scope cl C s H fp pins) ps σ' H' s' → H' D = none → s'.heap.get? D = some { cls := .type "list", data := .seq its.toArray n } →
      Inv (cxComp X N scope cl C s H fp pins) [(D, { cls := .type "list", data := .seq its.toArray n })] σ' H' s' := fun {ps σ' H' s' its n} Jx hn ho => Jx.pins_of fun p hp => by
    obtain rfl := List.mem_singleton.mp hp
    exact ⟨ho, hn, hDC, Dstk, fun v z => by cases z⟩
  have stat : ∀ {H' : Hp} {ob : Obj}, (∀ b ∈ fp, H' b = none) → ∀ b ∈ fp, FpOk (cxComp X N scope cl C s H fp pins) [(D, ob)] H' b := fun {H' ob} hn b hb => by
    obtain ⟨_, f1, f2, f3, f4, f5⟩ := f b hb
    refine ⟨hn b hb, (below b (flt b hb)).1, stk b f2 f1, .inl hb, fun x c e => f4 x c (hc1 x c e), fun p hp => ?_⟩
    rcases List.mem_append.mp hp with z | z
    · exact f5 p z
    · obtain rfl := List.mem_singleton.mp z
      exact Ne.symm (below b (flt b hb)).2
  have loop : ∀ s₃ : Shared, s₃ = { s with heap := h₁, toks := s.toks + ([] : List (Str × Value)).length } →
      codeAny (model X.prog X.w) X.A (.compLoop (.ListComp elt [⟨tg, iter, ifs, 0⟩] scope pos) 0 (.ref it) (.ref D) (compEnvC scope cl C X.env)) (RR (.ref D) C) s₃ := by
    rintro s₃ rfl
    refine compLoop_gen (fun k s' => ∃ (i : Nat) (σ' : St) (ys : List V) (H' : Hp) (its : List Value) (n : Nat), Inv (cxComp X N scope cl C s H fp pins) [(D, { cls := .type "list", data := .seq its.toArray n })] σ' H' s' ∧ Vals ys its ∧ ys.length ≤ sizeLine ∧ tn i s'.heap ∧ (∀ b ∈ fp, H' b = none) ∧ W i k σ' ys H') ?_ m0
      ⟨0, capt js σ, [], H, [], 0, pinD J0 (I.hok.fresh hDle) hacc, .nil, Nat.zero_le _, T.keep _ _ _ st fun b _ o e => old b o e, fun b hb => (f b hb).1, w0⟩
    rintro k s' ⟨i, σ', ys, H', its, n, J', hv, hz, st', fr', w'⟩
    rcases turn i k σ' ys H' w' with ⟨stop, q⟩ | ⟨go, NN, hN, step⟩
    · refine wpAny_mono (T.done (cxComp X N scope cl C s H fp pins) rfl rfl rfl hc i _ s' σ' H' (fun _ _ => False) J' (stat fr') st' stop) (fun r s4 ⟨hr, J4⟩ => ?_) fun _ _ z => z.elim
      subst hr
      obtain ⟨K1, K2, K3, K4⟩ := I.unblock (fun b hb => ⟨f b hb, by rw [hDd]; exact flt b hb⟩) hCle' hDle hDC J4 hv hz
      exact hRR D C s4 ys H' K1 K2 K4 (q D K3)
    · refine wpAny_mono (T.item (cxComp X N scope cl C s H fp pins) rfl rfl rfl hc i _ s' σ' H' (fun _ _ => False) J' (stat fr') st' go) (fun r s4 ⟨u, hr, h4⟩ => ?_) fun _ _ z => z.elim
      subst hr
      refine wpAny_mono h4 (fun _ s5 ⟨x, H5, J5, r5, y5, st5, fr5⟩ => ?_) fun _ _ z => z.elim
      have J5' := J5.pinned (stat fr5) (T.obj _ _ st5)
      have keepT : ∀ {σ7 : St} {H7 : Hp} {s7 : Shared}, Inv (cxComp X N scope cl C s H fp pins) ([(D, { cls := .type "list", data := .seq its.toArray n })] ++ pinsAt fp s5.heap) σ7 H7 s7 → tn (i + 1) s7.heap ∧ ∀ b ∈ fp, H7 b = none := fun {σ7 H7 s7} J7 =>
        ⟨T.keep _ _ _ st5 fun b hb o e => (J7.pin (b, o) (List.mem_append_right _ (List.mem_append_right _ (mem_pinsAt hb e)))).1, fun b hb => by
          obtain ⟨o, e, d⟩ := T.obj _ _ st5 b hb
          exact (J7.pin (b, o) (List.mem_append_right _ (List.mem_append_right _ (mem_pinsAt hb e)))).2.1⟩
      refine wpAny_mono (hg cl C s H fp pins _ s5 σ' H5 x u _ J5' r5 (step x H5 y5)) (fun _ s6 ⟨σ6, H6, J6, q6⟩ => ?_) fun _ _ z => (show False from z).elim
      refine wpAny_mono (ht cl C s H fp pins _ s6 σ6 H6 _ J6 q6) (fun ok s7 ⟨H7, J7, q7⟩ => ?_) fun _ _ z => (show False from z).elim
      cases ok with
      | false =>
        have q7' : NN σ6 ys H7 := q7
        obtain ⟨hz', m', hm, w7⟩ := hN σ6 ys H7 q7'
        obtain ⟨t7, f7⟩ := keepT J7
        exact ⟨m', hm, i + 1, σ6, ys, H7, its, n, J7.unpinned, hv, hz, t7, f7, w7⟩
      | true =>
        refine wpAny_mono (he cl C s H fp pins _ s7 σ6 H7 _ J7 q7) (fun y s8 ⟨v, H8, J8, r8, q8⟩ => ?_) fun _ _ z => (show False from z).elim
        obtain ⟨hz', m', hm, w8⟩ := hN σ6 (ys ++ [v]) H8 q8
        obtain ⟨t8, f8⟩ := keepT J8
        have pD := J8.pin (D, _) (List.mem_append_right _ (List.mem_append_left _ (List.mem_singleton.mpr rfl)))
        have hzi : its.toArray.size ≤ sizeLine := by rw [List.size_toArray, ← hv.length]; exact hz
        refine wpAny_list_append_plain (hsz := hzi) (items := its.toArray) ⟨n, pD.1⟩ fun h9 hl9 sb9 => ?_
        obtain ⟨n9, ho9⟩ := hl9
        have ho9' : h9.get? D = some { cls := .type "list", data := .seq (its ++ [y]).toArray n9 } := by rw [ho9]; simp
        have J8' : Inv (cxComp X N scope cl C s H fp pins) [] σ6 H8 s8 := J8.pins_of fun p hp => (nomatch hp)
        have J9 : Inv (cxComp X N scope cl C s H fp pins) [] σ6 H8 { s8 with heap := h9 } := J8'.turned (t' := s8.toks) (it := D) (fun b o hb e => (sb9.2 b hb).trans e) pD.2.1 hDC (.inr hDle) Dcell fun p hp => Dpn p (by
          have : p ∈ (X.pn ++ pins) ++ [] := hp
          rwa [List.append_nil] at this)
        refine ⟨m', hm, i + 1, σ6, ys ++ [v], H8, its ++ [y], n9, pinD J9 pD.2.1 ho9', hv.append (.cons r8 .nil), hz', T.keep _ _ _ t8 fun b hb o e => (sb9.2 b (below b (flt b hb)).2).trans e, f8, w8⟩
  exact codeAny_compStart_list (loop _ rfl) (T.self X.A 0 _ _ _ (T.keep _ _ _ st fun b _ o e => old b o e) (loop _ rfl))

noncomputable def tLC (wi : TI) (g : TG) (tt : TT) (te : TE) (js : List (Option Nat)) : TE := fun σ H Q => wi σ H fun J H1 => ∃ W : Nat → Nat → St → List V → Hp → Prop, (∃ m, W 0 m (capt js σ) [] H1) ∧ LoopC J g tt te W Q
theorem pe_lc {wi : TI} (js : List (Option Nat)) (N : List Str) (hc : X.calm = true) (cap : CapOk X N scope js) (hi : PI X tg iter wi) (hg : ∀ cl C s H ex pins, PG (cxComp X N scope cl C s H ex pins) tg g) (ht : ∀ cl C s H ex pins, PIfs (cxComp X N scope cl C s H ex pins) ifs tt)
    (he : ∀ cl C s H ex pins, PE (cxComp X N scope cl C s H ex pins) elt te)
    (hkind : scope.kind = .function := by rfl) (hcell : ∀ y ∈ scope.names, y.2 ≠ .cell := by decide +kernel) (hnames : ∀ y ∈ scope.names, y.2 = .local → scope.names.lookup y.1 = some .local := by decide +kernel)
    (hs : ∀ x, foldedSetIterable iter X.env x = pure x := by intro _; rfl) : PE X (.ListComp elt [⟨tg, iter, ifs, 0⟩] scope pos) (tLC wi g tt te js) := by
  intro pins s σ H Q I h
  obtain ⟨cl, hclos, hc1, hc2⟩ := closure_for (scope := scope) (env := X.env) fun y hy hf => I.ok.has _ (cap.fr y hy hf)
  rw [eval_ListComp]
  refine wpAny_comprehension_free (use := none) rfl hs hclos hkind hnames (thn (hi pins s σ H _ I h) fun v s1 h1 => thn h1 fun itv s2 h2 => ?_)
  obtain ⟨it, fp, tn, J, H2, rfl, I2, T, st2, f2, W, ⟨m0, w0⟩, turn⟩ := h2
  refine comp_core (RR := fun acc C => compPost (model X.prog X.w) X.A X.xe none (EP X pins σ Q) acc C) hc hg ht he hkind hcell hc1 hc2 cap I2 T st2 f2 w0 turn fun D C s' ys H' K1 K2 K3 q => ?_
  obtain ⟨m, hm⟩ := K3
  refine ⟨m, hm, fun h' sb => ⟨.ref D, _, K1.turned (t' := s'.toks) (it := C) (fun b o hb e => (sb.2 b hb).trans e) K2.1 K2.2.1 K2.2.2.2.1 K2.2.2.2.2.1 K2.2.2.2.2.2, rfl, q⟩⟩
theorem ps_setC {wi : TI} {k : Nat} {y : Str} {py spos : Pos} (js : List (Option Nat)) (N : List Str) (hc : X.calm = true) (cap : CapOk X N scope js) (hN : X.N.Nodup) (hk : X.N[k]? = some y) (hy : Loc X.env.scope y) (hi : PI X tg iter wi) (hg : ∀ cl C s H ex pins, PG (cxComp X N scope cl C s H ex pins) tg g) (ht : ∀ cl C s H ex pins, PIfs (cxComp X N scope cl C s H ex pins) ifs tt)
    (he : ∀ cl C s H ex pins, PE (cxComp X N scope cl C s H ex pins) elt te)
    (hsw : swapsWith (.ListComp elt [⟨tg, iter, ifs, 0⟩] scope pos) (some (.Name y py)) spos.line X.env = pure true := by rfl)
    (hkind : scope.kind = .function := by rfl) (hcell : ∀ y ∈ scope.names, y.2 ≠ .cell := by decide +kernel) (hnames : ∀ y ∈ scope.names, y.2 = .local → scope.names.lookup y.1 = some .local := by decide +kernel)
    (hs : ∀ x, foldedSetIterable iter X.env x = pure x := by intro _; rfl) (hf : X.fn y = true ∨ X.env.scope.names.lookup y = some .local := by first | exact .inl rfl | exact .inr rfl | assumption) :
    PS X (.Assign [.Name y py] (.ListComp elt [⟨tg, iter, ifs, 0⟩] scope pos) spos) (tAsg (tLC wi g tt te js) (gName k)) := by
  intro pins s σ H D I h
  obtain ⟨cl, hclos, hc1, hc2⟩ := closure_for (scope := scope) (env := X.env) fun y hy hf => I.ok.has _ (cap.fr y hy hf)
  rw [exec_Assign_Name_used _ _ _ _ hsw]
  refine wpAny_bind (wpAny_standAt (wpAny_bind ?_))
  show wpAny _ X.A (do let _ ← comprehension (.ListComp elt [⟨tg, iter, ifs, 0⟩] scope pos) scope X.env _ (newList []) false (eval iter X.env) (some (assign (.Name y py) X.env))) _ _ s
  refine wpAny_bind (wpAny_mono (wpAny_comprehension_free (use := some (assign (.Name y py) X.env)) (Q := fun _ s' => SP X pins D .next s') rfl hs hclos hkind hnames
    (thn (hi pins s σ H _ I h) fun v s1 h1 => thn h1 fun itv s2 h2 => ?_)) (fun _ s' hq => wpAny_pure (wpAny_pure hq)) fun _ _ e => e)
  obtain ⟨it, fp, tn, J, H2, rfl, I2, T, st2, f2, W, ⟨m0, w0⟩, turn⟩ := h2
  refine comp_core (RR := fun acc C => compPost (model X.prog X.w) X.A X.xe (some (assign (.Name y py) X.env)) (fun _ s' => SP X pins D .next s') acc C) hc hg ht he hkind hcell hc1 hc2 cap I2 T st2 f2 w0 turn fun Dd C s' ys H' K1 K2 K3 q => ?_
  obtain ⟨m, o, es, ep, ho, hd, hr⟩ := K3
  have Kp : Inv X (pins ++ [(C, o)]) σ (upd H' Dd (.lst ys)) s' := K1.pins_of fun p hp => by
    rcases List.mem_append.mp hp with z | z
    · exact K1.pin p (List.mem_append_right _ z)
    · obtain rfl := List.mem_singleton.mp z
      exact ⟨ho, K2.1, K2.2.1, K2.2.2.1, fun v z => by rw [hd] at z; cases z⟩
  show wpAny _ X.A (assign (.Name y py) X.env (.ref Dd)) _ _ _
  refine wpAny_assign_Name (store_ok (v := .ref Dd) Kp hN hk hy rfl (fun s3 I3 => ?_) hf)
  have pC := I3.pin (C, o) (List.mem_append_right _ (List.mem_append_right _ (List.mem_singleton.mpr rfl)))
  refine ⟨m, ⟨o, es, ep, pC.1, hd, hr⟩, fun h' sb => ?_⟩
  have I4 : Inv X pins (σ.set k (some (.ref Dd))) (upd H' Dd (.lst ys)) s3 := I3.unpinned
  exact ⟨_, _, I4.turned (t' := s3.toks) (it := C) (fun b o hb e => (sb.2 b hb).trans e) K2.1 K2.2.1 K2.2.2.2.1 K2.2.2.2.2.1 K2.2.2.2.2.2, q⟩
end
theorem lc_list {K : PySem.W.Frag} {a : Addr} {xs : List V} {g : TG} {tt : TT} {te : TE} {Q : V → Hp → Prop} {σ : St} {H : Hp} (Pv : Nat → St → List V → Hp → Prop) (h0 : Pv 0 σ [] H) (hl : ∀ i σ ys H, i ≤ xs.length → Pv i σ ys H → SqL K H a xs) (hz : ∀ i σ ys H, i ≤ xs.length → Pv i σ ys H → ys.length ≤ sizeLine)
    (hs : ∀ i x σ ys H, xs[i]? = some x → Pv i σ ys H → g x σ H fun σ2 H3 => tt σ2 H3 fun ok H4 => if ok = true then te σ2 H4 fun y H5 => Pv (i + 1) σ2 (ys ++ [y]) H5 else Pv (i + 1) σ2 ys H4)
    (hd : ∀ σ ys H, Pv xs.length σ ys H → ∀ D, H D = none → Q (.ref D) (upd H D (.lst ys))) :
    ∃ W : Nat → Nat → St → List V → Hp → Prop, (∃ m, W 0 m σ [] H) ∧ LoopC (Itl K a) g tt te W Q := by
  refine ⟨fun i m σ ys H => m = xs.length - i ∧ i ≤ xs.length ∧ Pv i σ ys H, ⟨xs.length, by simp, Nat.zero_le _, h0⟩, ?_⟩
  rintro i m σ ys H ⟨rfl, hi, p⟩
  have q := hl i σ ys H hi p
  by_cases hlt : i < xs.length
  · refine .inr ⟨⟨xs, xs[i], q, by simp [hlt]⟩, Pv (i + 1), fun σ' zs H' p' => ⟨hz _ _ _ _ hlt p', xs.length - (i + 1), by (first | lia | omega), rfl, hlt, p'⟩, fun x H' y => ?_⟩
    obtain ⟨e, y⟩ := y
    subst e
    exact hs i x σ ys _ (y xs q) p
  · have e : i = xs.length := by (first | lia | omega)
    subst e
    exact .inl ⟨⟨xs, q, Nat.le_refl _⟩, hd σ ys H p⟩
theorem lc_tup {K : PySem.W.Frag} {a : Addr} {xs : List V} {g : TG} {tt : TT} {te : TE} {Q : V → Hp → Prop} {σ : St} {H : Hp} (Pv : Nat → St → List V → Hp → Prop) (h0 : Pv 0 σ [] H) (hl : ∀ i σ ys H, i ≤ xs.length → Pv i σ ys H → SqT K H a xs) (hz : ∀ i σ ys H, i ≤ xs.length → Pv i σ ys H → ys.length ≤ sizeLine)
    (hs : ∀ i x σ ys H, xs[i]? = some x → Pv i σ ys H → g x σ H fun σ2 H3 => tt σ2 H3 fun ok H4 => if ok = true then te σ2 H4 fun y H5 => Pv (i + 1) σ2 (ys ++ [y]) H5 else Pv (i + 1) σ2 ys H4)
    (hd : ∀ σ ys H, Pv xs.length σ ys H → ∀ D, H D = none → Q (.ref D) (upd H D (.lst ys))) :
    ∃ W : Nat → Nat → St → List V → Hp → Prop, (∃ m, W 0 m σ [] H) ∧ LoopC (Itt K a) g tt te W Q := by
  refine ⟨fun i m σ ys H => m = xs.length - i ∧ i ≤ xs.length ∧ Pv i σ ys H, ⟨xs.length, by simp, Nat.zero_le _, h0⟩, ?_⟩
  rintro i m σ ys H ⟨rfl, hi, p⟩
  have q := hl i σ ys H hi p
  by_cases hlt : i < xs.length
  · refine .inr ⟨⟨xs, xs[i], q, by simp [hlt]⟩, Pv (i + 1), fun σ' zs H' p' => ⟨hz _ _ _ _ hlt p', xs.length - (i + 1), by (first | lia | omega), rfl, hlt, p'⟩, fun x H' y => ?_⟩
    obtain ⟨e, y⟩ := y
    subst e
    exact hs i x σ ys _ (y xs q) p
  · have e : i = xs.length := by (first | lia | omega)
    subst e
    exact .inl ⟨⟨xs, q, Nat.le_refl _⟩, hd σ ys H p⟩
end L2
set_option Elab.async false
set_option linter.all false
set_option maxRecDepth 100000
namespace L2
open PySem PySem.Spec PyProof.Rows
section
variable {X : Cx} {pins : List (Addr × Obj)} {σ : St} {H : Hp} {s : Shared}
end
section
variable {X : Cx}
end
theorem int_text_le {i : Int} (h0 : 0 ≤ i) (h : i < 10 ^ 60) : (PyData.shown (.int i)).length ≤ 60 := by
  show (Str.ofString (toString i)).length ≤ 60
  exact toString_length_le h0 (by decide) h
end L2
set_option Elab.async false
set_option linter.all false
set_option maxRecDepth 100000
namespace L2
open PySem PySem.Spec PyProof.Rows
theorem cap1 {X : Cx} {x : Str} {scope : Scope} (h : ∀ y ∈ scope.names, y.2 ≠ .free := by decide +kernel) : CapOk X [x] scope [none] where
  len := rfl
  at_ := fun i j y e _ => by
    cases i with
    | zero => cases e
    | succ i => cases i <;> cases e
  fr := fun y hy hf => absurd hf (h y hy)
theorem nd1 {x : Str} : ([x] : List Str).Nodup := List.nodup_cons.mpr ⟨List.not_mem_nil, List.nodup_nil⟩
noncomputable def rIsi (K : PySem.W.Frag) (T : String) : List V → Hp → VK → Prop := fun xs H Q => ∃ x t b, xs = [x, .ty T] ∧ TyOf K H x t ∧ PySem.W.kitOne K t (.type T) = some b ∧ Q (.bl b) H
theorem call_isi {X : Cx} {T : String} : CallR X (.builtin "isinstance") (rIsi X.K T) := call_isinst
end L2
set_option Elab.async false
set_option linter.all false
set_option maxRecDepth 100000
namespace L2
open PySem PySem.Spec PyProof.Rows
end L2
set_option Elab.async false
set_option linter.all false
set_option maxRecDepth 100000
namespace L2
open PySem PySem.Spec PyProof.Rows
noncomputable def Its (x : Str) : It := ⟨fun i _ => i < x.cps.size, fun i H v H' => H' = H ∧ ∃ c, x.cps[i]? = some c ∧ v = .str ⟨#[c]⟩, fun i _ => x.cps.size ≤ i⟩
theorem turn_str {P : Program} {w : World} {K : PySem.W.Frag} {tg : Expr} {it : Addr} {x : Str} {t : Tok} {ty : String} (hty : ["enumerate", "zip", "dict_itemiterator", "dict_reverseitemiterator", "odict_iterator", "itertools.zip_longest", "itertools.pairwise"].contains ty = false)
    (W : ∀ A' : Around, A'.handled = none → Walks P w A' it [it] [it] x.cps.size (SignAt x) (fun i h => h.IsStrIter it ty x t i))
    (hself : ∀ (A : Around) (i : Nat) (s : Shared) (Q : Value → Shared → Prop) (E : Value → Shared → Prop), s.heap.IsStrIter it ty x t i → Q (.ref it) s → wpAny (model P w) A (pyIter (.ref it)) Q E s) : Turn P w K tg (Its x) [it] it (fun i h => i ≤ x.cps.size ∧ h.IsStrIter it ty x t i) where
  mem := by simp
  obj := fun i h st b hb => by
    have e : b = it := by simpa using hb
    subst e
    obtain ⟨_, o, e, c, d⟩ := st
    exact ⟨o, e, fun v z => by rw [d] at z; cases z⟩
  keep := fun i h h' st k => by
    obtain ⟨hi, o, e, r⟩ := st
    exact ⟨hi, o, k it (by simp) o e, r⟩
  item := by
    intro X hP hw hK hc i pins s σ H E I hf st hg
    subst hP hw hK
    obtain ⟨f0, f1, f2, f3, f4, f5⟩ := hf it (by simp)
    obtain ⟨_, st⟩ := st
    refine (W X.A (I.ok.hd hc)).item i s _ _ hg st fun v h' tk hv st' kk => ?_
    obtain ⟨c, u, hx, rfl⟩ := hv
    have I1 : Inv X pins σ H { s with heap := h', toks := tk } := I.turned (fun b o hb e => kk b o (by simpa using hb) e) f0 f1 f3 f4 f5
    obtain ⟨o, e, hcl, hd⟩ := id st'
    exact ⟨_, rfl, go_of (s := { s with heap := h', toks := tk }) e hcl hd hty ⟨.str ⟨#[c]⟩, H, I1, ⟨u, rfl⟩, ⟨rfl, c, hx, rfl⟩, ⟨hg, st'⟩, fun b hb => (hf b hb).1⟩⟩
  done := by
    intro X hP hw hK hc i pins s σ H E I hf st hg
    subst hP hw hK
    obtain ⟨f0, f1, f2, f3, f4, f5⟩ := hf it (by simp)
    obtain ⟨hi, st⟩ := st
    have e : i = x.cps.size := Nat.le_antisymm hi hg
    subst e
    exact (W X.A (I.ok.hd hc)).done s _ _ st fun h' tk kk => ⟨rfl, I.turned (t' := tk) (fun b o hb e => kk b o (by simpa using hb) e) f0 f1 f3 f4 f5⟩
  self := fun A i s Q E st h => hself A i s Q E st.2 h
section
variable {X : Cx} {tg : Expr}
noncomputable def iStr (tl : TE) : TI := fun σ H R => tl σ H fun x H1 => ∃ z, x = .str z ∧ R (Its z) H1
theorem pi_str {l : Expr} {tl : TE} (hl : PE X l tl) : PI X tg l (iStr tl) := by
  intro pins s σ H R I h
  refine thn (hl pins s σ H _ I h) fun v s1 ⟨x, H1, I1, r1, q1⟩ => ?_
  obtain ⟨z, rfl, q⟩ := q1
  obtain ⟨t, rfl⟩ := r1
  have fin : ∀ (b : Addr), b ∈ [s1.heap.objs.size] → FpOk X pins H1 b := fun b hb => by
    have e : b = s1.heap.objs.size := by simpa using hb
    subst e
    exact I1.fpOk (Nat.le_refl _) (I1.hok.fresh (Nat.le_refl _))
  cases ha : z.cps.all (· < 128)
  · refine wpAny_pyIter_wide ha ⟨s1.heap.objs.size, [s1.heap.objs.size], _, _, H1, rfl, I1.kept (t' := s1.toks) fun b o e => Heap.get?_push_of_some _ e,
      turn_str (t := t) (ty := "str_iterator") (by decide) (fun A' hA => Walks.strWide hA _ z t) (fun A i s Q E st h => wpAny_pyIter_striter_wide st h), ⟨Nat.zero_le _, _, Heap.get?_push_size _ rfl, rfl, rfl⟩, fin, q⟩
  · refine wpAny_pyIter_ascii ha ⟨s1.heap.objs.size, [s1.heap.objs.size], _, _, H1, rfl, I1.kept (t' := s1.toks) fun b o e => Heap.get?_push_of_some _ e,
      turn_str (t := t) (ty := "str_ascii_iterator") (by decide) (fun A' hA => Walks.strAscii hA _ z t) (fun A i s Q E st h => wpAny_pyIter_striter_ascii st h), ⟨Nat.zero_le _, _, Heap.get?_push_size _ rfl, rfl, rfl⟩, fin, q⟩
end
theorem lc_str {x : Str} {g : TG} {tt : TT} {te : TE} {Q : V → Hp → Prop} {σ : St} {H : Hp} (Pv : Nat → St → List V → Hp → Prop) (h0 : Pv 0 σ [] H) (hz : ∀ i σ ys H, i ≤ x.cps.size → Pv i σ ys H → ys.length ≤ sizeLine)
    (hs : ∀ i c σ ys H, x.cps[i]? = some c → Pv i σ ys H → g (.str ⟨#[c]⟩) σ H fun σ2 H3 => tt σ2 H3 fun ok H4 => if ok = true then te σ2 H4 fun y H5 => Pv (i + 1) σ2 (ys ++ [y]) H5 else Pv (i + 1) σ2 ys H4)
    (hd : ∀ σ ys H, Pv x.cps.size σ ys H → ∀ D, H D = none → Q (.ref D) (upd H D (.lst ys))) :
    ∃ W : Nat → Nat → St → List V → Hp → Prop, (∃ m, W 0 m σ [] H) ∧ LoopC (Its x) g tt te W Q := by
  refine ⟨fun i m σ ys H => m = x.cps.size - i ∧ i ≤ x.cps.size ∧ Pv i σ ys H, ⟨x.cps.size, by simp, Nat.zero_le _, h0⟩, ?_⟩
  rintro i m σ ys H ⟨rfl, hi, p⟩
  by_cases hlt : i < x.cps.size
  · refine .inr ⟨hlt, Pv (i + 1), fun σ' zs H' p' => ⟨hz _ _ _ _ hlt p', x.cps.size - (i + 1), by (first | lia | omega), rfl, hlt, p'⟩, fun v H' y => ?_⟩
    obtain ⟨e, c, hc, rfl⟩ := y
    subst e
    exact hs i c σ ys _ hc p
  · have e : i = x.cps.size := by (first | lia | omega)
    subst e
    exact .inl ⟨Nat.le_refl _, hd σ ys H p⟩
section
variable {X : Cx}
theorem call_allB (hc : X.calm = true) : CallR X (.builtin "all") (fun xs H Q => ∃ (a : Addr) (bs : List Bool), xs = [.ref a] ∧ SqL X.K H a (bs.map V.bl) ∧ Q (.bl (bs.all id)) H) := by
  intro pins s σ H xs us Q I r h
  obtain ⟨a, bs, rfl, hs, q⟩ := h
  obtain ⟨u, rfl, ru⟩ := vals1 r
  cases ru
  obtain ⟨its, rv, pl, hz⟩ := I.list hs
  have hl : its.length = bs.length := by rw [← rv.length, List.length_map]
  refine call_all_walk ?_
  refine wpAny_pyIter_list pl.isList ?_
  have lt : a < s.heap.objs.size := by obtain ⟨o, n, e, _⟩ := pl; exact Heap.lt_size e
  have at_ : ∀ (i : Nat) (v : Value), its.toArray[i]? = some v → v = Value.bool (bs.getD i true) := fun i v hv => by
    have hv' : its[i]? = some v := by simpa using hv
    have hi : i < bs.length := by
      have := (List.getElem?_eq_some_iff.mp hv').1
      (first | lia | omega)
    have hx : (bs.map V.bl)[i]? = some (.bl (bs.getD i true)) := by
      rw [List.getElem?_map, List.getElem?_eq_getElem hi]
      simp [List.getD, List.getElem?_eq_getElem hi]
    obtain ⟨u, hu, ru⟩ := rv.get hx
    rw [hv'] at hu
    cases hu
    exact ru
  refine ⟨s.heap.objs.size, _, _, _, _, _, fun i => bs.getD i true, rfl, Walks.list (A := X.A.in1) (show X.A.in1.handled = none from I.ok.hd hc) _ a (Nat.ne_of_lt lt) its.toArray, ⟨⟨_, Heap.get?_push_size _ rfl, rfl, rfl⟩, pl.isList.at fun o e => Heap.get?_push_of_some _ e⟩, fun i v s' Q' E' hv hQ => ?_, fun h' tk hk => ?_⟩
  · rw [at_ i v hv]
    exact wpAny_truthy_bool hQ
  · have e : ((List.range its.toArray.size).all fun i => bs.getD i true) = bs.all id := by
      rw [List.size_toArray, hl]
      rw [Bool.eq_iff_iff, List.all_eq_true, List.all_eq_true]
      constructor
      · intro h b hb
        obtain ⟨i, hi, e⟩ := List.mem_iff_getElem.mp hb
        have := h i (List.mem_range.mpr hi)
        rw [List.getD, List.getElem?_eq_getElem hi] at this
        rw [← e]; exact this
      · intro h i hi
        have hi' := List.mem_range.mp hi
        rw [List.getD, List.getElem?_eq_getElem hi']
        exact h _ (List.getElem_mem hi')
    rw [e]
    refine ⟨.bl _, H, I.kept (t' := tk) fun b o eo => hk b o ?_ (Heap.get?_push_of_some _ eo), rfl, q⟩
    intro z
    rw [List.mem_singleton.mp z] at eo
    exact absurd (Heap.lt_size eo) (Nat.lt_irrefl _)
theorem sl_str : SlR X (fun x lo hi H Q => ∃ z, x = .str z ∧ z.length ≤ sizeLine ∧ Q (.str (Txt.slice z lo hi)) H) := by
  intro pins s σ H x v vl vu lo hi sl Q I rx hs pl pu h
  obtain ⟨z, rfl, hz, q⟩ := h
  obtain ⟨t, rfl⟩ := rx
  refine ⟨"str", _, F.slot_str_getitem.lookup, typeIs_str _ _ _, ?_⟩
  have fin : ∀ t' k, EP X pins σ Q (.str (Txt.slice z lo hi) t') { s with toks := k } := fun t' k => ⟨.str _, H, I.tok k, ⟨t', rfl⟩, q⟩
  obtain ⟨o, ho, hc, hd⟩ := hs
  cases pl with
  | none =>
    cases pu with
    | none => exact wpAny_getItem_str_slice (l := none) (u := none) (st := none) ⟨o, ho, hc, hd⟩ rfl (post_val_or_str ⟨Nat.le_trans (Txt.slice_le z _ _) hz, fin⟩)
    | int j tj => exact wpAny_getItem_str_slice (l := none) (u := some (j, tj)) (st := none) ⟨o, ho, hc, hd⟩ rfl (post_val_or_str ⟨Nat.le_trans (Txt.slice_le z _ _) hz, fin⟩)
  | int i ti =>
    cases pu with
    | none => exact wpAny_getItem_str_slice (l := some (i, ti)) (u := none) (st := none) ⟨o, ho, hc, hd⟩ rfl (post_val_or_str ⟨Nat.le_trans (Txt.slice_le z _ _) hz, fin⟩)
    | int j tj => exact wpAny_getItem_str_slice (l := some (i, ti)) (u := some (j, tj)) (st := none) ⟨o, ho, hc, hd⟩ rfl (post_val_or_str ⟨Nat.le_trans (Txt.slice_le z _ _) hz, fin⟩)
theorem mul_ok {a : Str} {k : Int} (h0 : 0 ≤ k) (h : a.length * k.toNat ≤ 1000000) (hk : k ≤ 1000000) : MulOk a k := by
  refine ⟨?_, fun hn _ hgt => ?_, fun _ _ => ?_⟩
  · rw [decide_eq_false (by (first | lia | omega)), decide_eq_false (by (first | lia | omega))]; rfl
  · have h1 : 0 < k := by (first | lia | omega)
    have h2 : ((2 : Int) ^ 63 - 1) / k < (a.length : Int) := hgt
    have h3 := (Int.ediv_lt_iff_lt_mul h1).mp h2
    have h4 : (a.length : Int) * k ≤ 1000000 := by
      have e : ((a.length * k.toNat : Nat) : Int) = (a.length : Int) * k := by
        rw [Int.natCast_mul, Int.toNat_of_nonneg h0]
      (first | lia | omega)
    (first | lia | omega)
  · have e : sizeLine = 16777216 := sizeLine_eq
    unfold Builtin.Str.tooLong
    first | (apply decide_eq_false; (first | lia | omega)) | (simp; (first | lia | omega)) | (rw [decide_eq_false_iff_not]; (first | lia | omega))
theorem op_mul_str : OpR X (binaryOp .Mult) (fun x y H Q => ∃ (a : Str) (k : Int), x = .str a ∧ y = .int k ∧ 0 ≤ k ∧ k ≤ 1000000 ∧ a.length * k.toNat ≤ 1000000 ∧ Q (.str (Txt.mul a k)) H) := by
  intro pins s σ H x y v u Q I rx ry h
  obtain ⟨a, k, rfl, rfl, h0, hk, hl, q⟩ := h
  obtain ⟨t, rfl⟩ := rx
  obtain ⟨t', rfl⟩ := ry
  exact SB.mul (mul_ok h0 hl hk) fun t' k => ⟨.str _, H, I.tok k, ⟨t', rfl⟩, q⟩
end
end L2
set_option Elab.async false
set_option linter.all false
set_option maxRecDepth 100000
namespace L2
open PySem PySem.Spec PyProof.Rows
theorem str_ext {x y : Str} (h : x.cps.toList = y.cps.toList) : x = y := by
  cases x; cases y
  exact congrArg Str.mk (Array.toList_inj.mp h)
theorem str_app (x y : Str) : (x ++ y).cps.toList = x.cps.toList ++ y.cps.toList := by
  show (Str.append x y).cps.toList = _
  simp [Str.append]
theorem cap01 {X : Cx} {x y : Str} {j : Nat} {scope : Scope} (hN : X.N[j]? = some y := by rfl) (hf : scope.names.lookup y = some .free := by rfl) (hc : X.env.scope.names.lookup y = some .cell := by rfl)
    (hfr : ∀ z ∈ scope.names, z.2 = .free → z.1 = y := by decide +kernel) : CapOk X [x, y] scope [none, some j] where
  len := rfl
  at_ := fun i k z e1 e2 => by
    match i, e1, e2 with
    | 0, e1, _ => cases e1
    | 1, e1, e2 =>
      obtain rfl : j = k := Option.some.inj (Option.some.inj e1)
      obtain rfl : y = z := Option.some.inj e2
      exact ⟨hN, hf, .inl hc⟩
    | i + 2, e1, _ => cases e1
  fr := fun z hz hz2 => .inl (by rw [hfr z hz hz2]; exact hc)
theorem cap012 {X : Cx} {x y y2 : Str} {j j2 : Nat} {scope : Scope} (hN : X.N[j]? = some y := by rfl) (hf : scope.names.lookup y = some .free := by rfl) (hc : X.env.scope.names.lookup y = some .cell := by rfl)
    (hN2 : X.N[j2]? = some y2 := by rfl) (hf2 : scope.names.lookup y2 = some .free := by rfl) (hc2 : X.env.scope.names.lookup y2 = some .cell := by rfl)
    (hfr : ∀ z ∈ scope.names, z.2 = .free → z.1 = y ∨ z.1 = y2 := by decide +kernel) : CapOk X [x, y, y2] scope [none, some j, some j2] where
  len := rfl
  at_ := fun i k z e1 e2 => by
    match i, e1, e2 with
    | 0, e1, _ => cases e1
    | 1, e1, e2 =>
      obtain rfl : j = k := Option.some.inj (Option.some.inj e1)
      obtain rfl : y = z := Option.some.inj e2
      exact ⟨hN, hf, .inl hc⟩
    | 2, e1, e2 =>
      obtain rfl : j2 = k := Option.some.inj (Option.some.inj e1)
      obtain rfl : y2 = z := Option.some.inj e2
      exact ⟨hN2, hf2, .inl hc2⟩
    | i + 3, e1, _ => cases e1
  fr := fun z hz hz2 => .inl (by
    rcases hfr z hz hz2 with e | e
    · rw [e]; exact hc
    · rw [e]; exact hc2)
theorem pe_gv {X : Cx} {x : Str} {v : V} {pos : Pos} (hg : Gl X x) (h : ∃ u, X.mg x = some u ∧ RelV v u) (hd : (x == ("__debug__" : Str)) = false := by decide) : PE X (.Name x pos) (tC v) := by
  obtain ⟨u, hm, r⟩ := h
  exact pe_glob hg hm r hd
end L2
set_option Elab.async false
set_option linter.all false
set_option maxRecDepth 100000
namespace L2
open PySem PySem.Spec PyProof.Rows PySem.W
noncomputable def askRun {α : Type} (lt : Nat → Nat → Bool) : KasT α → α
  | .ret a => a
  | .ask i j k => askRun lt (k (lt i j))
noncomputable def AskLt {α : Type} (n : Nat) : KasT α → Prop
  | .ret _ => True
  | .ask i j k => i < n ∧ j < n ∧ ∀ b, AskLt n (k b)
noncomputable def AskP {α : Type} (n : Nat) (P : α → Prop) : KasT α → Prop
  | .ret a => P a
  | .ask i j k => i < n ∧ j < n ∧ ∀ b, AskP n P (k b)
theorem askP_bind {α β : Type} {n : Nat} {P : α → Prop} {R : β → Prop} {f : α → KasT β} (hf : ∀ a, P a → AskP n R (f a)) : ∀ t : KasT α, AskP n P t → AskP n R (t.bind f)
  | .ret a, h => hf a h
  | .ask i j k, h => ⟨h.1, h.2.1, fun b => askP_bind hf (k b) (h.2.2 b)⟩
theorem askP_true {α : Type} {n : Nat} {P : α → Prop} : ∀ t : KasT α, AskP n P t → AskLt n t
  | .ret _, _ => trivial
  | .ask _ _ k, h => ⟨h.1, h.2.1, fun b => askP_true (k b) (h.2.2 b)⟩
noncomputable def Below (n : Nat) (p : Array Nat) : Prop := 0 < n ∧ (∀ x ∈ p, x < n) ∧ p.size = n
theorem Below.get {n : Nat} {p : Array Nat} (h : Below n p) (i : Nat) : p.getD i 0 < n := by
  by_cases q : i < p.size
  · have e : p.getD i 0 = p[i] := by simp [Array.getD, q]
    rw [e]
    exact h.2.1 _ (Array.getElem_mem q)
  · have e : p.getD i 0 = 0 := by simp [Array.getD, q]
    rw [e]
    exact h.1
theorem Below.perm {n : Nat} {p q : Array Nat} (h : Below n p) (e : q.Perm p) : Below n q := ⟨h.1, fun x hx => h.2.1 x (e.mem_iff.mp hx), e.size_eq.trans h.2.2⟩
theorem Below.rev {n : Nat} {p : Array Nat} (h : Below n p) (i j : Nat) : Below n (kas_rev p i j) := h.perm (mirror_perm p i j _)
theorem ask_asc {n : Nat} {p : Array Nat} (h : Below n p) : ∀ f k, AskP n (fun _ => True) (kas_asc p f k)
  | 0, _ => trivial
  | f + 1, k => ⟨h.get _, h.get _, fun b => by
    cases b with
    | true => exact trivial
    | false => exact ask_asc h f (k + 1)⟩
theorem ask_desc {n : Nat} : ∀ (f : Nat) (p : Array Nat) (k q : Nat), Below n p → AskP n (fun r => Below n r.1) (kas_desc f p k q)
  | 0, p, _, _, h => h
  | f + 1, p, k, q, h => ⟨h.get _, h.get _, fun b => by
    cases b with
    | true =>
      show AskP n _ (if q > 0 then _ else _)
      split
      · exact ask_desc f _ _ _ (h.rev _ _)
      · exact ask_desc f _ _ _ h
    | false =>
      refine ⟨h.get _, h.get _, fun b => ?_⟩
      cases b with
      | true => exact h
      | false => exact ask_desc f _ _ _ h⟩
theorem ask_tail3 {n : Nat} {p : Array Nat} (h : Below n p) (k r : Nat) : AskP n (fun x => Below n x.2) (kas_tail3 k r p) := by
  refine askP_bind (P := fun _ => True) (fun a _ => ?_) _ (ask_asc (h.rev _ _) _ _)
  show Below n (kas_rev p 0 k)
  exact h.rev _ _
theorem ask_descPart {n : Nat} {p : Array Nat} (h : Below n p) (k r : Nat) : AskP n (fun x => Below n x.2) (kas_descPart k r p) := by
  refine askP_bind (fun x hx => ?_) _ (ask_desc _ _ _ _ h)
  split
  · exact ask_tail3 (hx.rev _ _) _ _
  · exact ask_tail3 hx _ _
theorem ask_count {n : Nat} {p : Array Nat} (h : Below n p) (r : Nat) : AskP n (fun x => Below n x.2) (kas_count r p) := by
  refine askP_bind (fun x _ => ?_) _ (ask_asc h _ _)
  split
  · exact h
  split
  · refine ⟨h.get _, h.get _, fun b => ?_⟩
    cases b with
    | true => exact h
    | false => exact ask_descPart (h.rev _ _) _ _
  · exact ask_descPart h _ _
theorem ask_place {n : Nat} {p : Array Nat} (h : Below n p) (k : Nat) : ∀ f l r, AskP n (fun _ => True) (kas_place p k f l r)
  | 0, _, _ => trivial
  | f + 1, l, r => by
    show AskP n _ (if l ≥ r then _ else _)
    split
    · exact trivial
    · refine ⟨h.get _, h.get _, fun b => ?_⟩
      cases b with
      | true => exact ask_place h k f _ _
      | false => exact ask_place h k f _ _
theorem ask_bin {n : Nat} : ∀ (f : Nat) (p : Array Nat) (k : Nat), Below n p → AskP n (fun x => Below n x) (kas_bin f p k)
  | 0, _, _, h => h
  | f + 1, p, k, h => askP_bind (fun l _ => ask_bin f _ _ (h.perm (bubble_perm p k _))) _ (ask_place h k _ _ _)
theorem ask_sort {n : Nat} (h0 : 0 < n) : AskP n (fun x => Below n x) (kas_sort n) := by
  have hb : Below n (List.toArray (List.range n)) := ⟨h0, fun x hx => by simpa using hx, by simp⟩
  refine askP_bind (fun x hx => ?_) _ (ask_count hb n)
  split
  · exact ask_bin _ _ _ hx
  · exact hx
theorem ask_run {α : Type} {n : Nat} {lt : Nat → Nat → Bool} {cmp : Nat → Nat → (Bool → Shared → Prop) → Shared → Prop} {Q : α → Shared → Prop} {s : Shared} (hc : ∀ i j C, i < n → j < n → C (lt i j) s → cmp i j C s) :
    ∀ t : KasT α, AskLt n t → Q (askRun lt t) s → t.kasWp cmp Q s
  | .ret _, _, h => h
  | .ask i j k, ha, h => hc i j _ ha.1 ha.2.1 (ask_run hc (k (lt i j)) (ha.2.2 _) h)
theorem askP_run {α : Type} {n : Nat} {P : α → Prop} {lt : Nat → Nat → Bool} : ∀ t : KasT α, AskP n P t → P (askRun lt t)
  | .ret _, h => h
  | .ask i j k, h => askP_run (k (lt i j)) (h.2.2 _)
noncomputable def sortP (n : Nat) (lt : Nat → Nat → Bool) : List Nat := if n < 2 then List.range n else (askRun lt (kas_sort n)).toList
theorem sortP_lt {n i : Nat} {lt : Nat → Nat → Bool} (h : i ∈ sortP n lt) : i < n := by
  unfold sortP at h
  split at h
  · simpa using h
  · rename_i h2
    exact (askP_run (lt := lt) (kas_sort n) (ask_sort (by (first | lia | omega)))).2.1 i (by simpa using h)
theorem sort_len {n : Nat} {lt : Nat → Nat → Bool} (h : 0 < n) : (askRun lt (kas_sort n)).toList.length = n := by
  rw [Array.length_toList]
  exact (askP_run (lt := lt) (kas_sort n) (ask_sort h)).2.2
theorem zipSelf_snd (vs : List Value) : (vs.toArray.zip vs.toArray).map (·.2) = vs.toArray := by
  apply Array.toList_inj.mp
  simp [List.map_snd_zip]
theorem getD_range (vs : List Value) : (List.range vs.length).map (fun i => vs.getD i Value.none) = vs := by
  apply List.ext_getElem
  · simp
  · intro i h1 h2
    simp [h2]
section
variable {prog : Program} {w : World} {A : Around} {E : Value → Shared → Prop} {s : Shared}
theorem sort_data {a : Addr} {vs : List Value} {n : Nat} {κ : SortKind} {lt : Nat → Nat → Bool} {P : PySem.Fin → Shared → Prop} (ho : s.heap.get? a = some (seqObj "list" vs.toArray n)) (h64 : vs.length < 64)
    (hk : 2 ≤ vs.length → ∀ s' : Shared, (∀ b o, b ≠ a → s.heap.get? b = some o → s'.heap.get? b = some o) → ∀ Q : SortKind → Shared → Prop, Q κ s' → wpAny (model prog w) A (keyKind' vs.toArray) Q (fun _ _ => False) s')
    (hl : ∀ i j, i < vs.length → j < vs.length → ∀ s' : Shared, (∀ b o, b ≠ a → s.heap.get? b = some o → s'.heap.get? b = some o) → ∀ C : Bool → Shared → Prop, C (lt i j) s' → wpAny (model prog w) A (keyLt' κ (vs.getD i Value.none) (vs.getD j Value.none)) C (fun _ _ => False) s')
    (h : P (.done (.ret .none)) { s with heap := sortedHeap s.heap a vs ((sortP vs.length lt).map fun i => vs.getD i Value.none).toArray }) :
    wpAny (model prog w) A (Builtin.«list.sort» ⟨[.ref a], []⟩) P E s := by
  have ha : a < s.heap.objs.size := Heap.lt_size ho
  have hz : vs.length ≤ sizeLine := by rw [sizeLine_eq]; (first | lia | omega)
  obtain ⟨e1, ho1⟩ : ∃ e1, (s.heap.update a (Obj.mapSeq fun _ => #[])).get? a = some (seqObj "list" #[] e1) := ⟨_, get?_update_seq ho (fun _ => #[])⟩
  have kp : ∀ b o, b ≠ a → s.heap.get? b = some o → (((s.heap.update a (Obj.mapSeq fun _ => #[])).push (seqObj "tuple" vs.toArray 0)).push (seqObj "list" #[] 0)).get? b = some o := fun b o hb e =>
    Heap.get?_push_of_some _ (Heap.get?_push_of_some _ ((Heap.get?_update_other _ _ (Ne.symm hb)).trans e))
  have ho6 := Heap.get?_push_of_some (seqObj "list" #[] 0) (Heap.get?_push_of_some (seqObj "tuple" vs.toArray 0) ho1)
  rw [list_sort_plain]
  refine wpAny_bind (listItems_at ho rfl (wpAny_bind (listUpdate_at ho rfl ?_ (by rw [List.size_toArray]; (first | lia | omega)) (Nat.zero_le _))))
  refine wpAny_bind (seqEpoch_at ho1 rfl (wpAny_bind (wpAny_newTuple (wpAny_bind (wpAny_newList (wpAny_holding ?_) (Nat.zero_le _))) hz)))
  dsimp only
  by_cases h2 : vs.toArray.size < 2
  · rw [if_pos h2, if_pos h2]
    refine wpAny_bind (wpAny_pure ?_)
    rw [StateT.run_pure]
    refine wpAny_bind (wpAny_pure ?_)
    refine wpAny_bind (seqEpoch_at ho6 rfl (wpAny_bind (listUpdate_at ho6 rfl ?_ (Nat.zero_le _) ?_)))
    · have e2 : sortP vs.length lt = List.range vs.length := if_pos (by simpa using h2)
      rw [e2, getD_range] at h
      show wpAny _ _ _ P E { s with heap := _ }
      simp only [bne_self_eq_false, Bool.false_eq_true, if_false]
      refine wpAny_pure ?_
      have e3 : (arrOf (SortSt.mk' general' (vs.toArray.zip vs.toArray) #[] 7 none)).map (·.2) = vs.toArray := zipSelf_snd vs
      rw [e3]
      exact h
    · have e3 : (arrOf (SortSt.mk' general' (vs.toArray.zip vs.toArray) #[] 7 none)).map (·.2) = vs.toArray := zipSelf_snd vs
      rw [e3, List.size_toArray]
      (first | lia | omega)
  · have h2' : 2 ≤ vs.length := by rw [List.size_toArray] at h2; (first | lia | omega)
    rw [if_neg h2, if_neg h2]
    refine wpAny_bind (wpAny_mono (hk h2' _ kp (fun κ' s' => κ' = κ ∧ s' = _) ⟨rfl, rfl⟩) ?_ fun _ _ x => x.elim)
    rintro κ' s' ⟨rfl, rfl⟩
    refine wpAny_bind (wpAny_mono (kat_run (G := fun p s' => p = askRun lt (kas_sort vs.length) ∧ s' = _) (Q := fun st' s' => s' = _ ∧ (∃ p : Array Nat, p.size = vs.length ∧ arrOf st' = p.map (kas_item (vs.toArray.zip vs.toArray)) ∧ p = askRun lt (kas_sort vs.length)) ∧ failedOf st' = none) rfl h2' h64 (fun p st' s' a1 a2 a3 a4 => ⟨a4.2, ⟨p, a1, a2, a4.1⟩, a3⟩)
      (ask_run (n := vs.length) (lt := lt) (fun i j C hi hj hC => hl i j hi hj _ kp C hC) _ (askP_true _ (ask_sort (by (first | lia | omega)))) ⟨rfl, rfl⟩)) ?_ fun _ _ e => e)
    rintro ⟨⟨⟩, st'⟩ s' ⟨rfl, ⟨p, hp, har, rfl⟩, hf⟩
    dsimp only
    have hout := kat_snds (ks := vs) (vs := vs) rfl har
    have e2 : sortP vs.length lt = (askRun lt (kas_sort vs.length)).toList := if_neg (by (first | lia | omega))
    rw [e2] at h
    refine wpAny_bind (seqEpoch_at ho6 rfl (wpAny_bind (listUpdate_at ho6 rfl ?_ (Nat.zero_le _) ?_)))
    · rw [hf, hout]
      simp only [bne_self_eq_false, Bool.false_eq_true, if_false]
      exact wpAny_pure h
    · rw [hout, List.size_toArray, List.length_map, Array.length_toList, hp]
      (first | lia | omega)
end
end L2
set_option Elab.async false
set_option linter.all false
set_option maxRecDepth 100000
namespace L2
open PySem PySem.Spec PyProof.Rows PySem.W
section
variable {prog : Program} {w : World} {A : Around} {E : Value → Shared → Prop} {s : Shared}
theorem sorted_call {v : Value} {Q : Value → Shared → Prop} (h : wpAny (model prog w) A.in1 (collect v) (fun vs s1 => vs.length ≤ sizeLine ∧
      wpAny (model prog w) A.in1.in1 (Builtin.«list.sort» ⟨[.ref s1.heap.objs.size], []⟩) (fun fin s2 => fin = .done (.ret .none) ∧ Q (.ref s1.heap.objs.size) s2) (fun _ _ => False) { s1 with heap := s1.heap.push (seqObj "list" vs.toArray 0) }) E s) :
    wpAny (model prog w) A (call (.builtin "sorted") [v]) Q E s := by
  refine Calls.call_function_entry kind_sorted plain_sorted entry_sorted (args_sorted1 v) ?_
  unfold Builtin.«sorted»
  refine wpAny_bind (m := checkCount "sorted" 1 1 _) (wpAny_pure (wpAny_bind (wpAny_mono h (fun vs s1 h1 => ?_) fun _ _ x => x)))
  obtain ⟨hz, h1⟩ := h1
  refine wpAny_bind (wpAny_newList ?_ hz)
  have hoL : (s1.heap.push (seqObj "list" vs.toArray 0)).get? s1.heap.objs.size = some (seqObj "list" vs.toArray 0) := Heap.get?_push_size _ rfl
  refine wpAny_bind (wpAny_holding (wpAny_call_entry slot_list_sort ⟨_, hoL, rfl⟩ entry_list_sort (wpAny_mono h1 (fun fin s2 h2 => ?_) fun _ _ x => x.elim) (args_list_sort _)))
  obtain ⟨rfl, q⟩ := h2
  exact ⟨_, rfl, wpAny_pure ⟨_, rfl, q⟩⟩
theorem collect_src {T : String} {r d : Addr} {n : Nat} {P : Nat → Value → Prop} {OK : Heap → Prop} {R : List Value → Shared → Prop} (K : KdlSrc prog w T r d n P OK) (hh : A.handled = none) (hok : OK s.heap) (hn : n ≤ sizeLine)
    (h : ∀ (h' : Heap) (tk : Nat) (vs : List Value), s.heap.objs.size < h'.objs.size → (∀ b o, s.heap.get? b = some o → h'.get? b = some o) → vs.length = n → (∀ (j : Nat) (v : Value), vs[j]? = some v → P j v) → R vs { s with heap := h', toks := tk }) :
    wpAny (model prog w) A (collect (.ref r)) R E s := by
  have hlt := K.there _ hok
  have hS : (s.heap.push { cls := .type "list", data := .seq ([] : List Value).toArray }).get? s.heap.objs.size = some { cls := .type "list", data := .seq #[] } := Heap.get?_push_size _ rfl
  have key := kdl_extend (A := A) (s := { s with heap := s.heap.push { cls := .type "list", data := .seq ([] : List Value).toArray } }) (R := fun q s' => ∃ (h' : Heap) (tk : Nat) (acc : Array Value) (c : Nat), q = .ok (.ret (.ref s.heap.objs.size)) ∧ s' = { s with heap := h', toks := tk } ∧
      (∀ b o, s.heap.get? b = some o → h'.get? b = some o) ∧ h'.get? s.heap.objs.size = some { cls := .type "list", dict := none, data := .seq acc c, slots := #[] } ∧ ItemsOf P acc n)
    K hh (K.keep _ _ hok fun b _ o e => Heap.get?_push_of_some _ e) s.heap.objs.size (Nat.ne_of_gt hlt.1) (Nat.ne_of_gt hlt.2) (.ref s.heap.objs.size) 0 hS
    (fun h' tk acc c hk hS' hacc => ⟨h', tk, acc, c, rfl, rfl, fun b o e => hk b o (Nat.ne_of_lt (Heap.lt_size e)) (Heap.get?_push_of_some _ e), hS', hacc⟩) hn
  have fin : ∀ (h' : Heap) (tk : Nat) (acc : Array Value) (c : Nat), (∀ b o, s.heap.get? b = some o → h'.get? b = some o) → h'.get? s.heap.objs.size = some { cls := .type "list", dict := none, data := .seq acc c, slots := #[] } → ItemsOf P acc n → R acc.toList { s with heap := h', toks := tk } :=
    fun h' tk acc c hk hS' hacc => h h' tk acc.toList (Heap.lt_size hS') hk (by rw [Array.length_toList]; exact hacc.1) fun j v e => hacc.2 j v (by rw [← Array.getElem?_toList]; exact e)
  unfold collect
  refine wpAny_bind (wpAny_runValue (codeAny_builtin entry_proto_collect' ?_))
  rw [Around.under_plainId PySem.F.plain_proto_collect _]
  show wpAny _ A.in1 (newList [] >>= fun l => again (.builtin "list.__iadd__" ⟨[l, .ref r], []⟩)) _ _ s
  refine wpAny_bind (wpAny_newObj_type (wpAny_pure ⟨plainId_quiet PySem.F.plain_list_iadd _, codeAny_builtin entry_list_iadd' ?_⟩))
  rw [Around.under_plainId PySem.F.plain_list_iadd _]
  refine wpAny_mono key (fun fin' s' x => ?_) fun e s' x => ?_
  · cases fin' with
    | done f =>
      obtain ⟨h', tk, acc, c, e, rfl, hk, hS', hacc⟩ := x
      cases e
      show wpAny _ A (load s.heap.objs.size >>= _) _ _ _
      exact wpAny_bind (wpAny_load hS' (wpAny_pure (fin h' tk acc c hk hS' hacc)))
    | again c1 =>
      refine ⟨x.1, codeAny_mono x.2 fun q s2 y => ?_⟩
      obtain ⟨h', tk, acc, c, rfl, rfl, hk, hS', hacc⟩ := y
      show wpAny _ A (load s.heap.objs.size >>= _) _ _ _
      exact wpAny_bind (wpAny_load hS' (wpAny_pure (fin h' tk acc c hk hS' hacc)))
  · obtain ⟨_, _, _, _, e', _⟩ := x
    cases e'
end
section
variable {prog : Program} {w : World} {A : Around} {E : Value → Shared → Prop} {s : Shared} {κ : Type} [DecidableEq κ] {knd : PySem.KeyKind prog w κ}
theorem collect_items {r d : Addr} {kvs : List (κ × Value)} {ep : Nat} {R : List Value → Shared → Prop} (hh : A.handled = none) (hv : s.heap.IsItemsView r d) (hm : s.heap.DictAt knd d kvs ep) (hn : kvs.length ≤ sizeLine)
    (h : ∀ (h' : Heap) (tk : Nat) (as : List Addr), s.heap.objs.size < h'.objs.size → (∀ b o, s.heap.get? b = some o → h'.get? b = some o) → as.length = kvs.length → KdxG knd kvs s.heap.objs.size h' as → R (as.map Value.ref) { s with heap := h', toks := tk }) :
    wpAny (model prog w) A (collect (.ref r)) R E s := by
  have hr : r < s.heap.objs.size := let ⟨_, ho, _⟩ := hv; Heap.lt_size ho
  have hd : d < s.heap.objs.size := hm.lt_size
  have hS : (s.heap.push { cls := .type "list", data := .seq ([] : List Value).toArray }).get? s.heap.objs.size = some { cls := .type "list", data := .seq #[] } := Heap.get?_push_size _ rfl
  have key := kdx_extend (A := A) (s := { s with heap := s.heap.push { cls := .type "list", data := .seq ([] : List Value).toArray } }) (knd := knd) (kvs := kvs) (ep := ep) (R := fun q s' => ∃ (h' : Heap) (tk : Nat) (acc : Array Value) (c : Nat) (as : List Addr), q = .ok (.ret (.ref s.heap.objs.size)) ∧ s' = { s with heap := h', toks := tk } ∧
      (∀ b o, s.heap.get? b = some o → h'.get? b = some o) ∧ h'.get? s.heap.objs.size = some { cls := .type "list", dict := none, data := .seq acc c, slots := #[] } ∧ as.length = kvs.length ∧ KdxG knd kvs s.heap.objs.size h' as ∧ acc.toList = as.map Value.ref)
    hh (let ⟨o, ho, x⟩ := hv; ⟨o, Heap.get?_push_of_some _ ho, x⟩) (hm.push _) s.heap.objs.size (Nat.ne_of_gt hr) (Nat.ne_of_lt hd) (.ref s.heap.objs.size) 0 hS
    (fun h' tk acc c as hk hS' hl hG hacc => ⟨h', tk, acc, c, as, rfl, rfl, fun b o e => hk b o (Nat.ne_of_lt (Heap.lt_size e)) (Heap.get?_push_of_some _ e), hS', hl, hG.low (by show s.heap.objs.size ≤ (s.heap.push _).objs.size; rw [Heap.size_push]; (first | lia | omega)), hacc⟩) hn
  have fin : ∀ (h' : Heap) (tk : Nat) (acc : Array Value) (c : Nat) (as : List Addr), (∀ b o, s.heap.get? b = some o → h'.get? b = some o) → h'.get? s.heap.objs.size = some { cls := .type "list", dict := none, data := .seq acc c, slots := #[] } → as.length = kvs.length → KdxG knd kvs s.heap.objs.size h' as → acc.toList = as.map Value.ref → R acc.toList { s with heap := h', toks := tk } :=
    fun h' tk acc c as hk hS' hl hG hacc => by rw [hacc]; exact h h' tk as (Heap.lt_size hS') hk hl hG
  unfold collect
  refine wpAny_bind (wpAny_runValue (codeAny_builtin entry_proto_collect' ?_))
  rw [Around.under_plainId PySem.F.plain_proto_collect _]
  show wpAny _ A.in1 (newList [] >>= fun l => again (.builtin "list.__iadd__" ⟨[l, .ref r], []⟩)) _ _ s
  refine wpAny_bind (wpAny_newObj_type (wpAny_pure ⟨plainId_quiet PySem.F.plain_list_iadd _, codeAny_builtin entry_list_iadd' ?_⟩))
  rw [Around.under_plainId PySem.F.plain_list_iadd _]
  refine wpAny_mono key (fun fin' s' x => ?_) fun e s' x => ?_
  · cases fin' with
    | done f =>
      obtain ⟨h', tk, acc, c, as, e, rfl, hk, hS', hl, hG, hacc⟩ := x
      cases e
      show wpAny _ A (load s.heap.objs.size >>= _) _ _ _
      exact wpAny_bind (wpAny_load hS' (wpAny_pure (fin h' tk acc c as hk hS' hl hG hacc)))
    | again c1 =>
      refine ⟨x.1, codeAny_mono x.2 fun q s2 y => ?_⟩
      obtain ⟨h', tk, acc, c, as, rfl, rfl, hk, hS', hl, hG, hacc⟩ := y
      show wpAny _ A (load s.heap.objs.size >>= _) _ _ _
      exact wpAny_bind (wpAny_load hS' (wpAny_pure (fin h' tk acc c as hk hS' hl hG hacc)))
  · obtain ⟨_, _, _, _, _, e', _⟩ := x
    cases e'
end
theorem vals_of : ∀ {xs : List V} {us : List Value}, us.length = xs.length → (∀ (j : Nat) (x : V) (u : Value), xs[j]? = some x → us[j]? = some u → RelV x u) → Vals xs us
  | [], [], _, _ => .nil
  | [], _ :: _, h, _ => by simp at h
  | _ :: _, [], h, _ => by simp at h
  | x :: xs, u :: us, h, r => .cons (r 0 x u rfl rfl) (vals_of (by simpa using h) fun j y v e1 e2 => r (j + 1) y v (by simpa using e1) (by simpa using e2))
theorem relK {k : Key} {v : Value} (h : keyIs k v = true) : RelV (kV k) v := by
  rcases keyIs_shape h with ⟨i, t, rfl, rfl⟩ | ⟨x, t, rfl, rfl⟩
  · exact ⟨t, rfl⟩
  · exact ⟨t, rfl⟩
section
variable {X : Cx} {pins : List (Addr × Obj)} {σ : St} {H : Hp} {s : Shared}
theorem Inv.freshA (I : Inv X pins σ H s) {a : Addr} (h : s.heap.objs.size ≤ a) : X.s₀.heap.objs.size ≤ a ∧ a ≠ X.env.locals ∧ (∀ x c, X.env.cells.lookup x = some c → c ≠ a) ∧ ∀ p ∈ X.pn ++ pins, p.1 ≠ a := by
  refine ⟨Nat.le_trans I.sz h, Nat.ne_of_gt (Nat.lt_of_lt_of_le I.lt h), fun x c e => ?_, fun p hp => Nat.ne_of_lt (Nat.lt_of_lt_of_le (Heap.lt_size (I.pin p hp).1) h)⟩
  obtain ⟨v, hc⟩ := I.cell x c e
  obtain ⟨o, ho, _⟩ := hc
  exact Nat.ne_of_lt (Nat.lt_of_lt_of_le (Heap.lt_size ho) h)
theorem keys_vals {kvs : List (Key × V)} {vs : List (Key × Value)} {us : List Value} (rel : KV kvs vs) (hl : us.length = vs.length) (h : ∀ (j : Nat) (v : Value), us[j]? = some v → ∃ k x, vs[j]? = some (k, x) ∧ (mixKind X.prog X.w).is k v = true) : Vals (kvs.map fun p => kV p.1) us := by
  refine vals_of (by rw [List.length_map, hl, ← rel.length]) fun j x u e1 e2 => ?_
  obtain ⟨k, y, e3, hk⟩ := h j u e2
  have ek := rel.keys
  have e4 : (kvs.map (·.1))[j]? = some k := by rw [ek, List.getElem?_map, e3]; rfl
  rw [List.getElem?_map] at e1 e4
  cases q : kvs[j]? with
  | none => rw [q] at e1; cases e1
  | some p =>
    rw [q] at e1 e4
    cases e1
    cases e4
    exact relK hk
theorem call_listD (hc : X.calm = true) : CallR X (.type "list") (fun xs H Q => ∃ d kvs, xs = [.ref d] ∧ Rd H d (.dK kvs) ∧ ∀ l, H l = none → Q (.ref l) (upd H l (.lst (kvs.map fun p => kV p.1)))) := by
  intro pins s σ H xs us Q I r h
  obtain ⟨d, kvs, rfl, e, q⟩ := h
  obtain ⟨u, rfl, rx⟩ := vals1 r
  cases rx
  obtain ⟨z, hd, vs, rel, dd⟩ := dk_rd I.hok e
  obtain ⟨ep, da⟩ := dd.dictAt
  have hz : vs.length ≤ sizeLine := by rw [← rel.length]; exact z
  refine kdl_call (kdl_dict (knd := mixKind X.prog X.w) hd) (I.ok.hd hc) da hz fun h' tk acc c kp hg hacc => ?_
  have hv : Vals (kvs.map fun p => kV p.1) acc.toList := keys_vals (X := X) rel (by rw [Array.length_toList]; exact hacc.1) fun j v e => hacc.2 j v (by rw [← Array.getElem?_toList]; exact e)
  refine ⟨.ref s.heap.objs.size, _, I.laid (t' := tk) kp (Nat.le_refl _) (show ObjOk X.prog X.w _ h' _ (.lst (kvs.map fun p => kV p.1)) from ⟨by rw [List.length_map]; exact z, acc.toList, c, hv, ?_⟩), rfl, q _ I.fresh⟩
  rw [Array.toArray_toList]
  exact hg
theorem call_sortedI : CallR X (.builtin "sorted") (fun xs H Q => ∃ p ns, xs = [.ref p] ∧ SqL X.K H p (ns.map V.int) ∧ ns.length < 64 ∧ ∀ (l : Addr) (ns' : List Int), H l = none → ns'.Perm ns → ns'.Pairwise (· ≤ ·) → Q (.ref l) (upd H l (.lst (ns'.map V.int)))) := by
  intro pins s σ H xs us Q I r h
  obtain ⟨p, ns, rfl, hq, h64, q⟩ := h
  obtain ⟨u, rfl, rx⟩ := vals1 r
  cases rx
  obtain ⟨its, r', pl, hz⟩ := I.list hq
  have hI := intsAre_of r'
  have hlen := r'.length
  rw [List.length_map] at hlen
  refine sorted_ints pl.isList hI (by (first | lia | omega)) fun out ns' h1 h2 h3 => ?_
  obtain ⟨e, hat⟩ := sortedAll_at s.heap its out
  refine ⟨.ref (s.heap.objs.size + 1), _, I.laid (a := s.heap.objs.size + 1) (o := .lst (ns'.map V.int)) (t' := s.toks) (fun b o e => sortedAll_old e) (Nat.le_succ _) ⟨?_, out.toList, e, vals_ints h1, ?_⟩, rfl, q _ ns' (I.hok.fresh (Nat.le_succ _)) h2 h3⟩
  · rw [List.length_map, h2.length_eq, sizeLine_eq]
    (first | lia | omega)
  · rw [Array.toArray_toList]
    exact hat
theorem call_sortedD (hc : X.calm = true) : CallR X (.builtin "sorted") (fun xs H Q => ∃ (d : Addr) (kvs : List (Key × V)) (ns : List Int), xs = [.ref d] ∧ Rd H d (.dK kvs) ∧ (kvs.map fun p => kV p.1) = ns.map V.int ∧ ns.length < 64 ∧ ∀ (l : Addr) (ns' : List Int), H l = none → ns'.Perm ns → ns'.Pairwise (· ≤ ·) → Q (.ref l) (upd H l (.lst (ns'.map V.int)))) := by
  intro pins s σ H xs us Q I r h
  obtain ⟨d, kvs, ns, rfl, e, en, h64, q⟩ := h
  obtain ⟨u, rfl, rx⟩ := vals1 r
  cases rx
  obtain ⟨z, hd, vs, rel, dd⟩ := dk_rd I.hok e
  obtain ⟨ep, da⟩ := dd.dictAt
  have hl : kvs.length = ns.length := by have := congrArg List.length en; simpa using this
  refine sorted_call (collect_src (kdl_dict (knd := mixKind X.prog X.w) hd) (I.ok.hd hc) da (by rw [← rel.length]; exact z) fun h1 tk us hsz' kp hul hat => ?_)
  have hsz : s.heap.objs.size ≤ h1.objs.size := Nat.le_of_lt hsz'
  have hv : Vals (ns.map V.int) us := by rw [← en]; exact keys_vals (X := X) rel hul hat
  have hI := intsAre_of hv
  have hus : us.length = ns.length := by rw [hul, ← rel.length, hl]
  refine ⟨by rw [hus, sizeLine_eq]; (first | lia | omega), ?_⟩
  have hoL : (h1.push (seqObj "list" us.toArray 0)).get? h1.objs.size = some (seqObj "list" us.toArray 0) := Heap.get?_push_size _ rfl
  refine list_sort_tree (s := { s with heap := h1.push (seqObj "list" us.toArray 0), toks := tk }) hoL hI (by (first | lia | omega)) fun out ns' a1 a2 a3 => ⟨rfl, ?_⟩
  obtain ⟨e2, hat2⟩ := sortedHeap_at (out := out) hoL
  refine ⟨.ref h1.objs.size, _, I.laid (a := h1.objs.size) (o := .lst (ns'.map V.int)) (t' := tk) (fun b o e => ?_) hsz ⟨?_, out.toList, e2, vals_ints a1, ?_⟩, rfl, q _ ns' (I.hok.fresh hsz) a2 a3⟩
  · have hb := kp b o e
    have hlt := Heap.lt_size hb
    show (sortedHeap (h1.push (seqObj "list" us.toArray 0)) h1.objs.size us out).get? b = some o
    rw [sortedHeap_old (Nat.ne_of_lt hlt) (by rw [size_push']; exact Nat.lt_succ_of_lt hlt)]
    exact Heap.get?_push_of_some _ hb
  · rw [List.length_map, a2.length_eq, sizeLine_eq]
    (first | lia | omega)
  · rw [Array.toArray_toList]
    exact hat2
end
end L2
set_option Elab.async false
set_option linter.all false
set_option maxRecDepth 100000
namespace L2
open PySem PySem.Spec PyProof.Rows PySem.W
noncomputable def eKV (e : Str × Int) : Key × V := (Sum.inr e.1, .int e.2)
noncomputable def e0 : Str × Int := (Str.empty, 0)
noncomputable def pairLt (a b : Str × Int) : Bool := if a.1 = b.1 then (if a.2 = b.2 then false else decide (a.2 < b.2)) else decide (a.1.cps.toList < b.1.cps.toList)
noncomputable def ltE (es : List (Str × Int)) (i j : Nat) : Bool := pairLt (es.getD i e0) (es.getD j e0)
noncomputable def sortE (es : List (Str × Int)) : List (Str × Int) := (sortP es.length (ltE es)).map fun i => es.getD i e0
theorem paired_get {α β : Type} {R : α → β → Prop} : ∀ {xs : List α} {ys : List β} {j : Nat} {x : α} {y : β}, Paired R xs ys → xs[j]? = some x → ys[j]? = some y → R x y
  | _, _, _, _, _, .nil, e, _ => by simp at e
  | _, _, 0, _, _, .cons r _, e, f => by simp at e f; subst e; subst f; exact r
  | _, _, j + 1, _, _, .cons _ t, e, f => paired_get (j := j) t (by simpa using e) (by simpa using f)
noncomputable def viewI (v d : Addr) : HO := .ext fun h => h.IsItemsView v d
section
variable {X : Cx} {pins : List (Addr × Obj)} {σ : St} {H : Hp} {s : Shared}
theorem mt_items : MtR X "dict.items" (fun x vs H Q => ∃ d kvs, x = .ref d ∧ vs = [] ∧ H d = some (.dK kvs) ∧ ∀ v, H v = none → Q (.ref v) (upd H v (viewI v d))) := by
  intro pins s σ H x vs v us Q I rx rv h
  obtain ⟨d, kvs, rfl, rfl, e, q⟩ := h
  cases rx
  cases rv.zero
  obtain ⟨z, hd, ws, rel, dd⟩ := dk_of I.hok e
  refine call_meetsIn PySem.F.slot_dict_items dd.typeIs PySem.F.entry_dict_items (PySem.F.args_dict_items_1 _) (meets_dict_items (mixKind X.prog X.w) d hd) ⟨⟨ws, dd⟩, ?_⟩
  have hat : (s.heap.push { cls := .type "dict_items", data := .fields #[.ref d] }).get? s.heap.objs.size = some { cls := .type "dict_items", data := .fields #[.ref d] } := Heap.get?_push_size _ rfl
  refine ⟨.ref s.heap.objs.size, _, I.laid (t' := s.toks) (o := viewI s.heap.objs.size d) (fun _ _ q => Heap.get?_push_of_some _ q) (Nat.le_refl _) ⟨⟨_, hat, rfl, rfl⟩, ⟨_, hat⟩, fun h1 h2 f k => ?_⟩, rfl, q _ I.fresh⟩
  obtain ⟨o, ho, r⟩ := f
  exact ⟨o, k o ho, r⟩
theorem Inv.tups {s1 : Shared} : ∀ (l : List (Addr × List V)) {H : Hp}, Inv X pins σ H s1 → (∀ p ∈ l, (X.s₀.heap.objs.size ≤ p.1 ∧ p.1 ≠ X.env.locals ∧ (∀ x c, X.env.cells.lookup x = some c → c ≠ p.1) ∧ ∀ r ∈ X.pn ++ pins, r.1 ≠ p.1) ∧ H p.1 = none ∧ p.2.length ≤ sizeLine ∧ ∃ its, Vals p.2 its ∧ IsTup s1.heap p.1 its.toArray) → (l.map (·.1)).Nodup →
    ∃ H', Inv X pins σ H' s1 ∧ Same H H' ∧ ∀ p ∈ l, H' p.1 = some (.tup p.2)
  | [], H, I, _, _ => ⟨H, I, Same.refl H, fun _ h => nomatch h⟩
  | p :: l, H, I, h, nd => by
    obtain ⟨⟨f1, f2, f3, f4⟩, hn, hz, its, hv, ht⟩ := h p (.head _)
    have nd' := List.nodup_cons.mp nd
    have I1 := I.track (o := .tup p.2) f1 hn f2 f3 f4 ⟨hz, its, hv, ht⟩
    obtain ⟨H', I', sm, at'⟩ := Inv.tups l I1 (fun q hq => by
      obtain ⟨a1, a2, a3⟩ := h q (.tail _ hq)
      have hne : q.1 ≠ p.1 := fun e => nd'.1 (List.mem_map.mpr ⟨q, hq, e⟩)
      exact ⟨a1, by rw [upd_ne hne]; exact a2, a3⟩) nd'.2
    refine ⟨H', I', fun b o e => sm b o (by rw [upd_ne (ne_of_none e hn)]; exact e), fun q hq => ?_⟩
    rcases List.mem_cons.mp hq with rfl | hq
    · exact sm _ _ upd_same
    · exact at' q hq
theorem lex_pair {prog : Program} {w : World} {A : Around} {C : Bool → Shared → Prop} {s' : Shared} {a b : Str} {t u t' u' : Tok} {m n : Int} {fin : Bool} (hf : fin = false) (h : C (pairLt (a, m) (b, n)) s') :
    KatLex prog w A true fin C [(.str a t, .str b u), (.int m t', .int n u')] 0 s' := by
  subst hf
  refine kat_cons ((mixKind prog w).eqBool (a := .inr a) (b := .inr b) (mixKind_str prog w a t) (mixKind_str prog w b u) ?_)
  rw [key_rr]
  by_cases e : a = b
  · subst e
    rw [decide_eq_true rfl]
    refine kat_yes (kat_cons ((mixKind prog w).eqBool (a := .inl m) (b := .inl n) (mixKind_int prog w m t') (mixKind_int prog w n u') ?_))
    rw [key_ll]
    by_cases e2 : m = n
    · subst e2
      rw [beq_self_eq_true]
      refine kat_yes (kat_nil ?_)
      simpa [pairLt] using h
    · rw [beq_eq_false_iff_ne.mpr e2]
      refine kat_no ?_
      refine kat_one _ _ (lt_int ?_)
      show C (decide (m < n)) s'
      simpa [pairLt, e2] using h
  · rw [decide_eq_false e]
    refine kat_no ?_
    refine oneLt_str ?_
    simpa [pairLt, e] using h
theorem tups_firsts {h : Heap} : ∀ as : List Addr, (∀ a ∈ as, ∃ x t y, h.get? a = some { cls := .type "tuple", data := .seq #[.str x t, y] }) → ∃ fs, KatTups h (as.map Value.ref) fs ∧ fs.length = as.length ∧ ∀ f ∈ fs, ∃ x t, f = Value.str x t
  | [], _ => ⟨[], .nil, rfl, fun _ h => nomatch h⟩
  | a :: as, h0 => by
    obtain ⟨fs, r, hl, hs⟩ := tups_firsts as fun b hb => h0 b (.tail _ hb)
    obtain ⟨x, t, y, e⟩ := h0 a (.head _)
    refine ⟨.str x t :: fs, KatTups.cons e rfl rfl rfl r, by rw [List.length_cons, List.length_cons, hl], fun f hf => ?_⟩
    rcases List.mem_cons.mp hf with rfl | hf
    · exact ⟨x, t, rfl⟩
    · exact hs f hf
theorem call_sortedItems (hc : X.calm = true) : CallR X (.builtin "sorted") (fun xs H Q => ∃ (v d : Addr) (es : List (Str × Int)), xs = [.ref v] ∧ H v = some (viewI v d) ∧ H d = some (.dK (es.map eKV)) ∧ es.length < 64 ∧
    ∀ (H' : Hp) (l : Addr) (ts : List Addr), Same H H' → H l = none → H' l = some (.lst (ts.map V.ref)) → ts.length = (sortE es).length → (∀ (j : Nat) a e, ts[j]? = some a → (sortE es)[j]? = some e → H' a = some (.tup [.str e.1, .int e.2])) → Q (.ref l) H') := by
  intro pins s σ H xs us Q I r h
  obtain ⟨v, d, es, rfl, ev, ed, h64, q⟩ := h
  obtain ⟨u, rfl, rx⟩ := vals1 r
  cases rx
  obtain ⟨z, hd, ws, rel, dd⟩ := dk_of I.hok ed
  obtain ⟨ep, da⟩ := dd.dictAt
  have hw : ws.length = es.length := by rw [← rel.length, List.length_map]
  have hview : s.heap.IsItemsView v d := (I.hok v _ ev).1
  refine sorted_call (collect_items (knd := mixKind X.prog X.w) (I.ok.hd hc) hview da (by rw [hw, sizeLine_eq]; (first | lia | omega)) fun h1 tk as hsz kp hal hG => ?_)
  rw [hw] at hal
  -- each tuple
  have pr : ∀ (j : Nat) a, as[j]? = some a → ∃ e t t', es[j]? = some e ∧ h1.get? a = some { cls := .type "tuple", data := .seq #[.str e.1 t, .int e.2 t'] } := fun j a ea => by
    obtain ⟨key, k, x, e1, hk, hg⟩ := hG.pairs j a ea
    have e2 : (es.map eKV)[j]? = none ∨ ∃ p, (es.map eKV)[j]? = some p := by cases (es.map eKV)[j]? <;> simp
    rcases e2 with e2 | ⟨p, e2⟩
    · have : j < ws.length := by
        rcases Nat.lt_or_ge j ws.length with g | g
        · exact g
        · rw [List.getElem?_eq_none g] at e1; cases e1
      rw [List.getElem?_eq_none_iff, List.length_map] at e2
      (first | lia | omega)
    · have := paired_get rel e2 e1
      rw [List.getElem?_map] at e2
      cases e3 : es[j]? with
      | none => rw [e3] at e2; cases e2
      | some e =>
        rw [e3] at e2
        cases e2
        obtain ⟨ek, ⟨t', ex⟩⟩ := this
        subst ex
        cases (show k = Sum.inr e.1 from ek.symm)
        rcases keyIs_shape (show keyIs (Sum.inr e.1) key = true from hk) with ⟨i, t, e5, _⟩ | ⟨y, t, e5, rfl⟩
        · cases e5
        · cases e5
          exact ⟨e, t, t', rfl, hg⟩
  have hB : h1.objs.size ≤ h1.objs.size := Nat.le_refl _
  have hoL : (h1.push (seqObj "list" (as.map Value.ref).toArray 0)).get? h1.objs.size = some (seqObj "list" (as.map Value.ref).toArray 0) := Heap.get?_push_size _ rfl
  have hlen : (as.map Value.ref).length = es.length := by rw [List.length_map, hal]
  have kp2 : ∀ (s' : Shared), (∀ b o, b ≠ h1.objs.size → (h1.push (seqObj "list" (as.map Value.ref).toArray 0)).get? b = some o → s'.heap.get? b = some o) → ∀ b o, h1.get? b = some o → s'.heap.get? b = some o := fun s' k b o e => k b o (Nat.ne_of_lt (Heap.lt_size e)) (Heap.get?_push_of_some _ e)
  refine ⟨by rw [hlen, sizeLine_eq]; (first | lia | omega), ?_⟩
  refine sort_data (s := { s with heap := h1.push (seqObj "list" (as.map Value.ref).toArray 0), toks := tk }) (κ := tuples' true) (lt := ltE es) hoL (by (first | lia | omega)) (fun h2 s' k Q' hq => ?_) (fun i j hi hj s' k C hC => ?_) ⟨rfl, ?_⟩
  · obtain ⟨fs, kt, hfl, hfs⟩ := tups_firsts (h := s'.heap) as fun a ha => by
      obtain ⟨j, ea⟩ := List.mem_iff_getElem?.mp ha
      obtain ⟨e, t, t', _, hg⟩ := pr j a ea
      exact ⟨e.1, t, _, kp2 s' k _ _ hg⟩
    refine kat_kind (T := .type "str") kt (by rw [hfl, hal]; (first | lia | omega)) (fun f hf => ?_) (by decide) hq
    obtain ⟨x, t, rfl⟩ := hfs f hf
    exact .now
  · rw [hlen] at hi hj
    have gi : ∃ a, as[i]? = some a := ⟨as[i]'(by (first | lia | omega)), List.getElem?_eq_getElem _⟩
    have gj : ∃ a, as[j]? = some a := ⟨as[j]'(by (first | lia | omega)), List.getElem?_eq_getElem _⟩
    obtain ⟨ai, ei⟩ := gi
    obtain ⟨aj, ej⟩ := gj
    obtain ⟨e, t, t', ee, hg⟩ := pr i ai ei
    obtain ⟨f, u, u', ef, hg'⟩ := pr j aj ej
    have v1 : (as.map Value.ref).getD i Value.none = .ref ai := by rw [List.getD_eq_getElem?_getD, List.getElem?_map, ei]; rfl
    have v2 : (as.map Value.ref).getD j Value.none = .ref aj := by rw [List.getD_eq_getElem?_getD, List.getElem?_map, ej]; rfl
    rw [v1, v2]
    refine kat_lt (kp2 s' k _ _ hg) rfl (kp2 s' k _ _ hg') rfl ?_
    refine lex_pair (by show decide ((2 : Nat) < 2) = false; rfl) ?_
    have w1 : es.getD i e0 = e := by rw [List.getD_eq_getElem?_getD, ee]; rfl
    have w2 : es.getD j e0 = f := by rw [List.getD_eq_getElem?_getD, ef]; rfl
    have : C (pairLt (es.getD i e0) (es.getD j e0)) s' := hC
    rw [w1, w2] at this
    exact this
  · rw [hlen]
    obtain ⟨e2, hat2⟩ := sortedHeap_at (out := ((sortP es.length (ltE es)).map fun i => (as.map Value.ref).getD i Value.none).toArray) hoL
    have kept : ∀ b o, h1.get? b = some o → (sortedHeap (h1.push (seqObj "list" (as.map Value.ref).toArray 0)) h1.objs.size (as.map Value.ref) ((sortP es.length (ltE es)).map fun i => (as.map Value.ref).getD i Value.none).toArray).get? b = some o := fun b o hb => by
      have hlt := Heap.lt_size hb
      rw [sortedHeap_old (Nat.ne_of_lt hlt) (by rw [size_push']; exact Nat.lt_succ_of_lt hlt)]
      exact Heap.get?_push_of_some _ hb
    have z1 : (((sortP es.length (ltE es)).map fun i => as.getD i 0).map V.ref).length ≤ sizeLine := by
      rw [List.length_map, List.length_map]
      have : (sortP es.length (ltE es)).length = es.length := by
        unfold sortP
        split
        · simp
        · exact sort_len (by (first | lia | omega))
      rw [this, sizeLine_eq]
      (first | lia | omega)
    have z2 : Vals (((sortP es.length (ltE es)).map fun i => as.getD i 0).map V.ref) ((sortP es.length (ltE es)).map fun i => (as.map Value.ref).getD i Value.none) := by
      refine vals_of (by rw [List.length_map, List.length_map, List.length_map]) fun j x u ex eu => ?_
      rw [List.map_map, List.getElem?_map] at ex
      rw [List.getElem?_map] at eu
      cases g : (sortP es.length (ltE es))[j]? with
      | none => rw [g] at ex; cases ex
      | some i =>
        rw [g] at ex eu
        cases ex
        cases eu
        have hi : i < es.length := sortP_lt (List.mem_of_getElem? g)
        have b1 : as[i]? = some (as[i]'(by (first | lia | omega))) := List.getElem?_eq_getElem _
        show (as.map Value.ref).getD i Value.none = Value.ref (as.getD i 0)
        rw [List.getD_eq_getElem?_getD, List.getElem?_map, b1, List.getD_eq_getElem?_getD, b1]
        rfl
    have I1 := I.laid (a := h1.objs.size) (o := .lst (((sortP es.length (ltE es)).map fun i => as.getD i 0).map V.ref)) (t' := tk) (fun b o e => kept b o (kp b o e)) (Nat.le_of_lt hsz) ⟨z1, _, e2, z2, hat2⟩
    have y1 : ∀ p ∈ ((as.zip es).map fun p : Addr × (Str × Int) => (p.1, [V.str p.2.1, V.int p.2.2])), (X.s₀.heap.objs.size ≤ p.1 ∧ p.1 ≠ X.env.locals ∧ (∀ x c, X.env.cells.lookup x = some c → c ≠ p.1) ∧ ∀ r ∈ X.pn ++ pins, r.1 ≠ p.1) ∧ upd H h1.objs.size (.lst (((sortP es.length (ltE es)).map fun i => as.getD i 0).map V.ref)) p.1 = none ∧ p.2.length ≤ sizeLine ∧
        ∃ its, Vals p.2 its ∧ IsTup (sortedHeap (h1.push (seqObj "list" (as.map Value.ref).toArray 0)) h1.objs.size (as.map Value.ref) ((sortP es.length (ltE es)).map fun i => (as.map Value.ref).getD i Value.none).toArray) p.1 its.toArray := fun p hp => by
      obtain ⟨⟨a, e⟩, hm, rfl⟩ := List.mem_map.mp hp
      obtain ⟨j, hj⟩ := List.mem_iff_getElem?.mp hm
      have hj' := List.getElem?_zip_eq_some.mp hj
      obtain ⟨f, t, t', ef, hg⟩ := pr j a hj'.1
      rw [hj'.2] at ef
      cases ef
      have hlo := hG.above a (List.mem_of_getElem? hj'.1)
      have hne : a ≠ h1.objs.size := Nat.ne_of_lt (Heap.lt_size hg)
      exact ⟨I.freshA (Nat.le_of_lt hlo), by rw [upd_ne hne]; exact I.hok.fresh (Nat.le_of_lt hlo), by show 2 ≤ sizeLine; decide, [.str e.1 t, .int e.2 t'], .cons ⟨t, rfl⟩ (.cons ⟨t', rfl⟩ .nil), _, kept _ _ hg, rfl, 0, rfl⟩
    have y2 : (((as.zip es).map fun p : Addr × (Str × Int) => (p.1, [V.str p.2.1, V.int p.2.2])).map (·.1)).Nodup := by
      rw [List.map_map]
      have e1 : List.map ((fun x => x.1) ∘ fun p : Addr × (Str × Int) => (p.1, [V.str p.2.1, V.int p.2.2])) (as.zip es) = as := by
        show List.map (fun p => p.1) (as.zip es) = as
        exact List.map_fst_zip (by (first | lia | omega))
      rw [e1]
      exact hG.rise.imp Nat.ne_of_lt
    obtain ⟨H', I', sm, at'⟩ := Inv.tups (X := X) (pins := pins) (σ := σ) _ I1 y1 y2
    have hn : H h1.objs.size = none := I.hok.fresh (Nat.le_of_lt hsz)
    refine ⟨.ref h1.objs.size, H', I', rfl, q H' _ _ (fun b o e => sm b o (by rw [upd_ne (ne_of_none e hn)]; exact e)) hn (sm _ _ upd_same) (by rw [sortE, List.length_map, List.length_map]) fun j a e ea ee => ?_⟩
    rw [List.getElem?_map] at ea
    rw [sortE, List.getElem?_map] at ee
    cases g : (sortP es.length (ltE es))[j]? with
    | none => rw [g] at ea; cases ea
    | some i =>
      rw [g] at ea ee
      have hi : i < es.length := sortP_lt (List.mem_of_getElem? g)
      have b1 : as[i]? = some a := by
        rw [List.getElem?_eq_getElem (by (first | lia | omega))]
        have : as.getD i 0 = as[i]'(by (first | lia | omega)) := by simp [show i < as.length by (first | lia | omega)]
        rw [← this]; exact ea
      have b2 : es[i]? = some e := by
        rw [List.getElem?_eq_getElem hi]
        have : es.getD i e0 = es[i] := by simp [hi]
        rw [← this]; exact ee
      exact at' (a, [.str e.1, .int e.2]) (List.mem_map.mpr ⟨(a, e), List.mem_of_getElem? (zip_get b1 b2), rfl⟩)
end
end L2
set_option Elab.async false
set_option linter.all false
set_option maxRecDepth 100000
namespace L2
open PySem PySem.Spec PyProof.Rows PySem.W
section
variable {X : Cx}
noncomputable def tFstr (x : Str) (te : TE) : TE := fun σ H Q => x.length ≤ 1000 ∧ te σ H fun y H1 => ∃ i : Int, y = .int i ∧ i.natAbs.log2 < 1920 ∧ x.length + (toString i : Str).length ≤ sizeLine ∧ Q (.str (x ++ toString i)) H1
theorem empty_app (x : Str) : Str.empty ++ x = x := by
  apply str_ext
  rw [str_app]
  rfl
theorem pe_fstr {x : Str} {j : Nat} {e : Expr} {p1 p2 pos : Pos} {te : TE} (he : PE X e te) : PE X (.JoinedStr [.Constant (.str x) j p1, .FormattedValue e (-1) none p2] pos) (tFstr x te) := by
  intro pins s σ H Q I h
  refine JoinedStr_many (joinParts_cons (Calls.Constant_str ?_))
  have I0 : Inv X pins σ H { s with toks := s.toks + 1 } := I.tok _
  refine ⟨by rw [empty_app]; exact Nat.le_of_lt (small1000 h.1), ?_⟩
  rw [empty_app]
  refine joinParts_cons (PyProof.Rows.FormattedValue_plain (thn (he pins _ σ H _ I0 h.2) fun v s1 hv => ?_))
  obtain ⟨y, H1, I1, ry, i, rfl, hi, hz, q⟩ := hv
  obtain ⟨t, rfl⟩ := ry
  have hz' : (x ++ (toString i : Str)).length ≤ sizeLine := by rw [Str.length_append]; exact hz
  refine PyProof.Rows.formatField_int_small hi ⟨hz', joinParts_nil ?_ hz'⟩
  exact ⟨.str (x ++ toString i), H1, I1.tok _, ⟨_, rfl⟩, q⟩
structure KTab (K : PySem.W.Frag) (w : World) (a : Addr) (rows : List (Str × List V)) : Prop where
  tab : ∃ (es : Array DictEntry) (n : Nat), K.lookup a = some ⟨.type "dict", none, .dict es n, #[]⟩ ∧ KeysLit w.params es.toList
  at_ : ∀ (x : Str) (vs : List V), (x, vs) ∈ rows → ∃ t, nsIn K a x = some (some (.ref t)) ∧ ∀ H, SqT K H t vs
noncomputable def rKTab (K : PySem.W.Frag) (w : World) : R2 := fun x y H Q => ∃ (a : Addr) (rows : List (Str × List V)) (z : Str) (vs : List V), x = .ref a ∧ y = .str z ∧ KTab K w a rows ∧ (z, vs) ∈ rows ∧ ∀ t, SqT K H t vs → Q (.ref t) H
theorem ix_ktab : IxR X (rKTab X.K X.w) := by
  intro value slice pins s σ H x y v u Q I rx ry h hs
  obtain ⟨a, rows, z, vs, rfl, rfl, T, hm, q⟩ := h
  cases rx
  obtain ⟨t, rfl⟩ := ry
  obtain ⟨es, n, hl, hk⟩ := T.tab
  obtain ⟨b, hn, hb⟩ := T.at_ z vs hm
  obtain ⟨m, F⟩ := I.fr
  exact topItem_K F I.mod.kin hl hk hn ⟨.ref b, H, I.tok _, rfl, q b (hb H)⟩ hs
theorem mt_strip : MtR X "str.strip" (fun x vs H Q => ∃ a b, x = .str a ∧ vs = [.str b] ∧ a.length ≤ sizeLine ∧ Q (.str (Txt.stripChars a b)) H) := by
  intro pins s σ H x vs v us Q I rx rv h
  obtain ⟨a, b, rfl, rfl, hz, q⟩ := h
  obtain ⟨t, rfl⟩ := rx
  obtain ⟨u, rfl, ru⟩ := rv.one
  obtain ⟨t2, rfl⟩ := ru
  exact SC.stripChars (fun t' k => ⟨.str (Txt.stripChars a b), H, I.tok _, ⟨_, rfl⟩, q⟩) hz
end
end L2
set_option Elab.async false
set_option linter.all false
set_option maxRecDepth 100000
namespace L2
open PySem PySem.Spec PyProof.Rows PySem.W
structure Nx (prog : Program) (w : World) (it l : Addr) (xs : Array Value) (R : Nat → Heap → Prop) : Prop where
  obj : ∀ k h, R k h → ∃ o, h.get? it = some o ∧ ∀ v, o.data ≠ .cell v
  keep : ∀ k (h h' : Heap), R k h → (∀ o, h.get? it = some o → h'.get? it = some o) → (∀ o, h.get? l = some o → h'.get? l = some o) → R k h'
  item : ∀ (A : Around) (E : Value → Shared → Prop) (s : Shared) (k : Nat) (x : Value) (Q : Value → Shared → Prop), R k s.heap → xs[k]? = some x → (∀ h', R (k + 1) h' → Heap.SameBut it s.heap h' → Q x { s with heap := h' }) → wpAny (model prog w) A (Builtin.SmallTypes.nextOf (.ref it)) Q E s
  fin : ∀ (A : Around) (E : Value → Shared → Prop) (s : Shared) (k : Nat) (Q : Value → Shared → Prop), A.handled = none → R k s.heap → xs[k]? = none → (∀ h' e, Heap.ExtBut it s.heap h' → (∃ o, h'.get? e = some o ∧ o.cls = .type "StopIteration") → E (.ref e) { s with heap := h' }) → wpAny (model prog w) A (Builtin.SmallTypes.nextOf (.ref it)) Q E s
section
variable {prog : Program} {w : World} {A : Around} {E : Value → Shared → Prop} {s : Shared}
theorem nx_list {it l : Addr} (hne : l ≠ it) (xs : Array Value) : Nx prog w it l xs (fun k h => h.IsListIter it l k ∧ h.IsList l xs) where
  obj := fun k h ⟨⟨o, ho, _, hd⟩, _⟩ => ⟨o, ho, fun v e => by rw [hd] at e; cases e⟩
  keep := fun k h h' ⟨a, b⟩ k1 k2 => ⟨a.at fun o e => k1 o e, b.at fun o e => k2 o e⟩
  item := fun A E s k x Q ⟨a, b⟩ hx hQ => wpAny_nextOf_list_item a b hx fun h' a' sb => hQ h' ⟨a', b.extBut sb.extBut hne⟩ sb
  fin := fun A E s k Q hh ⟨a, b⟩ hx hE => wpAny_nextOf_list_end hh a b hx hE
theorem nextTup {it t : Addr} {i : Nat} {items : Array Value} {x : Value} {Q : Value → Shared → Prop} (hit : s.heap.IsTupleIter it t i) (ht : s.heap.IsTuple t items) (hx : items[i]? = some x)
    (hQ : ∀ h', h'.IsTupleIter it t (i + 1) → Heap.SameBut it s.heap h' → Q x { s with heap := h' }) : wpAny (model prog w) A (Builtin.SmallTypes.nextOf (.ref it)) Q E s := by
  obtain ⟨⟨o, ho, hc, hd⟩, ol, hol, _, nl, hdl⟩ := And.intro hit ht
  unfold Builtin.SmallTypes.nextOf
  refine wpAny_bind (wpAny_callSpecial?_slot (name := Str.ofString "__next__") hit.typeIs F.slot_tuple_iterator_next (wpAny_call_entry F.slot_tuple_iterator_next hit.typeIs F.entry_tuple_iterator_next ?_ (F.args_tuple_iterator_next_1 _)))
  show wpAny _ _ (field (.ref it) 0 >>= _) _ _ s; refine wpAny_bind (wpAny_field ho hd (x := .ref t) rfl ?_)
  show wpAny _ _ (if (Value.ref t == Value.none) = true then _ else _) _ _ s; rw [if_neg (show ¬ ((Value.ref t == Value.none) = true) from Bool.false_ne_true)]
  show wpAny _ _ (field (.ref it) 1 >>= _) _ _ s; refine wpAny_bind (wpAny_field ho hd (x := .int i 0) rfl ?_)
  show wpAny _ _ (seqItems? (.ref t) >>= _) _ _ s; refine wpAny_bind (wpAny_seqItems hol hdl ?_); simp only [Int.toNat_natCast, hx]
  refine wpAny_bind (wpAny_setField ho hd (by simp) (wpAny_pure ⟨x, rfl, wpAny_pure (hQ _ ⟨_, Heap.get?_update_self _ ho (Obj.isFreed_of_fields (Obj.data_mapFields hd _)), (Obj.cls_mapFields ..).trans hc, ?_⟩ (Heap.SameBut.update ..))⟩))
  rw [Obj.data_mapFields hd]; simp [rawInt]
theorem nextTupEnd {it t : Addr} {i : Nat} {items : Array Value} {Q : Value → Shared → Prop} (hh : A.handled = none) (hit : s.heap.IsTupleIter it t i) (ht : s.heap.IsTuple t items) (hx : items[i]? = none)
    (hE : ∀ h' e, Heap.ExtBut it s.heap h' → (∃ o, h'.get? e = some o ∧ o.cls = .type "StopIteration") → E (.ref e) { s with heap := h' }) : wpAny (model prog w) A (Builtin.SmallTypes.nextOf (.ref it)) Q E s := by
  obtain ⟨⟨o, ho, hc, hd⟩, ol, hol, _, nl, hdl⟩ := And.intro hit ht
  unfold Builtin.SmallTypes.nextOf
  refine wpAny_bind (wpAny_callSpecial?_slot (name := Str.ofString "__next__") hit.typeIs F.slot_tuple_iterator_next (wpAny_call_entry F.slot_tuple_iterator_next hit.typeIs F.entry_tuple_iterator_next ?_ (F.args_tuple_iterator_next_1 _)))
  show wpAny _ _ (field (.ref it) 0 >>= _) _ _ s; refine wpAny_bind (wpAny_field ho hd (x := .ref t) rfl ?_)
  show wpAny _ _ (if (Value.ref t == Value.none) = true then _ else _) _ _ s; rw [if_neg (show ¬ ((Value.ref t == Value.none) = true) from Bool.false_ne_true)]
  show wpAny _ _ (field (.ref it) 1 >>= _) _ _ s; refine wpAny_bind (wpAny_field ho hd (x := .int i 0) rfl ?_)
  show wpAny _ _ (seqItems? (.ref t) >>= _) _ _ s; refine wpAny_bind (wpAny_seqItems hol hdl ?_); simp only [Int.toNat_natCast, hx]
  refine wpAny_bind (wpAny_rule (wpAny_bind (wpAny_setField ho hd (by simp) ?_))); show wpAny _ _ (newExc (.type "StopIteration") [] >>= _) _ _ _
  refine wpAny_bind ?_; simp only [newExc, newTuple]; refine wpAny_bind (wpAny_newObj_type ?_ (by size_fits))
  refine wpAny_bind (m := firstArgMember _ _) (wpAny_of_eq (a := Value.none) (by first | rfl | (simp only [firstArgMember]; rfl)) ?_); refine wpAny_newObj_type ?_ (by size_fits)
  simp only [raiseNew]; refine wpAny_bind (wpAny_handled ?_); first | rw [show A.in1.handled = none from hh] | rw [hh]
  exact wpAny_bind (wpAny_pure (wpAny_throw (hE _ _ (((Heap.SameBut.update ..).extBut.push _).push _) ⟨_, Heap.get?_push_size _ rfl, rfl⟩)))
theorem nx_tuple {it l : Addr} (hne : l ≠ it) (xs : Array Value) : Nx prog w it l xs (fun k h => h.IsTupleIter it l k ∧ h.IsTuple l xs) where
  obj := fun k h ⟨⟨o, ho, _, hd⟩, _⟩ => ⟨o, ho, fun v e => by rw [hd] at e; cases e⟩
  keep := fun k h h' ⟨⟨o, ho, r⟩, ⟨o2, ho2, r2⟩⟩ k1 k2 => ⟨⟨o, k1 o ho, r⟩, ⟨o2, k2 o2 ho2, r2⟩⟩
  item := fun A E s k x Q ⟨a, b⟩ hx hQ => nextTup a b hx fun h' a' sb => hQ h' ⟨a', b.extBut sb.extBut hne⟩ sb
  fin := fun A E s k Q hh ⟨a, b⟩ hx hE => nextTupEnd hh a b hx hE
structure Apart (z TI TO i1 i2 l1 l2 : Addr) : Prop where
  nd : [z, TI, TO, i1, i2].Nodup
  o1 : l1 ∉ [z, TO, i1, i2]
  o2 : l2 ∉ [z, TO, i1, i2]
variable {z TI TO i1 i2 l1 l2 : Addr} {xs ys : Array Value} {R1 R2 : Nat → Heap → Prop}
theorem zipItem {k : Nat} {x y a b : Value} {Q : Value → Shared → Prop} (D : Apart z TI TO i1 i2 l1 l2) (N1 : Nx prog w i1 l1 xs R1) (N2 : Nx prog w i2 l2 ys R2)
    (hz : IsZip s.heap z TI TO .none) (hTI : IsPair s.heap TI (.ref i1) (.ref i2)) (hTO : IsPair s.heap TO a b) (r1 : R1 k s.heap) (r2 : R2 k s.heap) (hx : xs[k]? = some x) (hy : ys[k]? = some y)
    (hQ : ∀ h', IsZip h' z TI TO (rawInt s.heap.objs.size) → IsPair h' TO x y → R1 (k + 1) h' → R2 (k + 1) h' → IsPair h' s.heap.objs.size x y → h'.objs.size = s.heap.objs.size + 1 →
      (∀ c o, c ∉ [z, TO, i1, i2] → s.heap.get? c = some o → h'.get? c = some o) → Q (.ref s.heap.objs.size) { s with heap := h' }) :
    wpAny (model prog w) A (Builtin.«zip.__next__» ⟨[.ref z], []⟩) (fun fin s' => ∃ v, fin = .done (.ret v) ∧ Q v s') E s := by
  have nd := D.nd
  simp only [List.nodup_cons, List.mem_cons, List.not_mem_nil, or_false, not_or] at nd
  obtain ⟨⟨zTI, zTO, zi1, zi2⟩, ⟨TITO, TIi1, TIi2⟩, ⟨TOi1, TOi2⟩, i12, _⟩ := nd
  have o1 := D.o1
  have o2 := D.o2
  simp only [List.mem_cons, List.not_mem_nil, or_false, not_or] at o1 o2
  obtain ⟨l1z, l1TO, l1i1, l1i2⟩ := o1
  obtain ⟨l2z, l2TO, l2i1, l2i2⟩ := o2
  show wpAny _ _ (field (.ref z) 2 >>= _) _ _ _; refine wpAny_bind (wpAny_field hz rfl (x := .bool false) rfl ?_)
  show wpAny _ _ (field (.ref z) 3 >>= _) _ _ _; refine wpAny_bind (wpAny_field hz rfl (x := .ref TI) rfl (wpAny_bind (wpAny_seqItems hTI rfl ?_)))
  show wpAny _ _ (Builtin.SmallTypes.ownedTupleIsFree (.ref z) >>= _) _ _ _; refine wpAny_bind ?_; unfold Builtin.SmallTypes.ownedTupleIsFree
  refine wpAny_bind (wpAny_field hz rfl (x := .none) rfl (wpAny_pure ?_)); simp only [if_true]
  refine wpAny_bind (wpAny_rule (wpAny_bind (wpAny_field hz rfl (x := .ref TO) rfl (wpAny_bind (wpAny_setField_rec hz (by simp) fun h1 hz1 hs1 => ?_)))))
  replace hz1 : IsZip h1 z TI TO .ellipsis := hz1
  refine wpAny_bind ?_; simp only [List.zipIdx_cons, List.zipIdx_nil, List.forIn_cons, List.forIn_nil]; refine wpAny_bind (wpAny_bind (wpAny_onRaise ?_))
  show wpAny _ _ (Builtin.SmallTypes.nextOf (.ref i1) >>= _) _ _ _
  have e1 : ∀ c o, c ≠ z → s.heap.get? c = some o → h1.get? c = some o := fun c o n e => hs1.extBut c o n e
  refine wpAny_bind (N1.item _ _ _ k x _ (N1.keep k _ _ r1 (fun o e => e1 i1 o (Ne.symm zi1) e) fun o e => e1 l1 o l1z e) hx fun h2 r12 hs2 => wpAny_pure ?_)
  have e2 : ∀ c o, c ≠ z → c ≠ i1 → s.heap.get? c = some o → h2.get? c = some o := fun c o n n2 e => hs2.extBut c o n2 (e1 c o n e)
  have hTO2 : IsPair h2 TO a b := e2 _ _ (Ne.symm zTO) TOi1 hTO
  refine wpAny_bind (wpAny_seqItems hTO2 rfl (wpAny_bind (wpAny_updateSeq_pair hTO2 fun h3 hTO3 hs3 => wpAny_bind (wpAny_letGo (wpAny_pure ?_)))))
  replace hTO3 : IsPair h3 TO x b := hTO3
  have e3 : ∀ c o, c ≠ z → c ≠ i1 → c ≠ TO → s.heap.get? c = some o → h3.get? c = some o := fun c o n n2 n3 e => hs3.extBut c o n3 (e2 c o n n2 e)
  refine wpAny_bind (wpAny_bind (wpAny_onRaise ?_)); show wpAny _ _ (Builtin.SmallTypes.nextOf (.ref i2) >>= _) _ _ _
  refine wpAny_bind (N2.item _ _ _ k y _ (N2.keep k _ _ r2 (fun o e => e3 i2 o (Ne.symm zi2) (Ne.symm i12) (Ne.symm TOi2) e) fun o e => e3 l2 o l2z l2i1 l2TO e) hy fun h4 r24 hs4 => wpAny_pure ?_)
  have hTO4 : IsPair h4 TO x b := hs4.extBut _ _ TOi2 hTO3
  refine wpAny_bind (wpAny_seqItems hTO4 rfl (wpAny_bind (wpAny_updateSeq_pair hTO4 fun h5 hTO5 hs5 => wpAny_bind (wpAny_letGo (wpAny_pure (wpAny_pure ?_))))))
  replace hTO5 : IsPair h5 TO x y := hTO5
  refine wpAny_bind (wpAny_seqItems hTO5 rfl (wpAny_bind (wpAny_newTuple ?_)))
  have hsz : h5.objs.size = s.heap.objs.size := by rw [hs5.1, hs4.1, hs3.1, hs2.1, hs1.1]
  have up3 : ∀ c o, c ≠ TO → c ≠ i2 → h3.get? c = some o → h5.get? c = some o := fun c o n n2 e => hs5.extBut c o n (hs4.extBut c o n2 e)
  have up2 : ∀ c o, c ≠ TO → c ≠ i2 → h2.get? c = some o → h5.get? c = some o := fun c o n n2 e => up3 c o n n2 (hs3.extBut c o n e)
  have hz5 : IsZip h5 z TI TO .ellipsis := up2 _ _ zTO zi2 (hs2.extBut _ _ zi1 hz1)
  have k5 : ∀ c o, c ∉ [z, TO, i1, i2] → s.heap.get? c = some o → h5.get? c = some o := fun c o hc e => by
    simp only [List.mem_cons, List.not_mem_nil, or_false, not_or] at hc
    exact up2 c o hc.2.1 hc.2.2.2 (e2 c o hc.1 hc.2.2.1 e)
  have r15 : R1 (k + 1) h5 := N1.keep _ _ _ r12 (fun o e => up2 i1 o (Ne.symm TOi1) i12 e) fun o e => up2 l1 o l1TO l1i2 e
  have r25 : R2 (k + 1) h5 := N2.keep _ _ _ r24 (fun o e => hs5.extBut i2 o (Ne.symm TOi2) e) fun o e => hs5.extBut l2 o l2TO e
  have hzl : z < h5.objs.size := Heap.lt_size hz5
  show wpAny _ _ (Builtin.SmallTypes.ownedTupleHandOut (.ref z) (.ref h5.objs.size) >>= _) _ _ _; refine wpAny_bind ?_; unfold Builtin.SmallTypes.ownedTupleHandOut
  have hz6 : IsZip (h5.push { cls := .type "tuple", data := .seq #[x, y] }) z TI TO .ellipsis := Heap.get?_push_of_some _ hz5
  refine wpAny_bind (wpAny_setField_rec hz6 (by simp) fun h7 hz7 hs7 => ?_)
  replace hz7 : IsZip h7 z TI TO (rawInt h5.objs.size) := hz7
  refine wpAny_setField_rec hz7 (by simp) fun h8 hz8 hs8 => ?_
  replace hz8 : IsZip h8 z TI TO (rawInt h5.objs.size) := hz8
  have up : ∀ c o, c ≠ z → h5.get? c = some o → h8.get? c = some o := fun c o n e => hs8.extBut c o n (hs7.extBut c o n (Heap.get?_push_of_some _ e))
  have hT8 : IsPair h8 h5.objs.size x y := hs8.extBut _ _ (Nat.ne_of_gt hzl) (hs7.extBut _ _ (Nat.ne_of_gt hzl) (Heap.get?_push_size _ rfl))
  have hs : h8.objs.size = h5.objs.size + 1 := by rw [hs8.1, hs7.1, Heap.size_push]
  rw [hsz] at hz8 hT8 hs
  refine wpAny_pure ⟨_, rfl, ?_⟩
  show Q (.ref h5.objs.size) _
  rw [hsz]
  exact hQ h8 hz8 (up _ _ (Ne.symm zTO) hTO5) (N1.keep _ _ _ r15 (fun o e => up i1 o (Ne.symm zi1) e) fun o e => up l1 o l1z e) (N2.keep _ _ _ r25 (fun o e => up i2 o (Ne.symm zi2) e) fun o e => up l2 o l2z e) hT8 hs fun c o hc e => up c o (fun q => hc (by simp [q])) (k5 c o hc e)
theorem zipEnd {k : Nat} {a b : Value} {Q : PySem.Fin → Shared → Prop} (hh : A.handled = none) (D : Apart z TI TO i1 i2 l1 l2) (N1 : Nx prog w i1 l1 xs R1) (N2 : Nx prog w i2 l2 ys R2)
    (hz : IsZip s.heap z TI TO .none) (hTI : IsPair s.heap TI (.ref i1) (.ref i2)) (hTO : IsPair s.heap TO a b) (r1 : R1 k s.heap) (r2 : R2 k s.heap) (hend : xs[k]? = none ∨ ys[k]? = none)
    (hE : ∀ h' e, (∀ c o, c ∉ [z, TO, i1, i2] → s.heap.get? c = some o → h'.get? c = some o) → (∃ o, h'.get? e = some o ∧ o.cls = .type "StopIteration") → E (.ref e) { s with heap := h' }) :
    wpAny (model prog w) A (Builtin.«zip.__next__» ⟨[.ref z], []⟩) Q E s := by
  have nd := D.nd
  simp only [List.nodup_cons, List.mem_cons, List.not_mem_nil, or_false, not_or] at nd
  obtain ⟨⟨zTI, zTO, zi1, zi2⟩, ⟨TITO, TIi1, TIi2⟩, ⟨TOi1, TOi2⟩, i12, _⟩ := nd
  have o1 := D.o1
  have o2 := D.o2
  simp only [List.mem_cons, List.not_mem_nil, or_false, not_or] at o1 o2
  obtain ⟨l1z, l1TO, l1i1, l1i2⟩ := o1
  obtain ⟨l2z, l2TO, l2i1, l2i2⟩ := o2
  show wpAny _ _ (field (.ref z) 2 >>= _) _ _ _; refine wpAny_bind (wpAny_field hz rfl (x := .bool false) rfl ?_)
  show wpAny _ _ (field (.ref z) 3 >>= _) _ _ _; refine wpAny_bind (wpAny_field hz rfl (x := .ref TI) rfl (wpAny_bind (wpAny_seqItems hTI rfl ?_)))
  show wpAny _ _ (Builtin.SmallTypes.ownedTupleIsFree (.ref z) >>= _) _ _ _; refine wpAny_bind ?_; unfold Builtin.SmallTypes.ownedTupleIsFree
  refine wpAny_bind (wpAny_field hz rfl (x := .none) rfl (wpAny_pure ?_)); simp only [if_true]
  refine wpAny_bind (wpAny_rule (wpAny_bind (wpAny_field hz rfl (x := .ref TO) rfl (wpAny_bind (wpAny_setField_rec hz (by simp) fun h1 hz1 hs1 => ?_)))))
  replace hz1 : IsZip h1 z TI TO .ellipsis := hz1
  refine wpAny_bind ?_; simp only [List.zipIdx_cons, List.zipIdx_nil, List.forIn_cons, List.forIn_nil]; refine wpAny_bind (wpAny_bind (wpAny_onRaise ?_))
  show wpAny _ _ (Builtin.SmallTypes.nextOf (.ref i1) >>= _) _ _ _
  have e1 : ∀ c o, c ≠ z → s.heap.get? c = some o → h1.get? c = some o := fun c o n e => hs1.extBut c o n e
  have q1 := N1.keep k _ _ r1 (fun o e => e1 i1 o (Ne.symm zi1) e) fun o e => e1 l1 o l1z e
  cases hx : xs[k]? with
  | none =>
    refine wpAny_bind (N1.fin _ _ _ k _ hh q1 hx fun h2 e hs2 he => ?_)
    obtain ⟨oe, hoe, hce⟩ := he
    have hz2 : IsZip h2 z TI TO .ellipsis := hs2 _ _ zi1 hz1
    have hez : e ≠ z := fun q => by subst q; rw [hz2] at hoe; cases hoe; simp at hce
    refine wpAny_setField_rec hz2 (by simp) fun h3 _ hs3 => hE h3 e (fun c o hc q => ?_) ⟨oe, hs3.extBut _ _ hez hoe, hce⟩
    simp only [List.mem_cons, List.not_mem_nil, or_false, not_or] at hc
    exact hs3.extBut _ _ hc.1 (hs2 _ _ hc.2.2.1 (e1 c o hc.1 q))
  | some x =>
    have hy : ys[k]? = none := by rcases hend with h | h; rw [hx] at h; cases h; exact h
    refine wpAny_bind (N1.item _ _ _ k x _ q1 hx fun h2 r12 hs2 => wpAny_pure ?_)
    have e2 : ∀ c o, c ≠ z → c ≠ i1 → s.heap.get? c = some o → h2.get? c = some o := fun c o n n2 e => hs2.extBut c o n2 (e1 c o n e)
    have hTO2 : IsPair h2 TO a b := e2 _ _ (Ne.symm zTO) TOi1 hTO
    refine wpAny_bind (wpAny_seqItems hTO2 rfl (wpAny_bind (wpAny_updateSeq_pair hTO2 fun h3 hTO3 hs3 => wpAny_bind (wpAny_letGo (wpAny_pure ?_)))))
    have e3 : ∀ c o, c ≠ z → c ≠ i1 → c ≠ TO → s.heap.get? c = some o → h3.get? c = some o := fun c o n n2 n3 e => hs3.extBut c o n3 (e2 c o n n2 e)
    refine wpAny_bind (wpAny_bind (wpAny_onRaise ?_)); show wpAny _ _ (Builtin.SmallTypes.nextOf (.ref i2) >>= _) _ _ _
    refine wpAny_bind (N2.fin _ _ _ k _ hh (N2.keep k _ _ r2 (fun o e => e3 i2 o (Ne.symm zi2) (Ne.symm i12) (Ne.symm TOi2) e) fun o e => e3 l2 o l2z l2i1 l2TO e) hy fun h4 e hs4 he => ?_)
    obtain ⟨oe, hoe, hce⟩ := he
    have hz4 : IsZip h4 z TI TO .ellipsis := hs4 _ _ zi2 (hs3.extBut _ _ zTO (hs2.extBut _ _ zi1 hz1))
    have hez : e ≠ z := fun q => by subst q; rw [hz4] at hoe; cases hoe; simp at hce
    refine wpAny_setField_rec hz4 (by simp) fun h5 _ hs5 => hE h5 e (fun c o hc q => ?_) ⟨oe, hs5.extBut _ _ hez hoe, hce⟩
    simp only [List.mem_cons, List.not_mem_nil, or_false, not_or] at hc
    exact hs5.extBut _ _ hc.1 (hs4 _ _ hc.2.2.2 (e3 c o hc.1 hc.2.2.1 hc.2.1 q))
theorem zipNext {k : Nat} {x y a b : Value} {Q : Option Value → Shared → Prop} (D : Apart z TI TO i1 i2 l1 l2) (N1 : Nx prog w i1 l1 xs R1) (N2 : Nx prog w i2 l2 ys R2)
    (hz : IsZip s.heap z TI TO .none) (hTI : IsPair s.heap TI (.ref i1) (.ref i2)) (hTO : IsPair s.heap TO a b) (r1 : R1 k s.heap) (r2 : R2 k s.heap) (hx : xs[k]? = some x) (hy : ys[k]? = some y)
    (hQ : ∀ h', IsZip h' z TI TO (rawInt s.heap.objs.size) → IsPair h' TO x y → R1 (k + 1) h' → R2 (k + 1) h' → IsPair h' s.heap.objs.size x y → h'.objs.size = s.heap.objs.size + 1 →
      (∀ c o, c ∉ [z, TO, i1, i2] → s.heap.get? c = some o → h'.get? c = some o) → Q (some (.ref s.heap.objs.size)) { s with heap := h' }) : wpAny (model prog w) A (pyNext (.ref z)) Q E s := by
  have hT : s.TypeIs (.ref z) "zip" := ⟨_, hz, rfl⟩
  unfold pyNext
  refine wpAny_bind (wpAny_attempt (wpAny_callSpecial?_slot (name := Str.ofString "__next__") hT F.slot_zip_next (wpAny_call_entry F.slot_zip_next hT F.entry_zip_next ?_ (F.args_zip_next_1 _))))
  exact zipItem D N1 N2 hz hTI hTO r1 r2 hx hy fun h' a1 a2 a3 a4 a5 a6 a7 => wpAny_pure (hQ h' a1 a2 a3 a4 a5 a6 a7)
theorem zipStop {k : Nat} {a b : Value} {Q : Option Value → Shared → Prop} (hh : A.handled = none) (D : Apart z TI TO i1 i2 l1 l2) (N1 : Nx prog w i1 l1 xs R1) (N2 : Nx prog w i2 l2 ys R2)
    (hz : IsZip s.heap z TI TO .none) (hTI : IsPair s.heap TI (.ref i1) (.ref i2)) (hTO : IsPair s.heap TO a b) (r1 : R1 k s.heap) (r2 : R2 k s.heap) (hend : xs[k]? = none ∨ ys[k]? = none)
    (hQ : ∀ h', (∀ c o, c ∉ [z, TO, i1, i2] → s.heap.get? c = some o → h'.get? c = some o) → Q none { s with heap := h' }) : wpAny (model prog w) A (pyNext (.ref z)) Q E s := by
  have hT : s.TypeIs (.ref z) "zip" := ⟨_, hz, rfl⟩
  unfold pyNext
  refine wpAny_bind (wpAny_attempt (wpAny_callSpecial?_slot (name := Str.ofString "__next__") hT F.slot_zip_next (wpAny_call_entry F.slot_zip_next hT F.entry_zip_next ?_ (F.args_zip_next_1 _))))
  refine zipEnd (A := A.in1) hh D N1 N2 hz hTI hTO r1 r2 hend fun h' e hk he => ?_
  obtain ⟨o, ho, hc⟩ := he
  exact wpAny_bind (wpAny_isInstance (T := "StopIteration") (b := true) ⟨o, ho, hc⟩ isSubtype_stop (wpAny_pure (hQ _ hk)))
end
end L2
set_option Elab.async false
set_option linter.all false
set_option maxRecDepth 100000
namespace L2
open PySem PySem.Spec PyProof.Rows PySem.W
noncomputable def SqB (t : Bool) (K : PySem.W.Frag) (H : Hp) (a : Addr) (xs : List V) : Prop := match t with
  | true => SqT K H a xs
  | false => SqL K H a xs
noncomputable def ItB (t : Bool) (h : Heap) (it l : Addr) (k : Nat) : Prop := match t with
  | true => h.IsTupleIter it l k
  | false => h.IsListIter it l k
noncomputable def IsB (t : Bool) (h : Heap) (l : Addr) (xs : Array Value) : Prop := match t with
  | true => h.IsTuple l xs
  | false => h.IsList l xs
section
variable {X : Cx} {pins : List (Addr × Obj)} {σ : List (Option V)} {H : Hp} {s : Shared} {h' : Heap}
theorem Inv.sqB {t : Bool} {a : Addr} {xs : List V} (I : Inv X pins σ H s) (h : SqB t X.K H a xs) : ∃ its : List Value, Vals xs its ∧ IsB t s.heap a its.toArray := by
  cases t with
  | true =>
    obtain ⟨its, r, pl, _⟩ := I.tuple h
    exact ⟨its, r, pl⟩
  | false =>
    obtain ⟨its, r, pl, _⟩ := I.list h
    exact ⟨its, r, pl.isList⟩
theorem Inv.sqB_inj {t : Bool} {a : Addr} {xs ys : List V} (I : Inv X pins σ H s) (h : SqB t X.K H a xs) (h2 : SqB t X.K H a ys) : xs = ys := by
  cases t with
  | true => exact I.tuple_inj h h2
  | false => exact I.list_inj h h2
theorem nxB {prog : Program} {w : World} (t : Bool) {it l : Addr} (hne : l ≠ it) (xs : Array Value) : Nx prog w it l xs (fun k h => ItB t h it l k ∧ IsB t h l xs) := by
  cases t with
  | true => exact nx_tuple hne xs
  | false => exact nx_list hne xs
theorem ItB.at {t : Bool} {h h' : Heap} {it l : Addr} {k : Nat} (x : ItB t h it l k) (e : ∀ o, h.get? it = some o → h'.get? it = some o) : ItB t h' it l k := by
  cases t with
  | true => obtain ⟨o, ho, r⟩ := x; exact ⟨o, e o ho, r⟩
  | false => exact Heap.IsListIter.at x e
theorem ItB.obj {t : Bool} {h : Heap} {it l : Addr} {k : Nat} (x : ItB t h it l k) : ∃ o, h.get? it = some o ∧ ∀ v, o.data ≠ .cell v := by
  cases t with
  | true => obtain ⟨o, ho, _, hd⟩ := x; exact ⟨o, ho, fun v e => by rw [hd] at e; cases e⟩
  | false => obtain ⟨o, ho, _, hd⟩ := x; exact ⟨o, ho, fun v e => by rw [hd] at e; cases e⟩
theorem Inv.turnLaidN {t' : Nat} {ch : List Addr} {T : Addr} {o : HO} (I : Inv X pins σ H s) (k : ∀ b u, b ∉ ch → s.heap.get? b = some u → h'.get? b = some u)
    (fc : ∀ b ∈ ch, FpOk X pins H b) (hT : s.heap.objs.size ≤ T) (new : ObjOk X.prog X.w (upd H T o) h' T o) : Inv X pins σ (upd H T o) { s with heap := h', toks := t' } := by
  have hn : H T = none := I.hok.fresh hT
  have lt : ∀ {b : Addr} {u : Obj}, s.heap.get? b = some u → b ≠ T := fun {b u} q => Nat.ne_of_lt (Nat.lt_of_lt_of_le (Heap.lt_size q) hT)
  have tr : ∀ {b : Addr} {u : HO}, H b = some u → b ∉ ch := fun {b u} q z => by rw [(fc b z).1] at q; cases q
  refine I.step (g' := s.gens) (d' := s.drawn) (ch := ch) (fun b hb => ⟨(fc b hb).2.2.2.1, (fc b hb).2.1, (fc b hb).2.2.2.2.1, (fc b hb).2.2.2.2.2⟩) (fun b u _ _ hc q _ => k b u hc q) (fun b u _ _ hc q _ => ⟨u.slots, k b u hc q⟩)
    (fun b u _ q n => by rw [upd_ne (lt q)]; exact n) (fun b u hc q => ⟨u, k b u hc q⟩) (fun b xs q => by rw [upd_ne (ne_of_none q hn)]; exact q) (fun b u v q => by rw [upd_ne (ne_of_none q hn)]; exact q)
    (fun b ps q => ⟨#[], by rw [upd_ne (ne_of_none q hn), q]; simp⟩) (fun m hm => ?_) (fun b u q => ?_) I.bare
  · obtain ⟨ob, es, ep, ho, r⟩ := hm
    exact ⟨ob, es, ep, k _ ob (fun z => (fc _ z).2.1 rfl) ho, r⟩
  · by_cases hb : b = T
    · subst hb; rw [upd_same] at q; cases q; exact new
    · rw [upd_ne hb] at q
      refine (I.hok b u q).stay (fun c v hc z => ?_) (fun c z => by rw [upd_ne (ne_of_none z hn)]; exact z) fun c xs z => by rw [upd_ne (ne_of_none z hn)]; exact z
      rcases hc with z' | z'
      · rw [z'] at z ⊢; exact k b v (tr q) z
      · exact k c v (tr z') z
theorem Inv.turnedN {t' : Nat} {ch : List Addr} (I : Inv X pins σ H s) (k : ∀ b u, b ∉ ch → s.heap.get? b = some u → h'.get? b = some u) (fc : ∀ b ∈ ch, FpOk X pins H b) : Inv X pins σ H { s with heap := h', toks := t' } := by
  have tr : ∀ {b : Addr} {u : HO}, H b = some u → b ∉ ch := fun {b u} q z => by rw [(fc b z).1] at q; cases q
  refine I.step (g' := s.gens) (d' := s.drawn) (ch := ch) (fun b hb => ⟨(fc b hb).2.2.2.1, (fc b hb).2.1, (fc b hb).2.2.2.2.1, (fc b hb).2.2.2.2.2⟩) (fun b u _ _ hc q _ => k b u hc q) (fun b u _ _ hc q _ => ⟨u.slots, k b u hc q⟩)
    (fun b u _ q n => n) (fun b u hc q => ⟨u, k b u hc q⟩) (fun b xs q => q) (fun b u v q => q) (fun b ps q => ⟨#[], by rw [q]; simp⟩) (fun m hm => ?_) (fun b u q => ?_) I.bare
  · obtain ⟨ob, es, ep, ho, r⟩ := hm
    exact ⟨ob, es, ep, k _ ob (fun z => (fc _ z).2.1 rfl) ho, r⟩
  · refine (I.hok b u q).stay (fun c v hc z => ?_) (fun c z => z) fun c xs z => z
    rcases hc with z' | z'
    · rw [z'] at z ⊢; exact k b v (tr q) z
    · exact k c v (tr z') z
end
noncomputable def Itz (K : PySem.W.Frag) (t : Bool) (a b : Addr) : It :=
  ⟨fun i H => ∃ xs ys x y, SqB t K H a xs ∧ SqB t K H b ys ∧ xs[i]? = some x ∧ ys[i]? = some y, fun i H v H' => ∃ T, H T = none ∧ v = .ref T ∧ ∀ xs ys, SqB t K H a xs → SqB t K H b ys → ∃ x y, xs[i]? = some x ∧ ys[i]? = some y ∧ H' = upd H T (.tup [x, y]), fun i H => ∃ xs ys, SqB t K H a xs ∧ SqB t K H b ys ∧ (xs.length ≤ i ∨ ys.length ≤ i)⟩
theorem turn_zip {P : Program} {w : World} {K : PySem.W.Frag} {elts : List Expr} {x1 : Nat} {pos : Pos} (t : Bool) (a b z TI TO i1 i2 : Addr) (D : Apart z TI TO i1 i2 a b) :
    Turn P w K (.Tuple elts x1 pos) (Itz K t a b) [z, TI, TO, i1, i2] z (fun i h => IsZip h z TI TO .none ∧ IsPair h TI (.ref i1) (.ref i2) ∧ (∃ c d, IsPair h TO c d) ∧ ItB t h i1 a i ∧ ItB t h i2 b i) where
  mem := by simp
  obj := fun i h st c hc => by
    obtain ⟨hz, hTI, ⟨c1, d1, hTO⟩, h1, h2⟩ := st
    simp only [List.mem_cons, List.not_mem_nil, or_false] at hc
    rcases hc with rfl | rfl | rfl | rfl | rfl
    · exact ⟨_, hz, fun v e => by cases e⟩
    · exact ⟨_, hTI, fun v e => by cases e⟩
    · exact ⟨_, hTO, fun v e => by cases e⟩
    · exact h1.obj
    · exact h2.obj
  keep := fun i h h' st k => by
    obtain ⟨hz, hTI, ⟨c1, d1, hTO⟩, h1, h2⟩ := st
    exact ⟨k z (by simp) _ hz, k TI (by simp) _ hTI, ⟨c1, d1, k TO (by simp) _ hTO⟩, h1.at fun o e => k i1 (by simp) o e, h2.at fun o e => k i2 (by simp) o e⟩
  item := by
    intro X hP hw hK hc i pins s σ H E I hf st hg
    subst hP hw hK
    obtain ⟨xs, ys, x, y, hq1, hq2, hx, hy⟩ := hg
    obtain ⟨its1, rv1, p1⟩ := I.sqB hq1
    obtain ⟨its2, rv2, p2⟩ := I.sqB hq2
    obtain ⟨u1, hu1, ru1⟩ := rv1.get hx
    obtain ⟨u2, hu2, ru2⟩ := rv2.get hy
    obtain ⟨hz, hTI, ⟨c1, d1, hTO⟩, h1, h2⟩ := st
    have n1 : a ≠ i1 := fun e => D.o1 (by simp [e])
    have n2 : b ≠ i2 := fun e => D.o2 (by simp [e])
    have ltz : ∀ {c : Addr} {o : Obj}, s.heap.get? c = some o → c ≠ s.heap.objs.size := fun q => Nat.ne_of_lt (Heap.lt_size q)
    refine zipNext D (nxB t n1 its1.toArray) (nxB t n2 its2.toArray) hz hTI hTO ⟨h1, p1⟩ ⟨h2, p2⟩ (x := u1) (y := u2) (by simpa using hu1) (by simpa using hu2) fun g1 hz1 hTO1 q1 q2 hT1 hs1 k1 => ?_
    refine ⟨_, rfl, ?_⟩
    refine wpAny_letOwnedTupleGo_zip (s := { s with heap := g1 }) hz1 fun g2 hz2 sb => ?_
    have nd := D.nd
    simp only [List.nodup_cons, List.mem_cons, List.not_mem_nil, or_false, not_or] at nd
    obtain ⟨⟨zTI, zTO, zi1, zi2⟩, ⟨TITO, TIi1, TIi2⟩, ⟨TOi1, TOi2⟩, i12, _⟩ := nd
    have k2 : ∀ c o, c ∉ [z, TO, i1, i2] → s.heap.get? c = some o → g2.get? c = some o := fun c o hc q => (sb.2 c (fun e => hc (by simp [e]))).trans (k1 c o hc q)
    have hTz : z ≠ s.heap.objs.size := ltz hz
    have hT2 : g2.get? s.heap.objs.size = some { cls := .type "tuple", data := .seq #[u1, u2] } := (sb.2 _ (Ne.symm hTz)).trans hT1
    refine ⟨.ref s.heap.objs.size, upd H s.heap.objs.size (.tup [x, y]), I.turnLaidN (t' := s.toks) k2 (fun c hc => hf c (by simp only [List.mem_cons, List.not_mem_nil, or_false] at hc ⊢; rcases hc with e | e | e | e <;> simp [e])) (Nat.le_refl _) ?_, rfl, ⟨_, I.fresh, rfl, fun ys1 ys2 e1 e2 => ⟨x, y, by rw [I.sqB_inj e1 hq1]; exact hx, by rw [I.sqB_inj e2 hq2]; exact hy, rfl⟩⟩, ⟨hz2, ?_, ⟨u1, u2, ?_⟩, ?_, ?_⟩, fun c hc => ?_⟩
    · exact ⟨(by show 2 ≤ sizeLine; decide), [u1, u2], .cons ru1 (.cons ru2 .nil), ⟨_, hT2, rfl, _, rfl⟩⟩
    · exact (sb.2 TI (Ne.symm zTI)).trans (k1 TI _ (by simp only [List.mem_cons, List.not_mem_nil, or_false, not_or]; exact ⟨Ne.symm zTI, TITO, TIi1, TIi2⟩) hTI)
    · exact (sb.2 TO (Ne.symm zTO)).trans hTO1
    · exact q1.1.at fun o e => (sb.2 i1 (Ne.symm zi1)).trans e
    · exact q2.1.at fun o e => (sb.2 i2 (Ne.symm zi2)).trans e
    · have hcn := (hf c hc).1
      have hlt : c ≠ s.heap.objs.size := by
        simp only [List.mem_cons, List.not_mem_nil, or_false] at hc
        rcases hc with rfl | rfl | rfl | rfl | rfl
        · exact ltz hz
        · exact ltz hTI
        · exact ltz hTO
        · obtain ⟨o, ho, _⟩ := h1.obj; exact ltz ho
        · obtain ⟨o, ho, _⟩ := h2.obj; exact ltz ho
      rw [upd_ne hlt]; exact hcn
  done := by
    intro X hP hw hK hc i pins s σ H E I hf st hg
    subst hP hw hK
    obtain ⟨xs, ys, hq1, hq2, hx⟩ := hg
    obtain ⟨its1, rv1, p1⟩ := I.sqB hq1
    obtain ⟨its2, rv2, p2⟩ := I.sqB hq2
    obtain ⟨hz, hTI, ⟨c1, d1, hTO⟩, h1, h2⟩ := st
    have n1 : a ≠ i1 := fun e => D.o1 (by simp [e])
    have n2 : b ≠ i2 := fun e => D.o2 (by simp [e])
    have l1 := rv1.length
    have l2 := rv2.length
    refine zipStop (I.ok.hd hc) D (nxB t n1 its1.toArray) (nxB t n2 its2.toArray) hz hTI hTO ⟨h1, p1⟩ ⟨h2, p2⟩ ?_ fun g1 k1 => ⟨rfl, ?_⟩
    · rcases hx with hx | hx
      · left; simp; (first | lia | omega)
      · right; simp; (first | lia | omega)
    · exact I.turnedN (t' := s.toks) k1 fun c hc => hf c (by simp only [List.mem_cons, List.not_mem_nil, or_false] at hc ⊢; rcases hc with e | e | e | e <;> simp [e])
  self := fun _ _ _ _ _ st h => wpAny_pyIter_zip st.1 h
section
variable {prog : Program} {w : World} {A : Around} {E : Value → Shared → Prop} {s : Shared}
noncomputable abbrev zt1 (h : Heap) (a : Addr) : Heap := h.push { cls := .type "tuple_iterator", data := .fields #[.ref a, .int 0 0] }
noncomputable abbrev zt3 (h : Heap) (a b : Addr) : Heap := (zt1 (zt1 h a) b).push { cls := .type "tuple", data := .seq #[.ref h.objs.size, .ref (zt1 h a).objs.size] }
noncomputable abbrev zt4 (h : Heap) (a b : Addr) : Heap := (zt3 h a b).push { cls := .type "tuple", data := .seq #[.none, .none] }
noncomputable abbrev zt5 (h : Heap) (a b : Addr) : Heap := (zt4 h a b).push { cls := .type "zip", data := .fields #[.none, .bool false, .bool false, .ref (zt1 (zt1 h a) b).objs.size, .ref (zt3 h a b).objs.size] }
theorem zipNewT (a b : Addr) (xs ys : Array Value) :
    Meets (Builtin.«zip.__new__» ⟨[.type "zip", .ref a, .ref b], []⟩) (fun _ R s => s.heap.IsTuple a xs ∧ s.heap.IsTuple b ys ∧ R (.ok (.ret (.ref (zt4 s.heap a b).objs.size))) { s with heap := zt5 s.heap a b }) :=
  .of_wp fun prog w A R s h => by
    obtain ⟨hp, g, d, tk, os⟩ := s; obtain ⟨ha, hb, h⟩ := h; have hsub := sub_zip
    have hA : Heap.IsTuple (Shared.heap ⟨hp, g, d, tk, os⟩) a xs := ha
    have hB : Heap.IsTuple (Shared.heap ⟨hp.push { cls := .type "tuple_iterator", data := .fields #[.ref a, .int 0 0] }, g, d, tk, os⟩) b ys := Heap.IsTuple.push hb _
    wp_walk using wpAny_pyIter_tuple hA, wpAny_pyIter_tuple hB
    exact ⟨_, rfl, h⟩
theorem zipMade {t : Bool} {a b : Addr} {xs ys : Array Value} {Q : Value → Shared → Prop} (ha : IsB t s.heap a xs) (hb : IsB t s.heap b ys)
    (h : ∀ h' : Heap, IsZip h' (s.heap.objs.size + 4) (s.heap.objs.size + 2) (s.heap.objs.size + 3) .none → IsPair h' (s.heap.objs.size + 2) (.ref s.heap.objs.size) (.ref (s.heap.objs.size + 1)) → IsPair h' (s.heap.objs.size + 3) .none .none → ItB t h' s.heap.objs.size a 0 → ItB t h' (s.heap.objs.size + 1) b 0 →
      (∀ c o, s.heap.get? c = some o → h'.get? c = some o) → Q (.ref (s.heap.objs.size + 4)) { s with heap := h' }) : wpAny (model prog w) A (call (.type "zip") [.ref a, .ref b]) Q E s := by
  cases t with
  | false => exact call_zip_2 ha hb fun h' a1 a2 a3 a4 a5 a6 a7 => h h' a1 a2 a3 a4 a5 a7
  | true =>
    refine callType_new F.called_zip (by decide) (F.typeCall_zip_2 _ _) (F.newCall_zip_2 _ _) (fun obj => F.args_object_init_3 obj _ _) F.entry_zip_new (zipNewT a b xs ys) ⟨ha, hb, ?_⟩
    have z1 : (zt1 s.heap a).objs.size = s.heap.objs.size + 1 := Heap.size_push ..
    have z2 : (zt1 (zt1 s.heap a) b).objs.size = s.heap.objs.size + 2 := by rw [Heap.size_push, z1]
    have z3 : (zt3 s.heap a b).objs.size = s.heap.objs.size + 3 := by rw [Heap.size_push, z2]
    have z4 : (zt4 s.heap a b).objs.size = s.heap.objs.size + 4 := by rw [Heap.size_push, z3]
    have g5 : (zt5 s.heap a b).get? (zt4 s.heap a b).objs.size = some _ := Heap.get?_push_size _ rfl
    have g4 : (zt5 s.heap a b).get? (zt3 s.heap a b).objs.size = some _ := Heap.get?_push_of_some _ (Heap.get?_push_size _ rfl)
    have g3 : (zt5 s.heap a b).get? (zt1 (zt1 s.heap a) b).objs.size = some _ := Heap.get?_push_of_some _ (Heap.get?_push_of_some _ (Heap.get?_push_size _ rfl))
    have g2 : (zt5 s.heap a b).get? (zt1 s.heap a).objs.size = some _ := Heap.get?_push_of_some _ (Heap.get?_push_of_some _ (Heap.get?_push_of_some _ (Heap.get?_push_size _ rfl)))
    have g1 : (zt5 s.heap a b).get? s.heap.objs.size = some _ := Heap.get?_push_of_some _ (Heap.get?_push_of_some _ (Heap.get?_push_of_some _ (Heap.get?_push_of_some _ (Heap.get?_push_size _ rfl))))
    show _ ∧ _
    rw [z2, z3, z4] at g5; rw [z1, z2] at g3; rw [z3] at g4; rw [z1] at g2; rw [z4]
    exact ⟨⟨_, g5, rfl⟩, h _ g5 g3 g4 ⟨_, g1, rfl, rfl⟩ ⟨_, g2, rfl, rfl⟩ fun c o x => Heap.get?_push_of_some _ (Heap.get?_push_of_some _ (Heap.get?_push_of_some _ (Heap.get?_push_of_some _ (Heap.get?_push_of_some _ x))))⟩
end
section
variable {X : Cx}
noncomputable def iZip (K : PySem.W.Frag) (ta : TA) : TI := fun σ H R => ta σ H fun vs H1 => ∃ (t : Bool) (a b : Addr) (xs ys : List V), vs = [.ref a, .ref b] ∧ SqB t K H1 a xs ∧ SqB t K H1 b ys ∧ R (Itz K t a b) H1
theorem Inv.ltB {pins : List (Addr × Obj)} {σ : St} {H : Hp} {s : Shared} {t : Bool} {h : Heap} {l : Addr} {xs : Array Value} (x : IsB t h l xs) : l < h.objs.size := by
  cases t with
  | true => obtain ⟨o, ho, _⟩ := x; exact Heap.lt_size ho
  | false => obtain ⟨o, ho, _⟩ := x; exact Heap.lt_size ho
theorem pi_zip {elts : List Expr} {x1 : Nat} {tpos : Pos} {a b : Expr} {ta : TA} {p pos : Pos} (hg : Gl X "zip") (hm : X.mg "zip" = none) (ha : PA X [a, b] ta) (hs : starEach [a, b] X.env = (false, eval a X.env) :: starEach [b] X.env := by rfl) (hpl : (backTo pos (starEach [b] X.env)).any (·.1) = false := by rfl) :
    PI X (.Tuple elts x1 tpos) (.Call (.Name "zip" p) [a, b] [] pos) (iZip X.K ta) := by
  intro pins s σ H R I h
  refine Call_ (ld_blt I hg hm boot_zip (PyProof.Rows.callWith_type1 (thn (ha pos pins s σ H _ I h) fun us s1 ⟨vs, H1, I1, r1, q1⟩ => ?_) hs hpl))
  obtain ⟨t, a, b, xs, ys, e, hq1, hq2, q⟩ := q1
  subst e
  obtain ⟨u, v, rfl, ru, rv⟩ := vals2 r1
  cases ru
  cases rv
  obtain ⟨its1, _, p1⟩ := I1.sqB hq1
  obtain ⟨its2, _, p2⟩ := I1.sqB hq2
  have la := Inv.ltB (pins := pins) (σ := σ) (H := H1) (s := s1) p1
  have lb := Inv.ltB (pins := pins) (σ := σ) (H := H1) (s := s1) p2
  refine zipMade p1 p2 fun h' hz hTI hTO i1 i2 hk => ?_
  refine wpAny_pyIter_zip (s := { s1 with heap := h' }) hz ?_
  have D : Apart (s1.heap.objs.size + 4) (s1.heap.objs.size + 2) (s1.heap.objs.size + 3) s1.heap.objs.size (s1.heap.objs.size + 1) a b := ⟨by simp, by simp only [List.mem_cons, List.not_mem_nil, or_false, not_or]; exact ⟨Nat.ne_of_lt (Nat.lt_of_lt_of_le la (Nat.le_add_right _ _)), Nat.ne_of_lt (Nat.lt_of_lt_of_le la (Nat.le_add_right _ _)), Nat.ne_of_lt la, Nat.ne_of_lt (Nat.lt_of_lt_of_le la (Nat.le_add_right _ _))⟩, by simp only [List.mem_cons, List.not_mem_nil, or_false, not_or]; exact ⟨Nat.ne_of_lt (Nat.lt_of_lt_of_le lb (Nat.le_add_right _ _)), Nat.ne_of_lt (Nat.lt_of_lt_of_le lb (Nat.le_add_right _ _)), Nat.ne_of_lt lb, Nat.ne_of_lt (Nat.lt_of_lt_of_le lb (Nat.le_add_right _ _))⟩⟩
  refine ⟨s1.heap.objs.size + 4, [s1.heap.objs.size + 4, s1.heap.objs.size + 2, s1.heap.objs.size + 3, s1.heap.objs.size, s1.heap.objs.size + 1], _, _, H1, rfl, I1.kept (t' := s1.toks) hk, turn_zip t a b _ _ _ _ _ D, ⟨hz, hTI, ⟨_, _, hTO⟩, i1, i2⟩, fun c hc => ?_, q⟩
  have hcs : s1.heap.objs.size ≤ c := by
    simp only [List.mem_cons, List.not_mem_nil, or_false] at hc
    rcases hc with rfl | rfl | rfl | rfl | rfl
    · exact Nat.le_add_right _ _
    · exact Nat.le_add_right _ _
    · exact Nat.le_add_right _ _
    · exact Nat.le_refl _
    · exact Nat.le_add_right _ _
  exact I1.fpOk hcs (I1.hok.fresh hcs)
end
theorem lc_zip {K : PySem.W.Frag} {t : Bool} {a b : Addr} {xs ys : List V} {g : TG} {tt : TT} {te : TE} {Q : V → Hp → Prop} {σ : St} {H : Hp} (hn : xs.length = ys.length) (Pv : Nat → St → List V → Hp → Prop) (h0 : Pv 0 σ [] H) (hl : ∀ i σ zs H, i ≤ xs.length → Pv i σ zs H → SqB t K H a xs ∧ SqB t K H b ys) (hz : ∀ i σ zs H, i ≤ xs.length → Pv i σ zs H → zs.length ≤ sizeLine)
    (hs : ∀ i x y σ zs H T, xs[i]? = some x → ys[i]? = some y → Pv i σ zs H → H T = none → g (.ref T) σ (upd H T (.tup [x, y])) fun σ2 H3 => tt σ2 H3 fun ok H4 => if ok = true then te σ2 H4 fun y H5 => Pv (i + 1) σ2 (zs ++ [y]) H5 else Pv (i + 1) σ2 zs H4)
    (hd : ∀ σ zs H, Pv xs.length σ zs H → ∀ D, H D = none → Q (.ref D) (upd H D (.lst zs))) :
    ∃ W : Nat → Nat → St → List V → Hp → Prop, (∃ m, W 0 m σ [] H) ∧ LoopC (Itz K t a b) g tt te W Q := by
  refine ⟨fun i m σ zs H => m = xs.length - i ∧ i ≤ xs.length ∧ Pv i σ zs H, ⟨xs.length, by simp, Nat.zero_le _, h0⟩, ?_⟩
  rintro i m σ zs H ⟨rfl, hi, p⟩
  obtain ⟨q1, q2⟩ := hl i σ zs H hi p
  by_cases hlt : i < xs.length
  · refine .inr ⟨⟨xs, ys, xs[i], ys[i]'(by (first | lia | omega)), q1, q2, by simp [hlt], by simp⟩, Pv (i + 1), fun σ' zs H' p' => ⟨hz _ _ _ _ hlt p', xs.length - (i + 1), by (first | lia | omega), rfl, hlt, p'⟩, fun x H' y => ?_⟩
    obtain ⟨T, hT, rfl, y⟩ := y
    obtain ⟨x1, y1, e1, e2, rfl⟩ := y xs ys q1 q2
    exact hs i x1 y1 σ zs H T e1 e2 p hT
  · have e : i = xs.length := by (first | lia | omega)
    subst e
    exact .inl ⟨⟨xs, ys, q1, q2, .inl (Nat.le_refl _)⟩, hd σ zs H p⟩
theorem lc_enum {K : PySem.W.Frag} {a : Addr} {xs : List V} {g : TG} {tt : TT} {te : TE} {Q : V → Hp → Prop} {σ : St} {H : Hp} (Pv : Nat → St → List V → Hp → Prop) (h0 : Pv 0 σ [] H) (hl : ∀ i σ zs H, i ≤ xs.length → Pv i σ zs H → SqL K H a xs) (hz : ∀ i σ zs H, i ≤ xs.length → Pv i σ zs H → zs.length ≤ sizeLine)
    (hs : ∀ i x σ zs H T, xs[i]? = some x → Pv i σ zs H → H T = none → g (.ref T) σ (upd H T (.tup [.int i, x])) fun σ2 H3 => tt σ2 H3 fun ok H4 => if ok = true then te σ2 H4 fun y H5 => Pv (i + 1) σ2 (zs ++ [y]) H5 else Pv (i + 1) σ2 zs H4)
    (hd : ∀ σ zs H, Pv xs.length σ zs H → ∀ D, H D = none → Q (.ref D) (upd H D (.lst zs))) :
    ∃ W : Nat → Nat → St → List V → Hp → Prop, (∃ m, W 0 m σ [] H) ∧ LoopC (Ite K a) g tt te W Q := by
  refine ⟨fun i m σ zs H => m = xs.length - i ∧ i ≤ xs.length ∧ Pv i σ zs H, ⟨xs.length, by simp, Nat.zero_le _, h0⟩, ?_⟩
  rintro i m σ zs H ⟨rfl, hi, p⟩
  have q := hl i σ zs H hi p
  by_cases hlt : i < xs.length
  · refine .inr ⟨⟨xs, xs[i], q, by simp [hlt]⟩, Pv (i + 1), fun σ' zs H' p' => ⟨hz _ _ _ _ hlt p', xs.length - (i + 1), by (first | lia | omega), rfl, hlt, p'⟩, fun x H' y => ?_⟩
    obtain ⟨T, hT, rfl, y⟩ := y
    obtain ⟨x1, e1, rfl⟩ := y xs q
    exact hs i x1 σ zs H T e1 p hT
  · have e : i = xs.length := by (first | lia | omega)
    subst e
    exact .inl ⟨⟨xs, q, Nat.le_refl _⟩, hd σ zs H p⟩
end L2
set_option Elab.async false
set_option linter.all false
set_option maxRecDepth 100000
namespace L2
open PySem PySem.Spec PyProof.Rows
mutual
inductive DA (H : Hp) : V → PyData → Prop
  | non : DA H .non .none
  | int (i : Int) : DA H (.int i) (.int i)
  | str (x : Str) : DA H (.str x) (.str x)
  | lst {a : Addr} {xs : List V} {ds : List PyData} : H a = some (.lst xs) → DAs H xs ds → DA H (.ref a) (.list ds)
  | tup {a : Addr} {xs : List V} {ds : List PyData} : H a = some (.tup xs) → DAs H xs ds → DA H (.ref a) (.tuple ds)
inductive DAs (H : Hp) : List V → List PyData → Prop
  | nil : DAs H [] []
  | cons {x : V} {xs : List V} {d : PyData} {ds : List PyData} : DA H x d → DAs H xs ds → DAs H (x :: xs) (d :: ds)
end
noncomputable def Still : HO → Bool
  | .dK _ => false
  | .ins _ _ _ => false
  | _ => true
noncomputable def Stl (H H' : Hp) : Prop := ∀ b o, Still o = true → H b = some o → H' b = some o
theorem Stl.of {H H' : Hp} (s : Same H H') : Stl H H' := fun b o _ h => s b o h
mutual
theorem DA.stl {H H' : Hp} (s : Stl H H') : ∀ {v : V} {d : PyData}, DA H v d → DA H' v d
  | _, _, .non => .non
  | _, _, .int i => .int i
  | _, _, .str x => .str x
  | _, _, .lst h t => .lst (s _ _ rfl h) (DAs.stl s t)
  | _, _, .tup h t => .tup (s _ _ rfl h) (DAs.stl s t)
theorem DAs.stl {H H' : Hp} (s : Stl H H') : ∀ {vs : List V} {ds : List PyData}, DAs H vs ds → DAs H' vs ds
  | _, _, .nil => .nil
  | _, _, .cons h t => .cons (h.stl s) (DAs.stl s t)
end
theorem DAs.same {H H' : Hp} {vs : List V} {ds : List PyData} (h : DAs H vs ds) (s : Same H H') : DAs H' vs ds := h.stl (Stl.of s)
theorem DA.same {H H' : Hp} {v : V} {d : PyData} (h : DA H v d) (s : Same H H') : DA H' v d := h.stl (Stl.of s)
theorem DAs.len {H : Hp} : ∀ {vs : List V} {ds : List PyData}, DAs H vs ds → vs.length = ds.length
  | _, _, .nil => rfl
  | _, _, .cons _ t => by simp [DAs.len t]
theorem DAs.get {H : Hp} : ∀ {vs : List V} {ds : List PyData} {i : Nat} {v : V}, DAs H vs ds → vs[i]? = some v → ∃ d, ds[i]? = some d ∧ DA H v d
  | _, _, _, _, .nil, e => by simp at e
  | _, _, 0, _, .cons h _, e => by simp at e; subst e; exact ⟨_, rfl, h⟩
  | _, _, i + 1, _, .cons _ t, e => by
    obtain ⟨d, h1, h2⟩ := DAs.get (i := i) t (by simpa using e)
    exact ⟨d, by simpa using h1, h2⟩
theorem DAs.snoc {H : Hp} : ∀ {vs : List V} {ds : List PyData} {v : V} {d : PyData}, DAs H vs ds → DA H v d → DAs H (vs ++ [v]) (ds ++ [d])
  | _, _, _, _, .nil, h => .cons h .nil
  | _, _, _, _, .cons h t, q => .cons h (DAs.snoc t q)
mutual
noncomputable def dDep : PyData → Nat
  | .list ds => dDeps ds + 1
  | .tuple ds => dDeps ds + 1
  | _ => 0
noncomputable def dDeps : List PyData → Nat
  | [] => 0
  | d :: ds => max (dDep d) (dDeps ds)
end
theorem dDep_at : ∀ {ds : List PyData} {i : Nat} {d : PyData}, ds[i]? = some d → dDep d ≤ dDeps ds
  | [], _, _, e => by simp at e
  | x :: ds, 0, d, e => by simp at e; subst e; rw [dDeps]; (first | lia | omega)
  | x :: ds, i + 1, d, e => by
    have := dDep_at (ds := ds) (i := i) (d := d) (by simpa using e)
    rw [dDeps]; (first | lia | omega)
mutual
noncomputable def dWid : PyData → Nat
  | .list ds => max ds.length (dWids ds)
  | .tuple ds => max ds.length (dWids ds)
  | _ => 0
noncomputable def dWids : List PyData → Nat
  | [] => 0
  | d :: ds => max (dWid d) (dWids ds)
end
theorem dWid_at : ∀ {ds : List PyData} {i : Nat} {d : PyData}, ds[i]? = some d → dWid d ≤ dWids ds
  | [], _, _, e => by simp at e
  | x :: ds, 0, d, e => by simp at e; subst e; rw [dWids]; (first | lia | omega)
  | x :: ds, i + 1, d, e => by
    have := dWid_at (ds := ds) (i := i) (d := d) (by simpa using e)
    rw [dWids]; (first | lia | omega)
theorem dWids_le {n : Nat} : ∀ {ds : List PyData}, (∀ d ∈ ds, dWid d ≤ n) → dWids ds ≤ n
  | [], _ => by rw [dWids]; (first | lia | omega)
  | x :: ds, h => by
    have h1 := h x (.head _)
    have h2 := dWids_le (ds := ds) fun d hd => h d (.tail _ hd)
    rw [dWids]; (first | lia | omega)
theorem dDeps_le {n : Nat} : ∀ {ds : List PyData}, (∀ d ∈ ds, dDep d ≤ n) → dDeps ds ≤ n
  | [], _ => by rw [dDeps]; (first | lia | omega)
  | x :: ds, h => by
    have h1 := h x (.head _)
    have h2 := dDeps_le (ds := ds) fun d hd => h d (.tail _ hd)
    rw [dDeps]; (first | lia | omega)
theorem kit_no (K : PySem.W.Frag) (a b : String) (h1 : ((Value.type a) == (Value.type b)) = false) (h2 : PySem.W.kitMeta b = true) (h3 : (fastBuiltinMro a).map (·.contains (.type b)) = some false) : PySem.W.kitOne K (.type a) (.type b) = some false := by
  unfold PySem.W.kitOne
  rw [h1, if_neg (by simp)]
  show (if PySem.W.kitMeta b = true then PySem.W.subIn K (.type a) (.type b) else none) = some false
  rw [if_pos h2]
  exact h3
theorem kit_same (K : PySem.W.Frag) (a : String) (h1 : ((Value.type a) == (Value.type a)) = true) : PySem.W.kitOne K (.type a) (.type a) = some true := by
  unfold PySem.W.kitOne
  rw [if_pos h1]
section
variable (K : PySem.W.Frag)
theorem k_tl : PySem.W.kitOne K (.type "tuple") (.type "list") = some false := kit_no K _ _ (by decide) (by decide +kernel) (by decide +kernel)
theorem k_sl : PySem.W.kitOne K (.type "str") (.type "list") = some false := kit_no K _ _ (by decide) (by decide +kernel) (by decide +kernel)
theorem k_st : PySem.W.kitOne K (.type "str") (.type "tuple") = some false := kit_no K _ _ (by decide) (by decide +kernel) (by decide +kernel)
theorem k_il : PySem.W.kitOne K (.type "int") (.type "list") = some false := kit_no K _ _ (by decide) (by decide +kernel) (by decide +kernel)
theorem k_it : PySem.W.kitOne K (.type "int") (.type "tuple") = some false := kit_no K _ _ (by decide) (by decide +kernel) (by decide +kernel)
theorem k_is' : PySem.W.kitOne K (.type "int") (.type "str") = some false := kit_no K _ _ (by decide) (by decide +kernel) (by decide +kernel)
theorem k_nl : PySem.W.kitOne K (.type "NoneType") (.type "list") = some false := kit_no K _ _ (by decide) (by decide +kernel) (by decide +kernel)
theorem k_nt : PySem.W.kitOne K (.type "NoneType") (.type "tuple") = some false := kit_no K _ _ (by decide) (by decide +kernel) (by decide +kernel)
theorem k_ns : PySem.W.kitOne K (.type "NoneType") (.type "str") = some false := kit_no K _ _ (by decide) (by decide +kernel) (by decide +kernel)
theorem k_ss : PySem.W.kitOne K (.type "str") (.type "str") = some true := kit_same K _ (by decide)
noncomputable def lt2 : List Value := [.type "list", .type "tuple"]
theorem k2_l : PySem.W.kitAny K (.type "list") lt2 = some true := by unfold lt2 PySem.W.kitAny; rw [kit_list K]
theorem k2_t : PySem.W.kitAny K (.type "tuple") lt2 = some true := by unfold lt2 PySem.W.kitAny; rw [k_tl K]; unfold PySem.W.kitAny; rw [kit_tuple K]
theorem k2_s : PySem.W.kitAny K (.type "str") lt2 = some false := by unfold lt2 PySem.W.kitAny; rw [k_sl K]; unfold PySem.W.kitAny; rw [k_st K]; rfl
theorem k2_i : PySem.W.kitAny K (.type "int") lt2 = some false := by unfold lt2 PySem.W.kitAny; rw [k_il K]; unfold PySem.W.kitAny; rw [k_it K]; rfl
theorem k2_n : PySem.W.kitAny K (.type "NoneType") lt2 = some false := by unfold lt2 PySem.W.kitAny; rw [k_nl K]; unfold PySem.W.kitAny; rw [k_nt K]; rfl
end
noncomputable def tyD : PyData → String
  | .none => "NoneType"
  | .int _ => "int"
  | .str _ => "str"
  | .list _ => "list"
  | _ => "tuple"
section
variable {X : Cx}
theorem call_isi2 : CallR X (.builtin "isinstance") (fun xs H Q => ∃ (x : V) (d : PyData) (tp : Addr) (b : Bool), xs = [x, .ref tp] ∧ DA H x d ∧ H tp = some (.tup [.ty "list", .ty "tuple"]) ∧ PySem.W.kitAny X.K (.type (tyD d)) lt2 = some b ∧ Q (.bl b) H) := by
  intro pins s σ H xs us Q I r h
  obtain ⟨x, d, tp, b, rfl, da, ht, e, q⟩ := h
  obtain ⟨u, w', rfl, ru, rt⟩ := vals2 r
  cases rt
  obtain ⟨_, its, rv, o, ho, hc, n, hd⟩ := I.hok tp _ ht
  have hits : its = lt2 := by
    cases rv with
    | cons r1 r2 =>
      cases r2 with
      | cons r3 r4 =>
        cases r4
        rw [show _ = Value.type "list" from r1, show _ = Value.type "tuple" from r3]
        rfl
  subst hits
  obtain ⟨oc, od, odata, osl⟩ := o
  cases hc
  cases hd
  have fin : ∀ tk, EP X pins σ Q (.bool b) { s with toks := tk } := fun tk => ⟨.bl b, H, I.tok tk, rfl, q⟩
  cases da with
  | non => cases (show u = Value.none from ru); exact PySem.W.kia_tup PySem.W.kitx_none I.kIn True.intro ho e (fun z => nomatch z) fin
  | int i => obtain ⟨t, z⟩ := (show ∃ t, u = Value.int i t from ru); cases z; exact PySem.W.kia_tup PySem.W.kitx_int I.kIn True.intro ho e (fun z => nomatch z) fin
  | str y => obtain ⟨t, z⟩ := (show ∃ t, u = Value.str y t from ru); cases z; exact PySem.W.kia_tup PySem.W.kitx_str I.kIn True.intro ho e (fun z => nomatch z) fin
  | @lst a xs ds ea _ =>
    cases (show u = Value.ref a from ru)
    obtain ⟨_, _, n', _, h1⟩ := (show ObjOk X.prog X.w H s.heap a (.lst xs) from I.hok a _ ea)
    exact PySem.W.kia_tup PySem.W.kitx_list I.kIn ⟨_, h1, rfl⟩ ho e (fun z => nomatch z) fin
  | @tup a xs ds ea _ =>
    cases (show u = Value.ref a from ru)
    obtain ⟨_, _, _, p⟩ := (show ObjOk X.prog X.w H s.heap a (.tup xs) from I.hok a _ ea)
    obtain ⟨o', h1, h2, _⟩ := p
    exact PySem.W.kia_tup PySem.W.kitx_tuple I.kIn ⟨o', h1, h2⟩ ho e (fun z => nomatch z) fin
theorem pg_tupK {K : PySem.W.Frag} (hK : X.K = K) {es : List Expr} {k : Nat} {pos : Pos} {t : TGs} {n : Nat} (hc : X.calm = true) (h : PGs X es t) (hn : (assignEach es X.env).length = n := by rfl) (hst : (assignEach es X.env).findIdx? (·.1) = none := by rfl) :
    PG X (.Tuple es k pos) (gTup K n t) := by
  subst hK
  exact pg_tup hc h hn hst
theorem cap2 {x y : Str} {scope : Scope} (h : ∀ z ∈ scope.names, z.2 ≠ .free := by decide +kernel) : CapOk X [x, y] scope [none, none] where
  len := rfl
  at_ := fun i j z e _ => by
    match i, e with
    | 0, e => cases e
    | 1, e => cases e
    | i + 2, e => cases e
  fr := fun y hy hf => absurd hf (h y hy)
end
end L2
set_option Elab.async false
set_option linter.all false
set_option maxRecDepth 100000
namespace L2
open PySem PySem.Spec PyProof.Rows
noncomputable def lkp {κ α : Type} [DecidableEq κ] (l : List (κ × α)) (k : κ) : Option α := (l.find? fun p => decide (p.1 = k)).map (·.2)
section
variable {κ α : Type} [DecidableEq κ]
theorem lkp_nil (k : κ) : lkp ([] : List (κ × α)) k = none := rfl
theorem lkp_cons (p : κ × α) (l : List (κ × α)) (k : κ) : lkp (p :: l) k = if p.1 = k then some p.2 else lkp l k := by
  unfold lkp
  rw [List.find?_cons]
  by_cases e : p.1 = k
  · simp [e]
  · simp [e]
theorem lkp_mem : ∀ {l : List (κ × α)} {k : κ} {a : α}, lkp l k = some a → (k, a) ∈ l
  | p :: l, k, a, h => by
    rw [lkp_cons] at h
    split at h
    · rename_i e
      cases h
      subst e
      exact .head _
    · exact .tail _ (lkp_mem h)
theorem lkp_none : ∀ {l : List (κ × α)} {k : κ}, lkp l k = none ↔ k ∉ l.map (·.1)
  | [], k => by simp [lkp_nil]
  | p :: l, k => by
    rw [lkp_cons, List.map_cons, List.mem_cons]
    by_cases e : p.1 = k
    · simp [e]
    · rw [if_neg e, lkp_none (l := l)]
      constructor
      · intro h z
        rcases z with z | z
        · exact e z.symm
        · exact h z
      · intro h z
        exact h (.inr z)
theorem lkp_uniq : ∀ {l : List (κ × α)} {k : κ} {a : α}, (l.map (·.1)).Nodup → (k, a) ∈ l → lkp l k = some a
  | p :: l, k, a, nd, h => by
    rw [List.map_cons, List.nodup_cons] at nd
    rw [lkp_cons]
    rcases List.mem_cons.mp h with rfl | h
    · rw [if_pos rfl]
    · have : p.1 ≠ k := fun e => nd.1 (by rw [e]; exact List.mem_map.mpr ⟨_, h, rfl⟩)
      rw [if_neg this]
      exact lkp_uniq nd.2 h
theorem lkp_snoc : ∀ (l : List (κ × α)) (k j : κ) (a : α), lkp l k = none → lkp (l ++ [(k, a)]) j = if j = k then some a else lkp l j
  | [], k, j, a, _ => by
    rw [List.nil_append, lkp_cons, lkp_nil]
    by_cases e : j = k
    · rw [if_pos e, if_pos e.symm]
    · rw [if_neg e, if_neg (Ne.symm e)]
  | p :: l, k, j, a, h => by
    rw [lkp_cons] at h
    by_cases e : p.1 = k
    · rw [if_pos e] at h; cases h
    · rw [if_neg e] at h
      rw [List.cons_append, lkp_cons, lkp_cons, lkp_snoc l k j a h]
      by_cases e2 : p.1 = j
      · rw [if_pos e2, if_pos e2]
        have : ¬ j = k := fun z => e (e2.trans z)
        rw [if_neg this]
      · rw [if_neg e2, if_neg e2]
end
theorem valV_lkp {κ : Type} [DecidableEq κ] (l : List (κ × V)) (k : κ) : valV l k = lkp l k := rfl
theorem val_int {β : Type} (f : β → V) : ∀ (l : List (Int × β)) (k : Int), valV (l.map fun p => ((Sum.inl p.1 : Key), f p.2)) (Sum.inl k) = (lkp l k).map f
  | [], _ => rfl
  | p :: l, k => by
    rw [List.map_cons, valV_lkp, lkp_cons, lkp_cons, ← valV_lkp, val_int f l k]
    by_cases e : p.1 = k
    · rw [if_pos e, if_pos (by rw [e])]; rfl
    · rw [if_neg e, if_neg (fun z => e (Sum.inl.inj z))]
theorem val_str : ∀ (es : List (Str × Int)) (x : Str), valV (es.map eKV) (Sum.inr x) = (lkp es x).map V.int
  | [], _ => rfl
  | p :: l, k => by
    rw [List.map_cons, valV_lkp, lkp_cons, lkp_cons, ← valV_lkp, val_str l k]
    by_cases e : p.1 = k
    · rw [if_pos e, if_pos (by show (Sum.inr p.1 : Key) = _; rw [e])]; rfl
    · rw [if_neg e, if_neg (show ¬ (eKV p).1 = Sum.inr k from fun z => e (Sum.inr.inj z))]
noncomputable abbrev Ent := List (Str × Int)
structure Sh where
  fo : List (Int × Ent)
  fi : List (Int × Int × Str)
  last : Int
structure Good (S : Sh) : Prop where
  kf : (S.fo.map (·.1)).Nodup
  kg : (S.fi.map (·.1)).Nodup
  cover : ∀ n : Int, ((lkp S.fo n).isSome = true ∨ (lkp S.fi n).isSome = true) ↔ (0 ≤ n ∧ n ≤ S.last)
  apart : ∀ n : Int, (lkp S.fo n).isSome = true → lkp S.fi n = none
  one : (lkp S.fo 1).isSome = true
  few : ∀ p ∈ S.fo, (p.2.length : Int) ≤ S.last
  top : S.last ≤ 62
  low : 1 ≤ S.last
noncomputable def addE (fo : List (Int × Ent)) (w : Int) (x : Str) (n : Int) : List (Int × Ent) := fo.map fun p => if p.1 = w then (p.1, p.2 ++ [(x, n)]) else p
noncomputable def Sh.file (S : Sh) (w : Int) (x c : Str) : Sh := ⟨addE S.fo w x (S.last + 1), S.fi ++ [(S.last + 1, 0, c)], S.last + 1⟩
noncomputable def Sh.fold (S : Sh) (w : Int) (x : Str) : Sh := ⟨addE (S.fo ++ [(S.last + 1, [])]) w x (S.last + 1), S.fi, S.last + 1⟩
noncomputable def Sh.put (S : Sh) (n v : Int) (c : Str) : Sh := ⟨S.fo, S.fi.map fun p => if p.1 = n then (p.1, v, c) else p, S.last⟩
theorem addE_keys (fo : List (Int × Ent)) (w : Int) (x : Str) (n : Int) : (addE fo w x n).map (·.1) = fo.map (·.1) := by
  unfold addE
  rw [List.map_map]
  apply List.map_congr_left
  intro p _
  show (if p.1 = w then (p.1, p.2 ++ [(x, n)]) else p).1 = p.1
  split <;> rfl
theorem lkp_some_iff {α : Type} {l : List (Int × α)} {k : Int} : (lkp l k).isSome = true ↔ k ∈ l.map (·.1) := by
  cases h : lkp l k with
  | none => simp [lkp_none.mp h]
  | some a => simp; exact ⟨a, lkp_mem h⟩
theorem putKeys {α : Type} (l : List (Int × α)) (n : Int) (f : α) : ((l.map fun p => if p.1 = n then (p.1, f) else p).map (·.1)) = l.map (·.1) := by
  rw [List.map_map]
  apply List.map_congr_left
  intro p _
  show (if p.1 = n then (p.1, f) else p).1 = p.1
  split <;> rfl
theorem Good.file {S : Sh} (g : Good S) (w : Int) (x c : Str) (ht : S.last < 62) : Good (S.file w x c) := by
  have hl := g.low
  have new1 : lkp S.fo (S.last + 1) = none := by
    cases h : lkp S.fo (S.last + 1) with
    | none => rfl
    | some a => have := (g.cover (S.last + 1)).mp (.inl (by rw [h]; rfl)); omega
  have new2 : lkp S.fi (S.last + 1) = none := by
    cases h : lkp S.fi (S.last + 1) with
    | none => rfl
    | some a => have := (g.cover (S.last + 1)).mp (.inr (by rw [h]; rfl)); omega
  have ks : ∀ n, (lkp (addE S.fo w x (S.last + 1)) n).isSome = (lkp S.fo n).isSome := fun n => by
    rw [Bool.eq_iff_iff, lkp_some_iff, lkp_some_iff, addE_keys]
  refine ⟨by show ((addE S.fo w x (S.last + 1)).map (·.1)).Nodup; rw [addE_keys]; exact g.kf, ?_, fun n => ?_, fun n hn => ?_, ?_, fun p hp => ?_, by show S.last + 1 ≤ 62; omega, by show 1 ≤ S.last + 1; omega⟩
  · show (List.map (fun p : Int × Int × Str => p.1) (S.fi ++ [(S.last + 1, 0, c)])).Nodup
    rw [List.map_append, List.nodup_append]
    refine ⟨g.kg, by simp, fun a ha b hb e => ?_⟩
    simp at hb
    subst hb
    subst e
    exact lkp_none.mp new2 ha
  · show ((lkp (addE S.fo w x _) n).isSome = true ∨ (lkp (S.fi ++ [(S.last + 1, 0, c)]) n).isSome = true) ↔ _
    rw [ks, lkp_snoc _ _ _ _ new2]
    have hc := g.cover n
    by_cases e : n = S.last + 1
    · rw [if_pos e]
      simp
      show 0 ≤ n ∧ n ≤ S.last + 1
      omega
    · rw [if_neg e]
      rw [hc]
      show _ ↔ 0 ≤ n ∧ n ≤ S.last + 1
      omega
  · show lkp (S.fi ++ [(S.last + 1, 0, c)]) n = none
    rw [show (lkp (Sh.file S w x c).fo n).isSome = (lkp S.fo n).isSome from ks n] at hn
    rw [lkp_snoc _ _ _ _ new2]
    have : n ≠ S.last + 1 := fun e => by rw [e, new1] at hn; cases hn
    rw [if_neg this]
    exact g.apart n hn
  · show (lkp (addE S.fo w x _) 1).isSome = true
    rw [ks]
    exact g.one
  · obtain ⟨p', hp', rfl⟩ := List.mem_map.mp (show p ∈ addE S.fo w x (S.last + 1) from hp)
    have := g.few p' hp'
    show (_ : Int) ≤ S.last + 1
    split
    · show ((p'.2 ++ [(x, S.last + 1)]).length : Int) ≤ _
      rw [List.length_append]
      simp
      omega
    · omega
theorem Good.fold {S : Sh} (g : Good S) (w : Int) (x : Str) (ht : S.last < 62) : Good (S.fold w x) := by
  have hl := g.low
  have new1 : lkp S.fo (S.last + 1) = none := by
    cases h : lkp S.fo (S.last + 1) with
    | none => rfl
    | some a => have := (g.cover (S.last + 1)).mp (.inl (by rw [h]; rfl)); omega
  have new2 : lkp S.fi (S.last + 1) = none := by
    cases h : lkp S.fi (S.last + 1) with
    | none => rfl
    | some a => have := (g.cover (S.last + 1)).mp (.inr (by rw [h]; rfl)); omega
  have ks : ∀ n, (lkp (addE (S.fo ++ [(S.last + 1, [])]) w x (S.last + 1)) n).isSome = (lkp (S.fo ++ [(S.last + 1, ([] : Ent))]) n).isSome := fun n => by
    rw [Bool.eq_iff_iff, lkp_some_iff, lkp_some_iff, addE_keys]
  refine ⟨?_, g.kg, fun n => ?_, fun n hn => ?_, ?_, fun p hp => ?_, by show S.last + 1 ≤ 62; omega, by show 1 ≤ S.last + 1; omega⟩
  · show ((addE (S.fo ++ [(S.last + 1, [])]) w x (S.last + 1)).map (·.1)).Nodup
    rw [addE_keys, List.map_append, List.nodup_append]
    refine ⟨g.kf, by simp, fun a ha b hb e => ?_⟩
    simp at hb
    subst hb
    subst e
    exact lkp_none.mp new1 ha
  · show ((lkp (addE (S.fo ++ [(S.last + 1, [])]) w x (S.last + 1)) n).isSome = true ∨ (lkp S.fi n).isSome = true) ↔ _
    rw [ks, lkp_snoc _ _ _ _ new1]
    have hc := g.cover n
    by_cases e : n = S.last + 1
    · rw [if_pos e]
      simp
      show 0 ≤ n ∧ n ≤ S.last + 1
      omega
    · rw [if_neg e]
      rw [hc]
      show _ ↔ 0 ≤ n ∧ n ≤ S.last + 1
      omega
  · show lkp S.fi n = none
    rw [show (lkp (Sh.fold S w x).fo n).isSome = _ from ks n, lkp_snoc _ _ _ _ new1] at hn
    by_cases e : n = S.last + 1
    · rw [e]; exact new2
    · rw [if_neg e] at hn
      exact g.apart n hn
  · show (lkp (addE (S.fo ++ [(S.last + 1, [])]) w x (S.last + 1)) 1).isSome = true
    rw [ks, lkp_snoc _ _ _ _ new1, if_neg (by omega)]
    exact g.one
  · obtain ⟨p', hp', rfl⟩ := List.mem_map.mp (show p ∈ addE (S.fo ++ [(S.last + 1, [])]) w x (S.last + 1) from hp)
    have : (p'.2.length : Int) ≤ S.last := by
      rcases List.mem_append.mp hp' with h | h
      · exact g.few p' h
      · rw [List.mem_singleton.mp h]
        simp
        omega
    show (_ : Int) ≤ S.last + 1
    split
    · show ((p'.2 ++ [(x, S.last + 1)]).length : Int) ≤ _
      rw [List.length_append]
      simp
      omega
    · omega
theorem Good.put {S : Sh} (g : Good S) (n v : Int) (c : Str) : Good (S.put n v c) := by
  have ks : ∀ m, (lkp (S.put n v c).fi m).isSome = (lkp S.fi m).isSome := fun m => by
    rw [Bool.eq_iff_iff, lkp_some_iff, lkp_some_iff]
    show m ∈ ((S.fi.map fun p => if p.1 = n then (p.1, v, c) else p).map (·.1)) ↔ _
    rw [putKeys S.fi n (v, c)]
  refine ⟨g.kf, ?_, fun m => ?_, fun m hm => ?_, g.one, g.few, g.top, g.low⟩
  · show ((S.fi.map fun p => if p.1 = n then (p.1, v, c) else p).map (·.1)).Nodup
    rw [putKeys S.fi n (v, c)]
    exact g.kg
  · rw [ks]
    exact g.cover m
  · have h1 := g.apart m hm
    have h2 := ks m
    rw [h1] at h2
    cases e : lkp (S.put n v c).fi m with
    | none => rfl
    | some a => rw [e] at h2; cases h2
inductive Deed where
  | make (w : Int) (a c : Str)
  | fold (w : Int) (a : Str)
  | put (n v : Int) (c : Str)
inductive Ans where
  | made (n : Int)
  | put (v : Int)
  | no (w : Str)
  | clash (n : Int) (w : Str)
noncomputable def Ans.v : Ans → List V
  | .made n => [.str "made", .int n]
  | .put v => [.str "put", .int v]
  | .no w => [.str "refused", .str w]
  | .clash n w => [.str "clash", .int n, .str w]
noncomputable def Sh.mkd (S : Sh) (w : Int) (x : Str) (c : Option Str) : Sh × Ans :=
  match lkp S.fo w with
  | none => (S, .no (if (lkp S.fi w).isSome then "kind" else "gone"))
  | some es => if (lkp es x).isSome then (S, .no "there") else (match c with | some c => S.file w x c | none => S.fold w x, .made (S.last + 1))
noncomputable def Sh.pt (S : Sh) (n v : Int) (c : Str) : Sh × Ans :=
  match lkp S.fi n with
  | none => (S, .no (if (lkp S.fo n).isSome then "kind" else "gone"))
  | some f => if f.1 = v then (S.put n (v + 1) c, .put (v + 1)) else (S, .no "stale")
noncomputable def Sh.do (nm : Str → Bool) (S : Sh) : Deed → Sh × Ans
  | .make w x c => if nm x then S.mkd w x (some c) else (S, .no "name")
  | .fold w x => if nm x then S.mkd w x none else (S, .no "name")
  | .put n v c => S.pt n v c
theorem Good.mkd {S : Sh} (g : Good S) (w : Int) (x : Str) (c : Option Str) (ht : S.last < 62) : Good (S.mkd w x c).1 := by
  unfold Sh.mkd
  split
  · exact g
  · split
    · exact g
    · cases c with
      | some c => exact g.file w x c ht
      | none => exact g.fold w x ht
theorem Good.do {nm : Str → Bool} {S : Sh} (g : Good S) (d : Deed) (ht : S.last < 62) : Good (S.do nm d).1 := by
  cases d with
  | make w x c =>
    unfold Sh.do
    dsimp only
    split
    · exact g.mkd _ _ _ ht
    · exact g
  | fold w x =>
    unfold Sh.do
    dsimp only
    split
    · exact g.mkd _ _ _ ht
    · exact g
  | put n v c =>
    show Good (S.pt n v c).1
    unfold Sh.pt
    split
    · exact g
    · split
      · exact g.put _ _ _
      · exact g
theorem mk_last (S : Sh) (w : Int) (x : Str) (c : Option Str) : S.last ≤ (S.mkd w x c).1.last ∧ (S.mkd w x c).1.last ≤ S.last + 1 := by
  unfold Sh.mkd
  split
  · exact ⟨Int.le_refl _, by show S.last ≤ S.last + 1; omega⟩
  · split
    · exact ⟨Int.le_refl _, by show S.last ≤ S.last + 1; omega⟩
    · cases c with
      | some c => exact ⟨by show S.last ≤ S.last + 1; omega, Int.le_refl _⟩
      | none => exact ⟨by show S.last ≤ S.last + 1; omega, Int.le_refl _⟩
theorem do_last (nm : Str → Bool) (S : Sh) (d : Deed) : S.last ≤ (S.do nm d).1.last ∧ (S.do nm d).1.last ≤ S.last + 1 := by
  cases d with
  | make w x c =>
    unfold Sh.do
    dsimp only
    split
    · exact mk_last ..
    · exact ⟨Int.le_refl _, by show S.last ≤ S.last + 1; omega⟩
  | fold w x =>
    unfold Sh.do
    dsimp only
    split
    · exact mk_last ..
    · exact ⟨Int.le_refl _, by show S.last ≤ S.last + 1; omega⟩
  | put n v c =>
    show S.last ≤ (S.pt n v c).1.last ∧ (S.pt n v c).1.last ≤ S.last + 1
    unfold Sh.pt
    split
    · exact ⟨Int.le_refl _, by show S.last ≤ S.last + 1; omega⟩
    · split
      · exact ⟨Int.le_refl _, by show S.last ≤ S.last + 1; omega⟩
      · exact ⟨Int.le_refl _, by show S.last ≤ S.last + 1; omega⟩
end L2
set_option Elab.async false
set_option linter.all false
set_option maxRecDepth 100000
namespace L2
open PySem PySem.Spec PyProof.Rows
noncomputable def Kp (fp : List Addr) (H H' : Hp) : Prop := ∀ b o, b ∉ fp → H b = some o → H' b = some o
theorem Kp.refl (fp : List Addr) (H : Hp) : Kp fp H H := fun _ _ _ h => h
theorem Kp.trans {fp : List Addr} {H H1 H2 : Hp} (a : Kp fp H H1) (b : Kp fp H1 H2) : Kp fp H H2 := fun c o n h => b c o n (a c o n h)
theorem Kp.of {fp : List Addr} {H H' : Hp} (s : Same H H') : Kp fp H H' := fun b o _ h => s b o h
theorem Kp.put {fp : List Addr} {H H1 : Hp} {a : Addr} {o : HO} (k : Kp fp H H1) (h : a ∈ fp) : Kp fp H (upd H1 a o) := fun b u n e => by
  rw [upd_ne (fun z => n (by rw [z]; exact h))]
  exact k b u n e
theorem Kp.new {fp : List Addr} {H H1 : Hp} {a : Addr} {o : HO} (k : Kp fp H H1) (h : H1 a = none) : Kp fp H (upd H1 a o) := fun b u n e => by
  have := k b u n e
  rw [upd_ne (ne_of_none this h)]
  exact this
theorem Kp.free {fp : List Addr} {H H' : Hp} {b : Addr} (k : Kp fp H H') (n : b ∉ fp) (h : H' b = none) : H b = none := by
  cases e : H b with
  | none => rfl
  | some o => rw [k b o n e] at h; cases h
structure Aft (H : Hp) (fp : List Addr) (H' : Hp) (fp' : List Addr) : Prop where
  kp : Kp fp H H'
  sub : ∀ b ∈ fp', b ∈ fp ∨ H b = none
  gr : ∀ b ∈ fp, b ∈ fp'
theorem Aft.refl (H : Hp) (fp : List Addr) : Aft H fp H fp := ⟨Kp.refl fp H, fun b h => .inl h, fun b h => h⟩
theorem Aft.trans {H H1 H2 : Hp} {fp fp1 fp2 : List Addr} (a : Aft H fp H1 fp1) (b : Aft H1 fp1 H2 fp2) : Aft H fp H2 fp2 := by
  refine ⟨fun c o n e => b.kp c o (fun z => ?_) (a.kp c o n e), fun c hc => ?_, fun c h => b.gr c (a.gr c h)⟩
  · rcases a.sub c z with h | h
    · exact n h
    · rw [e] at h; cases h
  · rcases b.sub c hc with h | h
    · exact a.sub c h
    · by_cases n : c ∈ fp
      · exact .inl n
      · exact .inr (a.kp.free n h)
theorem Aft.same {H H1 H2 : Hp} {fp fp1 : List Addr} (a : Aft H fp H1 fp1) (s : Same H1 H2) : Aft H fp H2 fp1 := ⟨a.kp.trans (Kp.of s), a.sub, a.gr⟩
structure Tab (H : Hp) (df dg : Addr) (fa : List (Int × Addr × Ent)) (ft : List (Int × Addr × Int × Str)) : Prop where
  hf : H df = some (.dK (fa.map fun p => (Sum.inl p.1, .ref p.2.1)))
  hg : H dg = some (.dK (ft.map fun p => (Sum.inl p.1, .ref p.2.1)))
  he : ∀ p ∈ fa, H p.2.1 = some (.dK (p.2.2.map eKV))
  ht : ∀ p ∈ ft, H p.2.1 = some (.tup [.int p.2.2.1, .str p.2.2.2])
  nd : (df :: dg :: fa.map (·.2.1)).Nodup
noncomputable abbrev foot (df dg : Addr) (fa : List (Int × Addr × Ent)) : List Addr := df :: dg :: fa.map (·.2.1)
section
variable {H : Hp} {df dg : Addr} {fa : List (Int × Addr × Ent)} {ft : List (Int × Addr × Int × Str)}
theorem Tab.dK (T : Tab H df dg fa ft) {b : Addr} (hb : b ∈ foot df dg fa) : ∃ kvs, H b = some (.dK kvs) := by
  rcases List.mem_cons.mp hb with rfl | hb
  · exact ⟨_, T.hf⟩
  rcases List.mem_cons.mp hb with rfl | hb
  · exact ⟨_, T.hg⟩
  obtain ⟨p, hp, rfl⟩ := List.mem_map.mp hb
  exact ⟨_, T.he p hp⟩
theorem Tab.frame {H' : Hp} {fp : List Addr} (T : Tab H df dg fa ft) (k : Kp fp H H') (dis : ∀ b ∈ foot df dg fa, b ∉ fp) (mu : ∀ b ∈ fp, ∀ xs, H b ≠ some (.tup xs)) : Tab H' df dg fa ft :=
  ⟨k _ _ (dis df (by simp)) T.hf, k _ _ (dis dg (by simp)) T.hg, fun p hp => k _ _ (dis _ (by simp; exact .inr (.inr ⟨_, _, hp⟩))) (T.he p hp), fun p hp => k _ _ (fun z => mu _ z _ (T.ht p hp)) (T.ht p hp), T.nd⟩
theorem Tab.same {H' : Hp} (T : Tab H df dg fa ft) (s : Same H H') : Tab H' df dg fa ft :=
  ⟨s _ _ T.hf, s _ _ T.hg, fun p hp => s _ _ (T.he p hp), fun p hp => s _ _ (T.ht p hp), T.nd⟩
theorem Tab.getF (T : Tab H df dg fa ft) (w : Int) : DGet H df (.int w) ((lkp fa w).map fun q => .ref q.1) := by
  have h := DGet.k (k := Sum.inl w) T.hf
  rw [val_int (fun q : Addr × Ent => V.ref q.1)] at h
  exact h
theorem Tab.getG (T : Tab H df dg fa ft) (n : Int) : DGet H dg (.int n) ((lkp ft n).map fun q => .ref q.1) := by
  have h := DGet.k (k := Sum.inl n) T.hg
  rw [val_int (fun q : Addr × Int × Str => V.ref q.1)] at h
  exact h
theorem Tab.getE (T : Tab H df dg fa ft) {w : Int} {a : Addr} {es : Ent} (h : lkp fa w = some (a, es)) (x : Str) : DGet H a (.str x) ((lkp es x).map V.int) := by
  have h1 := DGet.k (k := Sum.inr x) (T.he _ (lkp_mem h))
  rw [val_str] at h1
  exact h1
noncomputable def addA (fa : List (Int × Addr × Ent)) (w : Int) (x : Str) (n : Int) : List (Int × Addr × Ent) := fa.map fun p => if p.1 = w then (p.1, p.2.1, p.2.2 ++ [(x, n)]) else p
theorem addA_ad (fa : List (Int × Addr × Ent)) (w : Int) (x : Str) (n : Int) : (addA fa w x n).map (·.2.1) = fa.map (·.2.1) := by
  unfold addA
  rw [List.map_map]
  apply List.map_congr_left
  intro p _
  show (if p.1 = w then (p.1, p.2.1, p.2.2 ++ [(x, n)]) else p).2.1 = p.2.1
  split <;> rfl
theorem addA_kv (fa : List (Int × Addr × Ent)) (w : Int) (x : Str) (n : Int) : ((addA fa w x n).map fun p => ((Sum.inl p.1 : Key), V.ref p.2.1)) = fa.map fun p => (Sum.inl p.1, .ref p.2.1) := by
  unfold addA
  rw [List.map_map]
  apply List.map_congr_left
  intro p _
  show ((Sum.inl (if p.1 = w then (p.1, p.2.1, p.2.2 ++ [(x, n)]) else p).1 : Key), V.ref (if p.1 = w then (p.1, p.2.1, p.2.2 ++ [(x, n)]) else p).2.1) = _
  split <;> rfl
theorem map_inj {α β : Type} (f : α → β) : ∀ {l : List α} {p q : α}, (l.map f).Nodup → p ∈ l → q ∈ l → f p = f q → p = q
  | a :: l, p, q, nd, hp, hq, e => by
    rw [List.map_cons, List.nodup_cons] at nd
    rcases List.mem_cons.mp hp with e1 | hp'
    · rcases List.mem_cons.mp hq with e2 | hq'
      · rw [e1, e2]
      · exact (nd.1 (List.mem_map.mpr ⟨q, hq', by rw [← e, e1]⟩)).elim
    · rcases List.mem_cons.mp hq with e2 | hq'
      · exact (nd.1 (List.mem_map.mpr ⟨p, hp', by rw [e, e2]⟩)).elim
      · exact map_inj f nd.2 hp' hq' e
theorem mem_ad {p : Int × Addr × Ent} (hp : p ∈ fa) : p.2.1 ∈ foot df dg fa := by
  refine .tail _ (.tail _ (List.mem_map.mpr ⟨p, hp, rfl⟩))
theorem Tab.entry (T : Tab H df dg fa ft) (kn : (fa.map (·.1)).Nodup) {w : Int} {a : Addr} {es : Ent} (h : lkp fa w = some (a, es)) (x : Str) (n : Int) :
    Tab (upd H a (.dK ((es ++ [(x, n)]).map eKV))) df dg (addA fa w x n) ft := by
  have hm := lkp_mem h
  have nd := T.nd
  rw [List.nodup_cons, List.nodup_cons] at nd
  have ndf : df ≠ a := fun e => nd.1 (.tail _ (List.mem_map.mpr ⟨_, hm, e.symm⟩))
  have ndg : dg ≠ a := fun e => nd.2.1 (List.mem_map.mpr ⟨_, hm, e.symm⟩)
  refine ⟨?_, ?_, fun p hp => ?_, fun p hp => ?_, ?_⟩
  · rw [upd_ne ndf, addA_kv]; exact T.hf
  · rw [upd_ne ndg]; exact T.hg
  · obtain ⟨p', hp', rfl⟩ := List.mem_map.mp hp
    by_cases e : p'.1 = w
    · have h2 := lkp_uniq kn (show (p'.1, p'.2) ∈ fa from hp')
      rw [e, h] at h2
      have h3 : p'.2 = (a, es) := (Option.some.inj h2).symm
      simp only [e, if_true]
      show upd H _ _ p'.2.1 = _
      rw [h3, upd_same]
    · simp only [e, if_false]
      have : p'.2.1 ≠ a := fun z => by
        exact e (by rw [map_inj (·.2.1) nd.2.2 hp' hm z])
      rw [upd_ne this]
      exact T.he p' hp'
  · rw [upd_ne (ne_of (T.ht p hp) (T.he _ hm) (by intro z; cases z))]
    exact T.ht p hp
  · rw [addA_ad]; exact T.nd
theorem kv_snoc {β : Type} (f : β → V) (l : List (Int × β)) (n : Int) (b : β) (h : lkp l n = none) : putK (l.map fun p => ((Sum.inl p.1 : Key), f p.2)) (Sum.inl n) (f b) = (l ++ [(n, b)]).map fun p => (Sum.inl p.1, f p.2) := by
  rw [putK_new _ (by rw [val_int f, h]; rfl), List.map_append]
  rfl
theorem Tab.file (T : Tab H df dg fa ft) {n : Int} {u : Addr} {c : Str} {v : Int} (h : lkp ft n = none) (hu : H u = some (.tup [.int v, .str c])) :
    Tab (upd H dg (.dK ((ft ++ [(n, u, v, c)]).map fun p => (Sum.inl p.1, .ref p.2.1)))) df dg fa (ft ++ [(n, u, v, c)]) := by
  have nd := T.nd
  rw [List.nodup_cons, List.nodup_cons] at nd
  refine ⟨?_, upd_same, fun p hp => ?_, fun p hp => ?_, T.nd⟩
  · rw [upd_ne (fun e => nd.1 (by rw [e]; exact .head _))]; exact T.hf
  · rw [upd_ne (fun e => nd.2.1 (by rw [← e]; exact List.mem_map.mpr ⟨p, hp, rfl⟩))]; exact T.he p hp
  · have : H p.2.1 = some (.tup [.int p.2.2.1, .str p.2.2.2]) := by
      rcases List.mem_append.mp hp with hp | hp
      · exact T.ht p hp
      · rw [List.mem_singleton.mp hp]; exact hu
    rw [upd_ne (ne_of this T.hg (by intro z; cases z))]
    exact this
theorem Tab.folder (T : Tab H df dg fa ft) {n : Int} {u : Addr} (hu : H u = some (.dK [])) (hn : u ∉ foot df dg fa) :
    Tab (upd H df (.dK ((fa ++ [(n, u, ([] : Ent))]).map fun p : Int × Addr × Ent => (Sum.inl p.1, .ref p.2.1)))) df dg (fa ++ [(n, u, ([] : Ent))]) ft := by
  have nd := T.nd
  rw [List.nodup_cons, List.nodup_cons] at nd
  have hn' : u ≠ df ∧ u ≠ dg ∧ u ∉ fa.map (·.2.1) := ⟨fun e => hn (by simp [e]), fun e => hn (by simp [e]), fun e => hn (.tail _ (.tail _ e))⟩
  refine ⟨upd_same, ?_, fun p hp => ?_, fun p hp => ?_, ?_⟩
  · rw [upd_ne (fun e => nd.1 (by rw [← e]; exact .head _))]; exact T.hg
  · rcases List.mem_append.mp hp with hp | hp
    · rw [upd_ne (fun e => nd.1 (by rw [← e]; exact .tail _ (List.mem_map.mpr ⟨p, hp, rfl⟩)))]; exact T.he p hp
    · rw [List.mem_singleton.mp hp]
      show upd H df _ u = _
      rw [upd_ne hn'.1]; exact hu
  · rw [upd_ne (ne_of (T.ht p hp) T.hf (by intro z; cases z))]
    exact T.ht p hp
  · rw [List.map_append]
    have e : df :: dg :: (fa.map (·.2.1) ++ [(n, u, ([] : Ent))].map (·.2.1)) = (df :: dg :: fa.map (·.2.1)) ++ [u] := rfl
    rw [e, List.nodup_append]
    refine ⟨T.nd, by simp, fun a ha b hb z => ?_⟩
    rw [List.mem_singleton.mp hb] at z
    exact hn (by rw [← z]; exact ha)
noncomputable def putA (ft : List (Int × Addr × Int × Str)) (n : Int) (q : Addr × Int × Str) : List (Int × Addr × Int × Str) := ft.map fun p => if p.1 = n then (p.1, q) else p
theorem kv_put {β : Type} (f : β → V) (l : List (Int × β)) (n : Int) (b : β) (h : (lkp l n).isSome = true) : putK (l.map fun p => ((Sum.inl p.1 : Key), f p.2)) (Sum.inl n) (f b) = (l.map fun p => if p.1 = n then (p.1, b) else p).map fun p => (Sum.inl p.1, f p.2) := by
  unfold putK
  rw [valV_any, val_int f]
  have : ((lkp l n).map f).isSome = true := by
    cases e : lkp l n with
    | none => rw [e] at h; cases h
    | some a => rfl
  rw [if_pos this, List.map_map, List.map_map]
  apply List.map_congr_left
  intro p _
  show (if (Sum.inl p.1 : Key) = Sum.inl n then ((Sum.inl p.1 : Key), f b) else (Sum.inl p.1, f p.2)) = ((Sum.inl (if p.1 = n then (p.1, b) else p).1 : Key), f (if p.1 = n then (p.1, b) else p).2)
  by_cases e : p.1 = n
  · rw [if_pos (by rw [e]), if_pos e]
  · rw [if_neg (fun z => e (Sum.inl.inj z)), if_neg e]
theorem Tab.put (T : Tab H df dg fa ft) {n : Int} {u : Addr} {c : Str} {v : Int} (hu : H u = some (.tup [.int v, .str c])) :
    Tab (upd H dg (.dK ((putA ft n (u, v, c)).map fun p => (Sum.inl p.1, .ref p.2.1)))) df dg fa (putA ft n (u, v, c)) := by
  have nd := T.nd
  rw [List.nodup_cons, List.nodup_cons] at nd
  refine ⟨?_, upd_same, fun p hp => ?_, fun p hp => ?_, T.nd⟩
  · rw [upd_ne (fun e => nd.1 (by rw [e]; exact .head _))]; exact T.hf
  · rw [upd_ne (fun e => nd.2.1 (by rw [← e]; exact List.mem_map.mpr ⟨p, hp, rfl⟩))]; exact T.he p hp
  · have : H p.2.1 = some (.tup [.int p.2.2.1, .str p.2.2.2]) := by
      obtain ⟨p', hp', rfl⟩ := List.mem_map.mp hp
      by_cases e : p'.1 = n
      · simp only [e, if_true]; exact hu
      · simp only [e, if_false]; exact T.ht p' hp'
    rw [upd_ne (ne_of this T.hg (by intro z; cases z))]
    exact this
end
noncomputable def foOf (fa : List (Int × Addr × Ent)) : List (Int × Ent) := fa.map fun p => (p.1, p.2.2)
noncomputable def fiOf (ft : List (Int × Addr × Int × Str)) : List (Int × Int × Str) := ft.map fun p => (p.1, p.2.2)
theorem lkp_fo (fa : List (Int × Addr × Ent)) (w : Int) : lkp (foOf fa) w = (lkp fa w).map (·.2) := by
  induction fa with
  | nil => rfl
  | cons p l ih =>
    show lkp ((p.1, p.2.2) :: foOf l) w = _
    rw [lkp_cons, lkp_cons, ih]
    by_cases e : p.1 = w
    · simp [e]
    · simp [e]
theorem lkp_fi (ft : List (Int × Addr × Int × Str)) (w : Int) : lkp (fiOf ft) w = (lkp ft w).map (·.2) := by
  induction ft with
  | nil => rfl
  | cons p l ih =>
    show lkp ((p.1, p.2.2) :: fiOf l) w = _
    rw [lkp_cons, lkp_cons, ih]
    by_cases e : p.1 = w
    · simp [e]
    · simp [e]
theorem fo_keys (fa : List (Int × Addr × Ent)) : (foOf fa).map (·.1) = fa.map (·.1) := by unfold foOf; rw [List.map_map]; rfl
theorem fi_keys (ft : List (Int × Addr × Int × Str)) : (fiOf ft).map (·.1) = ft.map (·.1) := by unfold fiOf; rw [List.map_map]; rfl
theorem fo_add (fa : List (Int × Addr × Ent)) (w : Int) (x : Str) (n : Int) : foOf (addA fa w x n) = addE (foOf fa) w x n := by
  unfold foOf addA addE
  rw [List.map_map, List.map_map]
  apply List.map_congr_left
  intro p _
  show ((if p.1 = w then (p.1, p.2.1, p.2.2 ++ [(x, n)]) else p).1, (if p.1 = w then (p.1, p.2.1, p.2.2 ++ [(x, n)]) else p).2.2) = if p.1 = w then (p.1, p.2.2 ++ [(x, n)]) else (p.1, p.2.2)
  split <;> rfl
theorem fi_put (ft : List (Int × Addr × Int × Str)) (n : Int) (u : Addr) (v : Int) (c : Str) : fiOf (putA ft n (u, v, c)) = (fiOf ft).map fun p => if p.1 = n then (p.1, v, c) else p := by
  unfold fiOf putA
  rw [List.map_map, List.map_map]
  apply List.map_congr_left
  intro p _
  show ((if p.1 = n then (p.1, u, v, c) else p).1, (if p.1 = n then (p.1, u, v, c) else p).2.2) = if p.1 = n then (p.1, v, c) else (p.1, p.2.2)
  split <;> rfl
noncomputable abbrev Rt := Addr → Addr → Int → HO
structure ShAt (rt : Rt) (H : Hp) (L : Addr) (fp : List Addr) (S : Sh) (df dg : Addr) (fa : List (Int × Addr × Ent)) (ft : List (Int × Addr × Int × Str)) : Prop where
  root : H L = some (rt df dg S.last)
  tab : Tab H df dg fa ft
  fp_ : fp = L :: foot df dg fa
  nl : L ∉ foot df dg fa
  sfo : S.fo = foOf fa
  sfi : S.fi = fiOf ft
noncomputable def ShE (rt : Rt) (H : Hp) (L : Addr) (fp : List Addr) (S : Sh) : Prop := ∃ df dg fa ft, ShAt rt H L fp S df dg fa ft
theorem ShAt.same {rt : Rt} {H H' : Hp} {L : Addr} {fp : List Addr} {S : Sh} {df dg : Addr} {fa : List (Int × Addr × Ent)} {ft : List (Int × Addr × Int × Str)} (A : ShAt rt H L fp S df dg fa ft) (s : Same H H') : ShAt rt H' L fp S df dg fa ft :=
  ⟨s _ _ A.root, A.tab.same s, A.fp_, A.nl, A.sfo, A.sfi⟩
theorem ShE.same {rt : Rt} {H H' : Hp} {L : Addr} {fp : List Addr} {S : Sh} (A : ShE rt H L fp S) (s : Same H H') : ShE rt H' L fp S := by
  obtain ⟨df, dg, fa, ft, A⟩ := A
  exact ⟨df, dg, fa, ft, A.same s⟩
theorem ShAt.still {rt : Rt} (nr : ∀ a b n, Still (rt a b n) = false) {H : Hp} {L : Addr} {fp : List Addr} {S : Sh} {df dg : Addr} {fa : List (Int × Addr × Ent)} {ft : List (Int × Addr × Int × Str)} (A : ShAt rt H L fp S df dg fa ft) {b : Addr} {o : HO} (hb : H b = some o) (ho : Still o = true) : b ∉ fp := by
  intro z
  rw [A.fp_] at z
  rcases List.mem_cons.mp z with rfl | z
  · rw [A.root] at hb; cases hb; rw [nr] at ho; cases ho
  · obtain ⟨kvs, h⟩ := A.tab.dK z
    rw [h] at hb; cases hb; cases ho
theorem ShAt.there {rt : Rt} {H : Hp} {L : Addr} {fp : List Addr} {S : Sh} {df dg : Addr} {fa : List (Int × Addr × Ent)} {ft : List (Int × Addr × Int × Str)} (A : ShAt rt H L fp S df dg fa ft) {b : Addr} (hb : b ∈ fp) : ∃ o, H b = some o ∧ ∀ xs, o ≠ .tup xs ∨ b = L := by
  rw [A.fp_] at hb
  rcases List.mem_cons.mp hb with rfl | z
  · exact ⟨_, A.root, fun _ => .inr rfl⟩
  · obtain ⟨kvs, h⟩ := A.tab.dK z
    exact ⟨_, h, fun xs => .inl (by intro z; cases z)⟩
theorem ShAt.frame {rt rt2 : Rt} (nr : ∀ a b n, Still (rt2 a b n) = false) {H H' : Hp} {L L2 : Addr} {fp fp2 : List Addr} {S S2 : Sh} {df dg df2 dg2 : Addr} {fa fa2 : List (Int × Addr × Ent)} {ft ft2 : List (Int × Addr × Int × Str)} (A : ShAt rt H L fp S df dg fa ft) (B : ShAt rt2 H L2 fp2 S2 df2 dg2 fa2 ft2)
    (k : Kp fp2 H H') (dis : ∀ b ∈ fp, b ∉ fp2) : ShAt rt H' L fp S df dg fa ft := by
  refine ⟨k _ _ (dis L (by rw [A.fp_]; exact .head _)) A.root, A.tab.frame k (fun b hb => dis b (by rw [A.fp_]; exact .tail _ hb)) (fun b hb xs e => ?_), A.fp_, A.nl, A.sfo, A.sfi⟩
  exact B.still nr e rfl hb
theorem ShE.frame {rt rt2 : Rt} (nr : ∀ a b n, Still (rt2 a b n) = false) {H H' : Hp} {L L2 : Addr} {fp fp2 : List Addr} {S S2 : Sh} (A : ShE rt H L fp S) (B : ShE rt2 H L2 fp2 S2) (k : Kp fp2 H H') (dis : ∀ b ∈ fp, b ∉ fp2) : ShE rt H' L fp S := by
  obtain ⟨_, _, _, _, A⟩ := A
  obtain ⟨_, _, _, _, B⟩ := B
  exact ⟨_, _, _, _, A.frame nr B k dis⟩
theorem dis_after {rt : Rt} {H H' : Hp} {L : Addr} {fp fp2 fp' : List Addr} {S : Sh} (A : ShE rt H L fp S) (a : Aft H fp2 H' fp') (dis : ∀ b ∈ fp, b ∉ fp2) : ∀ b ∈ fp, b ∉ fp' := fun b hb z => by
  obtain ⟨_, _, _, _, A⟩ := A
  obtain ⟨o, ho, _⟩ := A.there hb
  rcases a.sub b z with h | h
  · exact dis b hb h
  · rw [ho] at h; cases h
theorem Aft.fresh {rt : Rt} {H H' : Hp} {L : Addr} {fp fp' : List Addr} {S' : Sh} (af : Aft H fp H' fp') (B : ShE rt H' L fp' S') {u : Addr} (hu : H' u = none) : H u = none := by
  refine af.kp.free (fun z => ?_) hu
  obtain ⟨_, _, _, _, B⟩ := B
  obtain ⟨o, ho, _⟩ := B.there (af.gr u z)
  rw [ho] at hu
  cases hu
theorem still_keep {rt : Rt} (nr : ∀ a b n, Still (rt a b n) = false) {H H' : Hp} {L : Addr} {fp : List Addr} {S : Sh} (A : ShE rt H L fp S) (k : Kp fp H H') {b : Addr} {o : HO} (hb : H b = some o) (ho : Still o = true) : H' b = some o := by
  obtain ⟨_, _, _, _, A⟩ := A
  exact k b o (A.still nr hb ho) hb
end L2
set_option Elab.async false
set_option linter.all false
set_option maxRecDepth 100000
namespace L2
open PySem PySem.Spec PyProof.Rows
theorem nodup_le' {α : Type} [DecidableEq α] : ∀ {l m : List α}, l.Nodup → (∀ x ∈ l, x ∈ m) → l.length ≤ m.length
  | [], _, _, _ => Nat.zero_le _
  | a :: l, m, nd, h => by
    rw [List.nodup_cons] at nd
    have ha := h a (.head _)
    have := nodup_le' (l := l) (m := m.erase a) nd.2 fun x hx => (List.mem_erase_of_ne (fun e => nd.1 (by rw [← e]; exact hx))).mpr (h x (.tail _ hx))
    rw [List.length_erase_of_mem ha] at this
    have hp : 0 < m.length := List.length_pos_of_mem ha
    simp only [List.length_cons]
    omega
section
variable {rt : Rt} {H : Hp} {L df dg : Addr} {fp : List Addr} {S : Sh} {fa : List (Int × Addr × Ent)} {ft : List (Int × Addr × Int × Str)}
theorem ShAt.memL (A : ShAt rt H L fp S df dg fa ft) : L ∈ fp := by rw [A.fp_]; exact .head _
theorem ShAt.memF (A : ShAt rt H L fp S df dg fa ft) : df ∈ fp := by rw [A.fp_]; exact .tail _ (.head _)
theorem ShAt.memG (A : ShAt rt H L fp S df dg fa ft) : dg ∈ fp := by rw [A.fp_]; exact .tail _ (.tail _ (.head _))
theorem ShAt.memE (A : ShAt rt H L fp S df dg fa ft) {w : Int} {a : Addr} {es : Ent} (h : lkp fa w = some (a, es)) : a ∈ fp := by rw [A.fp_]; exact .tail _ (mem_ad (lkp_mem h))
theorem ShAt.neL (A : ShAt rt H L fp S df dg fa ft) {b : Addr} (h : b ∈ foot df dg fa) : L ≠ b := fun e => A.nl (by rw [e]; exact h)
theorem ShAt.setRoot (nr : ∀ a b n, Still (rt a b n) = false) (A : ShAt rt H L fp S df dg fa ft) (n : Int) : ShAt rt (upd H L (rt df dg n)) L fp ⟨S.fo, S.fi, n⟩ df dg fa ft := by
  refine ⟨upd_same, A.tab.frame (fp := [L]) ((Kp.refl _ H).put (.head _)) (fun b hb z => ?_) (fun b hb xs e => ?_), A.fp_, A.nl, A.sfo, A.sfi⟩
  · rw [List.mem_singleton.mp z] at hb; exact A.nl hb
  · rw [List.mem_singleton.mp hb, A.root] at e
    have h1 := nr df dg S.last
    rw [Option.some.inj e] at h1
    cases h1
theorem ShAt.addFile (A : ShAt rt H L fp S df dg fa ft) {n v : Int} {u : Addr} {c : Str} (h : lkp ft n = none) (hu : H u = some (.tup [.int v, .str c])) :
    ShAt rt (upd H dg (.dK ((ft ++ [(n, u, v, c)]).map fun p => (Sum.inl p.1, .ref p.2.1)))) L fp ⟨S.fo, S.fi ++ [(n, v, c)], S.last⟩ df dg fa (ft ++ [(n, u, v, c)]) := by
  refine ⟨?_, A.tab.file h hu, A.fp_, A.nl, A.sfo, ?_⟩
  · rw [upd_ne (A.neL (.tail _ (.head _)))]; exact A.root
  · show S.fi ++ [(n, v, c)] = fiOf (ft ++ [(n, u, v, c)])
    rw [A.sfi]
    unfold fiOf
    rw [List.map_append]
    rfl
theorem ShAt.addEntry (A : ShAt rt H L fp S df dg fa ft) (kn : (S.fo.map (·.1)).Nodup) {w : Int} {a : Addr} {es : Ent} (h : lkp fa w = some (a, es)) (x : Str) (n : Int) :
    ShAt rt (upd H a (.dK ((es ++ [(x, n)]).map eKV))) L fp ⟨addE S.fo w x n, S.fi, S.last⟩ df dg (addA fa w x n) ft := by
  refine ⟨?_, A.tab.entry (by rw [A.sfo, fo_keys] at kn; exact kn) h x n, ?_, ?_, ?_, A.sfi⟩
  · rw [upd_ne (A.neL (mem_ad (lkp_mem h)))]; exact A.root
  · show fp = L :: df :: dg :: (addA fa w x n).map (·.2.1)
    rw [addA_ad]; exact A.fp_
  · show L ∉ df :: dg :: (addA fa w x n).map (·.2.1)
    rw [addA_ad]; exact A.nl
  · show addE S.fo w x n = foOf (addA fa w x n)
    rw [fo_add, A.sfo]
theorem ShAt.addFolder (nr : ∀ a b n, Still (rt a b n) = false) (A : ShAt rt H L fp S df dg fa ft) {n : Int} {u : Addr} (hu : H u = some (.dK [])) (hn : u ∉ fp) :
    ShAt rt (upd H df (.dK ((fa ++ [(n, u, ([] : Ent))]).map fun p : Int × Addr × Ent => (Sum.inl p.1, .ref p.2.1)))) L (fp ++ [u]) ⟨S.fo ++ [(n, [])], S.fi, S.last⟩ df dg (fa ++ [(n, u, ([] : Ent))]) ft := by
  have hn' : u ∉ foot df dg fa := fun z => hn (by rw [A.fp_]; exact .tail _ z)
  have eq : df :: dg :: (fa ++ [(n, u, ([] : Ent))]).map (·.2.1) = foot df dg fa ++ [u] := by rw [List.map_append]; rfl
  refine ⟨?_, A.tab.folder hu hn', ?_, ?_, ?_, A.sfi⟩
  · rw [upd_ne (A.neL (.head _))]; exact A.root
  · show fp ++ [u] = L :: df :: dg :: (fa ++ [(n, u, ([] : Ent))]).map (·.2.1)
    rw [eq, A.fp_]
    rfl
  · show L ∉ df :: dg :: (fa ++ [(n, u, ([] : Ent))]).map (·.2.1)
    rw [eq]
    intro z
    rcases List.mem_append.mp z with z | z
    · exact A.nl z
    · have e := List.mem_singleton.mp z
      exact hn (by rw [← e]; exact A.memL)
  · show S.fo ++ [(n, [])] = foOf (fa ++ [(n, u, ([] : Ent))])
    rw [A.sfo]
    unfold foOf
    rw [List.map_append]
    rfl
theorem ShAt.putFile (A : ShAt rt H L fp S df dg fa ft) {n v : Int} {u : Addr} {c : Str} (hu : H u = some (.tup [.int v, .str c])) :
    ShAt rt (upd H dg (.dK ((putA ft n (u, v, c)).map fun p => (Sum.inl p.1, .ref p.2.1)))) L fp (S.put n v c) df dg fa (putA ft n (u, v, c)) := by
  refine ⟨?_, A.tab.put hu, A.fp_, A.nl, A.sfo, ?_⟩
  · rw [upd_ne (A.neL (.tail _ (.head _)))]; exact A.root
  · show S.fi.map _ = _
    rw [fi_put, A.sfi]
theorem ShAt.fileLen (A : ShAt rt H L fp S df dg fa ft) (g : Good S) : ft.length ≤ 100 := by
  have h1 : (S.fi.map (·.1)).length ≤ ((List.range 63).map fun n : Nat => (n : Int)).length := by
    refine nodup_le' g.kg fun x hx => ?_
    have := (g.cover x).mp (.inr (lkp_some_iff.mpr hx))
    have := g.top
    exact List.mem_map.mpr ⟨x.toNat, List.mem_range.mpr (by omega), by omega⟩
  rw [List.length_map, List.length_map, List.length_range, A.sfi] at h1
  unfold fiOf at h1
  rw [List.length_map] at h1
  omega
theorem ShAt.foldLen (A : ShAt rt H L fp S df dg fa ft) (g : Good S) : fa.length ≤ 100 := by
  have h1 : (S.fo.map (·.1)).length ≤ ((List.range 63).map fun n : Nat => (n : Int)).length := by
    refine nodup_le' g.kf fun x hx => ?_
    have := (g.cover x).mp (.inl (lkp_some_iff.mpr hx))
    have := g.top
    exact List.mem_map.mpr ⟨x.toNat, List.mem_range.mpr (by omega), by omega⟩
  rw [List.length_map, List.length_map, List.length_range, A.sfo] at h1
  unfold foOf at h1
  rw [List.length_map] at h1
  omega
theorem ShAt.entLen (A : ShAt rt H L fp S df dg fa ft) (g : Good S) {w : Int} {a : Addr} {es : Ent} (h : lkp fa w = some (a, es)) : es.length ≤ 62 := by
  have h1 : lkp S.fo w = some es := by rw [A.sfo, lkp_fo, h]; rfl
  have h2 : (es.length : Int) ≤ S.last := g.few _ (lkp_mem h1)
  have := g.top
  omega
theorem ShAt.newG (A : ShAt rt H L fp S df dg fa ft) (g : Good S) : lkp ft (S.last + 1) = none := by
  have h : lkp S.fi (S.last + 1) = none := by
    cases h : lkp S.fi (S.last + 1) with
    | none => rfl
    | some a => have := (g.cover (S.last + 1)).mp (.inr (by rw [h]; rfl)); omega
  rw [A.sfi, lkp_fi] at h
  cases e : lkp ft (S.last + 1) with
  | none => rfl
  | some a => rw [e] at h; cases h
theorem ShAt.newF (A : ShAt rt H L fp S df dg fa ft) (g : Good S) : lkp fa (S.last + 1) = none := by
  have h : lkp S.fo (S.last + 1) = none := by
    cases h : lkp S.fo (S.last + 1) with
    | none => rfl
    | some a => have := (g.cover (S.last + 1)).mp (.inl (by rw [h]; rfl)); omega
  rw [A.sfo, lkp_fo] at h
  cases e : lkp fa (S.last + 1) with
  | none => rfl
  | some a => rw [e] at h; cases h
theorem ShAt.fo_some (A : ShAt rt H L fp S df dg fa ft) {w : Int} (h : (lkp S.fo w).isSome = true) : ∃ a es, lkp fa w = some (a, es) ∧ lkp S.fo w = some es := by
  rw [A.sfo, lkp_fo] at h ⊢
  cases e : lkp fa w with
  | none => rw [e] at h; cases h
  | some q => exact ⟨q.1, q.2, rfl, rfl⟩
theorem ShAt.fi_some (A : ShAt rt H L fp S df dg fa ft) {w : Int} (h : (lkp S.fi w).isSome = true) : ∃ a v c, lkp ft w = some (a, v, c) ∧ lkp S.fi w = some (v, c) := by
  rw [A.sfi, lkp_fi] at h ⊢
  cases e : lkp ft w with
  | none => rw [e] at h; cases h
  | some q => exact ⟨q.1, q.2.1, q.2.2, rfl, rfl⟩
end
end L2
set_option Elab.async false
set_option linter.all false
set_option maxRecDepth 100000
set_option maxHeartbeats 4000000
namespace K32
open PySem L2
noncomputable def top (i : Nat) : Stmt := PySem.Challenge.pw_farshelf_k32_joined.main.body.getD i (.Pass ⟨0, 0, 0, 0⟩)
noncomputable abbrev s_tail : Stmt := top 2
noncomputable abbrev s_cname : Stmt := top 3
noncomputable abbrev s_among : Stmt := top 9
noncomputable abbrev s_isname : Stmt := top 10
noncomputable abbrev s_iscontent : Stmt := top 11
noncomputable abbrev s_node : Stmt := top 20
noncomputable abbrev s_rowof : Stmt := top 21
noncomputable abbrev s_rowsof : Stmt := top 22
noncomputable abbrev s_parts : Stmt := top 25
noncomputable abbrev s_rparts : Stmt := top 26
noncomputable abbrev s_refusal : Stmt := top 29
noncomputable abbrev s_newn : Stmt := top 30
noncomputable abbrev s_mfile : Stmt := top 31
noncomputable abbrev s_mfold : Stmt := top 32
noncomputable abbrev s_putc : Stmt := top 33
noncomputable abbrev s_done : Stmt := top 35
noncomputable abbrev s_first : Stmt := top 37
noncomputable abbrev s_clash : Stmt := top 38
noncomputable abbrev s_joined : Stmt := top 39
noncomputable abbrev s_lcell : Stmt := top 41
noncomputable abbrev s_ldigits : Stmt := top 42
noncomputable abbrev s_lpick : Stmt := top 43
noncomputable abbrev s_lnames : Stmt := top 44
noncomputable abbrev s_lcontent : Stmt := top 45
noncomputable abbrev s_lsame : Stmt := top 46
noncomputable abbrev s_lisname : Stmt := top 47
noncomputable abbrev s_lmade : Stmt := top 48
noncomputable abbrev s_lput : Stmt := top 49
noncomputable abbrev s_ldone : Stmt := top 50
noncomputable abbrev s_lclash : Stmt := top 51
noncomputable abbrev s_ljoined : Stmt := top 52
noncomputable abbrev s_lrows : Stmt := top 53
noncomputable abbrev s_lname : Stmt := top 54
noncomputable abbrev s_ldeed : Stmt := top 55
noncomputable abbrev s_law : Stmt := top 56
structure Txt (mg : Str → Option Value) : Prop where
  b_all : mg "all" = none
  b_len : mg "len" = none
  b_abs : mg "abs" = none
  b_range : mg "range" = none
  b_max : mg "max" = none
  b_min : mg "min" = none
  b_isinstance : mg "isinstance" = none
  b_bool : mg "bool" = none
  b_int : mg "int" = none
  b_str : mg "str" = none
  b_list : mg "list" = none
  b_tuple : mg "tuple" = none
  b_sorted : mg "sorted" = none
  b_zip : mg "zip" = none
  b_enumerate : mg "enumerate" = none
noncomputable abbrev NS : Str := "abcdefghijklmnopqrstuvwxyz0123456789"
noncomputable abbrev CS : Str := "abcdefghijklmnopqrstuvwxyz0123456789."
noncomputable def rInS : R2 := fun x y H Q => ∃ i j, x = .str i ∧ y = .str j ∧ Q (.bl (!(Builtin.Str.occurrences j i 0 j.length 1).isEmpty)) H
theorem op_inS {X : Cx} : OpR X (compareOp .In) rInS := op_in_str
noncomputable def amB (signs : Str) (c : Nat) : Bool := !(Builtin.Str.occurrences signs ⟨#[c]⟩ 0 signs.length 1).isEmpty
noncomputable def allB (signs x : Str) : Bool := x.cps.toList.all (amB signs)
noncomputable def nameB (x : Str) : Bool := (decide ((1 : Int) ≤ (x.length : Int)) && decide ((x.length : Int) ≤ 8)) && allB NS x
noncomputable def contB (x : Str) : Bool := decide ((x.length : Int) ≤ 200) && allB CS x
theorem size_len (x : Str) : x.cps.size = x.length := rfl
noncomputable def spB (B : Str → Bool) : Sp := fun vs H Q _ => ∃ x : Str, vs = [.str x] ∧ x.length ≤ 1000000 ∧ ∀ H', Same H H' → Q (.bl (B x)) H'
noncomputable def spAmong : Sp := fun vs H Q _ => ∃ x signs : Str, vs = [.str x, .str signs] ∧ x.length ≤ 1000000 ∧ ∀ H', Same H H' → Q (.bl (allB signs x)) H'
theorem le_line {n : Nat} (h : n ≤ 1000000) : n + 2 ≤ sizeLine := by
  have e : sizeLine = 16777216 := sizeLine_eq
  omega
theorem le_line0 {n : Nat} (h : n ≤ 1000000) : n ≤ sizeLine := by have := le_line h; omega
theorem comp_signs {x signs : Str} {H : Hp} {QQ : V → Hp → Prop} (hx : x.length ≤ 1000000) (fin : ∀ D, H D = none → QQ (.ref D) (upd H D (.lst ((x.cps.toList.map (amB signs)).map V.bl)))) :
    ∃ W : Nat → Nat → St → List V → Hp → Prop, (∃ m, W 0 m [none, some (.str signs)] [] H) ∧ LoopC (Its x) (gName 0) tTrue (tOp rInS (tVar 0) (tVar 1)) W QQ := by
  refine lc_str (fun i σ ys Hx => Hx = H ∧ ys = ((x.cps.toList.take i).map (amB signs)).map V.bl ∧ ∃ v : Option V, σ = [v, some (.str signs)]) ⟨rfl, rfl, _, rfl⟩ (fun i σ ys Hx hi ⟨_, e, _⟩ => ?_) ?_ ?_
  · rw [e, List.length_map, List.length_map, List.length_take]
    exact le_line0 (by have := size_len x; omega)
  · rintro i c σ ys Hx hc ⟨rfl, rfl, v, rfl⟩
    refine ⟨_, rfl, _, rfl, _, _, rfl, rfl, rfl, ?_, _, rfl⟩
    have hc' : x.cps.toList[i]? = some c := by simpa using hc
    rw [List.take_add_one, hc', List.map_append, List.map_append]
    rfl
  · rintro σ ys Hx ⟨rfl, rfl, v, rfl⟩ D hD
    have e : x.cps.toList.take x.cps.size = x.cps.toList := List.take_of_length_le (by simp)
    rw [e]
    exact fin D hD
theorem all_id (l : List Nat) (f : Nat → Bool) : (l.map f).all id = l.all f := by
  rw [List.all_map]
  rfl
noncomputable def spCell (K : PySem.W.Frag) : Sp := fun vs H Q _ => ∃ (a : Addr) (ns : List Int) (k : Int), vs = [.ref a, .int k] ∧ SqL K H a (ns.map V.int) ∧ 0 ≤ k ∧ ∀ z, Q (.int z) H
theorem NS_at {z : Int} (h0 : 0 ≤ z) (h1 : z < 36) : ∃ c, atI NS.cps.toList z = some c := by
  have e : ((z.toNat : Nat) : Int) = z := by omega
  have hl : NS.cps.toList.length = 36 := by decide
  have hz : z.toNat < NS.cps.toList.length := by omega
  have q := atI_nat (List.getElem?_eq_getElem hz)
  rw [e] at q
  exact ⟨_, q⟩
noncomputable abbrev LT : Str := "abcdefghijklmnopqrstuvwxyz"
noncomputable def rowsN : List (Str × List V) := [("make", [.int 2]), ("fold", [.int 2]), ("put", [])]
noncomputable def rowsC : List (Str × List V) := [("make", [.int 3]), ("fold", []), ("put", [.int 3])]
noncomputable def rowsF : List (Str × List V) := [("make", [.int 1]), ("fold", [.int 1]), ("put", [])]
noncomputable def rowsG : List (Str × List V) := [("make", []), ("fold", []), ("put", [.int 1])]
noncomputable def tailL : Nat → List Nat
  | 0 => []
  | n + 1 => tailL (n / 26) ++ [97 + n % 26]
decreasing_by exact Nat.lt_succ_of_le (Nat.div_le_self n 26)
noncomputable def tailS (n : Nat) : Str := ⟨(tailL n).toArray⟩
noncomputable def cnameS (n : Int) (i : Nat) : Str := ("c" ++ (toString n : Str)) ++ tailS i
noncomputable def rtP (C dx : Addr) : Rt := fun df dg l => .ins C dx [("folders", .ref df), ("files", .ref dg), ("greatest", .int l)]
noncomputable def dV : Deed → List V
  | .make w a c => [.str "make", .int w, .str a, .str c]
  | .fold w a => [.str "fold", .int w, .str a]
  | .put n v c => [.str "put", .int n, .int v, .str c]
noncomputable def spTail : Sp := fun vs H Q _ => ∃ n : Nat, vs = [.int n] ∧ n ≤ 1000 ∧ Q (.str (tailS n)) H
noncomputable def free (es : Ent) (n : Int) : Nat := ((List.range 703).find? fun i => (lkp es (cnameS n i)).isNone).getD 0
noncomputable def spCname : Sp := fun vs H Q _ => ∃ (d : Addr) (es : Ent) (n : Int), vs = [.ref d, .int n] ∧ H d = some (.dK (es.map eKV)) ∧ es.length ≤ 100 ∧ 0 ≤ n ∧ n ≤ 1000 ∧ Q (.str (cnameS n (free es n))) H
noncomputable def spNode (C : Addr) : Sp := fun vs H Q _ => ∃ (L dx df dg : Addr) (n : Int) (fp : List Addr) (S : Sh) (fa : List (Int × Addr × Ent)) (ft : List (Int × Addr × Int × Str)), vs = [.ref L, .int n] ∧ ShAt (rtP C dx) H L fp S df dg fa ft ∧ Q (.bl ((lkp S.fo n).isSome || (lkp S.fi n).isSome)) H
noncomputable def spParts (K : PySem.W.Frag) : Sp := fun vs H Q _ => ∃ (t p : Addr) (xs : List V) (ps : List Nat), vs = [.ref t, .ref p] ∧ SqT K H t xs ∧ SqT K H p (ps.map fun n : Nat => V.int (n : Int)) ∧ (∀ n ∈ ps, n < xs.length) ∧ ps.length ≤ 10 ∧ ∀ l H1, Same H H1 → H1 l = none → Q (.ref l) (upd H1 l (.lst (ps.map fun n : Nat => xs.getD n .non)))
noncomputable def dLen : Deed → Prop
  | .make _ a c => a.length ≤ 1000 ∧ c.length ≤ 1000
  | .fold _ a => a.length ≤ 1000
  | .put _ _ c => c.length ≤ 1000
noncomputable def partsW (S : Sh) : Deed → Option Str
  | .make w a c => if !(nameB a && contB c) then some "name" else if !((lkp S.fo w).isSome || (lkp S.fi w).isSome) then some "gone" else if !(lkp S.fo w).isSome then some "kind" else none
  | .fold w a => if !nameB a then some "name" else if !((lkp S.fo w).isSome || (lkp S.fi w).isSome) then some "gone" else if !(lkp S.fo w).isSome then some "kind" else none
  | .put n v c => if !contB c then some "name" else if !((lkp S.fo n).isSome || (lkp S.fi n).isSome) then some "gone" else if !(lkp S.fi n).isSome then some "kind" else none
noncomputable def oV : Option Str → V
  | none => .non
  | some x => .str x
noncomputable def spRparts (K : PySem.W.Frag) (C : Addr) : Sp := fun vs H Q _ => ∃ (L dx df dg t : Addr) (fp : List Addr) (S : Sh) (fa : List (Int × Addr × Ent)) (ft : List (Int × Addr × Int × Str)) (d : Deed), vs = [.ref L, .ref t] ∧ ShAt (rtP C dx) H L fp S df dg fa ft ∧ H t = some (.tup (dV d)) ∧ dLen d ∧ ∀ H', Same H H' → Q (oV (partsW S d)) H'
noncomputable def refW (S : Sh) (d : Deed) : Option Str := match partsW S d with
  | some x => some x
  | none => match d with
    | .make w a _ => if (lkp ((lkp S.fo w).getD []) a).isSome then some "there" else none
    | .fold w a => if (lkp ((lkp S.fo w).getD []) a).isSome then some "there" else none
    | .put n v _ => if ((lkp S.fi n).getD (0, Str.empty)).1 = v then none else some "stale"
noncomputable def spRefusal (K : PySem.W.Frag) (C : Addr) : Sp := fun vs H Q _ => ∃ (L dx df dg t : Addr) (fp : List Addr) (S : Sh) (fa : List (Int × Addr × Ent)) (ft : List (Int × Addr × Int × Str)) (d : Deed), vs = [.ref L, .ref t] ∧ ShAt (rtP C dx) H L fp S df dg fa ft ∧ H t = some (.tup (dV d)) ∧ dLen d ∧ ∀ H', Same H H' → Q (oV (refW S d)) H'
structure Txt0 (mg : Str → Option Value) (K : PySem.W.Frag) (w : World) (C aN aC aF aG : Addr) : Prop where
  T : Txt mg
  gL : ∃ u, mg "LETTERS" = some u ∧ RelV (.str LT) u
  gN : ∃ u, mg "NAME_SIGNS" = some u ∧ RelV (.str NS) u
  gC : ∃ u, mg "CONTENT_SIGNS" = some u ∧ RelV (.str CS) u
  lN : ∃ u, mg "LONGEST_NAME" = some u ∧ RelV (.int 8) u
  lC : ∃ u, mg "LONGEST_CONTENT" = some u ∧ RelV (.int 200) u
  ro : ∃ u, mg "ROOT" = some u ∧ RelV (.int 0) u
  cl1 : ∃ u, mg "CLASH" = some u ∧ RelV (.int 1) u
  kN : mg "NAMES" = some (.ref aN)
  kC : mg "CONTENTS" = some (.ref aC)
  kF : mg "FOLDERS" = some (.ref aF)
  kG : mg "FILES" = some (.ref aG)
  tN : KTab K w aN rowsN
  tC : KTab K w aC rowsC
  tF : KTab K w aF rowsF
  tG : KTab K w aG rowsG
  cl : Cls K C
  nFo : NoAttr K C "folders"
  nFi : NoAttr K C "files"
  nGr : NoAttr K C "greatest"
theorem pe_fldK {X : Cx} {K : PySem.W.Frag} (hK : X.K = K) {e : Expr} {f : Str} {pos : Pos} {ta : TE} (he : PE X e ta) (hb : attributeBase e f X.env (eval e X.env) = eval e X.env) : PE X (.Attribute e f pos) (tFld K ta f) := by
  subst hK
  exact pe_fld he hb
theorem comp_mapL {K : PySem.W.Frag} {H : Hp} {r : Addr} {xs : List V} {rest : St} {te : TE} {QQ : V → Hp → Prop} (G : V → V) (hR : SqL K H r xs) (hl : xs.length ≤ 1000)
    (he : ∀ x ∈ xs, ∀ H1, Same H H1 → ∀ Q' : VK, (∀ H2, Same H1 H2 → Q' (G x) H2) → te (some x :: rest) H1 Q') (fin : ∀ H' D, Same H H' → H' D = none → QQ (.ref D) (upd H' D (.lst (xs.map G)))) :
    ∃ W : Nat → Nat → St → List V → Hp → Prop, (∃ m, W 0 m (none :: rest) [] H) ∧ LoopC (Itl K r) (gName 0) tTrue te W QQ := by
  refine lc_list (K := K) (a := r) (xs := xs) (fun i σ ys Hx => Same H Hx ∧ ys = (xs.take i).map G ∧ ∃ v : Option V, σ = v :: rest) ⟨Same.refl H, rfl, _, rfl⟩ (fun i σ ys Hx _ ⟨e, _⟩ => e.seq hR) (fun i σ ys Hx hi ⟨_, e, _⟩ => ?_) ?_ ?_
  · rw [e, List.length_map, List.length_take]
    exact Nat.le_trans (Nat.min_le_right _ _) (small hl)
  · rintro i x σ ys Hx hx ⟨sx, rfl, v, rfl⟩
    refine he x (List.mem_of_getElem? hx) Hx sx _ fun H2 s2 => ⟨sx.trans s2, ?_, _, rfl⟩
    rw [List.take_add_one, hx, List.map_append]
    rfl
  · rintro σ ys Hx ⟨sx, rfl, v, rfl⟩ D hD
    rw [List.take_length]
    exact fin Hx D sx hD
theorem comp_mapT {K : PySem.W.Frag} {H : Hp} {r : Addr} {xs : List V} {rest : St} {te : TE} {QQ : V → Hp → Prop} (G : V → V) (hR : ∀ H', Same H H' → SqT K H' r xs) (hl : xs.length ≤ 1000)
    (he : ∀ x ∈ xs, ∀ H1, Same H H1 → ∀ Q' : VK, (∀ H2, Same H1 H2 → Q' (G x) H2) → te (some x :: rest) H1 Q') (fin : ∀ H' D, Same H H' → H' D = none → QQ (.ref D) (upd H' D (.lst (xs.map G)))) :
    ∃ W : Nat → Nat → St → List V → Hp → Prop, (∃ m, W 0 m (none :: rest) [] H) ∧ LoopC (Itt K r) (gName 0) tTrue te W QQ := by
  refine lc_tup (K := K) (a := r) (xs := xs) (fun i σ ys Hx => Same H Hx ∧ ys = (xs.take i).map G ∧ ∃ v : Option V, σ = v :: rest) ⟨Same.refl H, rfl, _, rfl⟩ (fun i σ ys Hx _ ⟨e, _⟩ => hR Hx e) (fun i σ ys Hx hi ⟨_, e, _⟩ => ?_) ?_ ?_
  · rw [e, List.length_map, List.length_take]
    exact Nat.le_trans (Nat.min_le_right _ _) (small hl)
  · rintro i x σ ys Hx hx ⟨sx, rfl, v, rfl⟩
    refine he x (List.mem_of_getElem? hx) Hx sx _ fun H2 s2 => ⟨sx.trans s2, ?_, _, rfl⟩
    rw [List.take_add_one, hx, List.map_append]
    rfl
  · rintro σ ys Hx ⟨sx, rfl, v, rfl⟩ D hD
    rw [List.take_length]
    exact fin Hx D sx hD
theorem sqT_same {K : PySem.W.Frag} {H H' : Hp} {a : Addr} {xs : List V} (h : SqT K H a xs) (s : Same H H') : SqT K H' a xs := by
  rcases h with h | h
  · rcases h with h | ⟨o, h⟩
    · exact .inl (.inl (s _ _ h))
    · exact .inl (.inr ⟨o, s _ _ h⟩)
  · exact .inr h
theorem LT_at {z : Int} (h0 : 0 ≤ z) (h1 : z < 26) : atI LT.cps.toList z = some (97 + z.toNat) := by
  have : ∀ k : Fin 26, atI LT.cps.toList (k.val : Int) = some (97 + k.val) := by decide +kernel
  have e := this ⟨z.toNat, by omega⟩
  rw [show (((⟨z.toNat, by omega⟩ : Fin 26).val : Nat) : Int) = z by simp; omega] at e
  exact e
theorem tailL_pos {n : Nat} (h : 0 < n) : tailL n = tailL ((n - 1) / 26) ++ [97 + (n - 1) % 26] := by
  obtain ⟨m, rfl⟩ : ∃ m, n = m + 1 := ⟨n - 1, by omega⟩
  rw [tailL]
  rfl
theorem tail_len : ∀ n, (tailL n).length ≤ n
  | 0 => by rw [tailL]; simp
  | n + 1 => by
    rw [tailL, List.length_append]
    have := tail_len (n / 26)
    have h2 := Nat.div_le_self n 26
    simp
    omega
decreasing_by exact Nat.lt_succ_of_le (Nat.div_le_self n 26)
section
variable {P : Program} {w : World} {K : PySem.W.Frag} {mg : Str → Option Value} {base : Heap} {C aN aC aF aG : Addr}
theorem sc_among : FnScope ["text", "signs"] ["text", "signs"] (defScope s_among) := ⟨rfl, rfl, rfl, by decide +kernel, rfl, by decide +kernel, by decide +kernel⟩
theorem ok_among {f : Addr} {fd : FuncData} (F : Fun K "all_among" "all_among" s_among f fd) (T : Txt0 mg K w C aN aC aF aG) : FnOk P w K mg base CX0 1 f fd ["text", "signs"] spAmong := by
  refine F.ok sc_among (fun vs H Q E h => ?_) (fun cdv A outer s H vs Q E hr h => ?_)
  · obtain ⟨x, y, rfl, _⟩ := h
    rfl
  obtain ⟨x, signs, rfl, hx, q⟩ := h
  refine ⟨_, pss_one (ps_ret (pe_callB (call_allB rfl) rfl T.T.b_all PyProof.Rows.boot_all (pa_cons (pe_lc [none, some 1] ["sign", "signs"] rfl cap01 (pi_str (pv 0)) (fun _ _ _ _ _ _ => pg_name (i := 0) (by decide +kernel : (["sign", "signs"] : List Str).Nodup) rfl (Or.inl rfl)) (fun _ _ _ _ _ _ => pifs_nil) (fun _ _ _ _ _ _ => pe_cmpR (r := rInS) op_inS (pv 0) (pv 1) (by with_unfolding_all rfl))) pa_nil))), ?_⟩
  refine ⟨_, rfl, x, rfl, comp_signs hx fun D hD => ?_⟩
  refine ⟨D, x.cps.toList.map (amB signs), rfl, SqL.of upd_same, ?_⟩
  rw [all_id]
  exact q _ (same_new hD _)
theorem sc_isname : FnScope ["text"] ["text"] (defScope s_isname) := ⟨rfl, rfl, rfl, by decide +kernel, rfl, by decide +kernel, by decide +kernel⟩
theorem ok_isname {f : Addr} {fd : FuncData} (F : Fun K "is_name" "is_name" s_isname f fd) (T : Txt0 mg K w C aN aC aF aG) (CA : Cal P w K mg base "all_among" ["text", "signs"] 1 spAmong) : FnOk P w K mg base CX0 2 f fd ["text"] (spB nameB) := by
  refine F.ok sc_isname (fun vs H Q E h => ?_) (fun cdv A outer s H vs Q E hr h => ?_)
  · obtain ⟨x, rfl, _⟩ := h
    rfl
  obtain ⟨x, rfl, hx, q⟩ := h
  refine ⟨_, pss_one (ps_ret (pe_and (pe_chain op_le op_le pe_int (pe_callB call_len_str rfl T.T.b_len PySem.boot_len (pa_cons (pv 0) pa_nil)) (pe_gv rfl T.lN)) (pe_one (pe_cal CA hr rfl (pa_cons (pv 0) (pa_cons (pe_gv rfl T.gN) pa_nil)))))), ?_⟩
  refine ⟨_, rfl, x, rfl, le_line0 hx, _, _, rfl, rfl, _, rfl, ?_⟩
  unfold nameB at q
  refine ite2 (fun e => ?_) (fun e => ?_)
  · refine ⟨_, _, rfl, rfl, _, rfl, ?_⟩
    refine ite2 (fun e2 => ?_) (fun e2 => ?_)
    · refine ⟨_, rfl, x, NS, rfl, hx, fun H' s' => ?_⟩
      have := q H' s'
      rw [show decide ((1 : Int) ≤ (x.length : Int)) = true from e, show decide ((x.length : Int) ≤ 8) = true from e2] at this
      exact this
    · have := q H (Same.refl H)
      rw [show decide ((x.length : Int) ≤ 8) = false from Bool.eq_false_iff.mpr e2, Bool.and_false, Bool.false_and] at this
      exact this
  · refine ⟨_, rfl, iteF ?_⟩
    have := q H (Same.refl H)
    rw [show decide ((1 : Int) ≤ (x.length : Int)) = false from Bool.eq_false_iff.mpr e, Bool.false_and, Bool.false_and] at this
    exact this
theorem sc_iscontent : FnScope ["text"] ["text"] (defScope s_iscontent) := ⟨rfl, rfl, rfl, by decide +kernel, rfl, by decide +kernel, by decide +kernel⟩
theorem ok_iscontent {f : Addr} {fd : FuncData} (F : Fun K "is_content" "is_content" s_iscontent f fd) (T : Txt0 mg K w C aN aC aF aG) (CA : Cal P w K mg base "all_among" ["text", "signs"] 1 spAmong) : FnOk P w K mg base CX0 2 f fd ["text"] (spB contB) := by
  refine F.ok sc_iscontent (fun vs H Q E h => ?_) (fun cdv A outer s H vs Q E hr h => ?_)
  · obtain ⟨x, rfl, _⟩ := h
    rfl
  obtain ⟨x, rfl, hx, q⟩ := h
  refine ⟨_, pss_one (ps_ret (pe_and (pe_cmpR op_le (pe_callB call_len_str rfl T.T.b_len PySem.boot_len (pa_cons (pv 0) pa_nil)) (pe_gv rfl T.lC) (nomark _)) (pe_one (pe_cal CA hr rfl (pa_cons (pv 0) (pa_cons (pe_gv rfl T.gC) pa_nil)))))), ?_⟩
  refine ⟨_, rfl, x, rfl, le_line0 hx, _, _, rfl, rfl, _, rfl, ?_⟩
  unfold contB at q
  refine ite2 (fun e => ?_) (fun e => ?_)
  · refine ⟨_, rfl, x, CS, rfl, hx, fun H' s' => ?_⟩
    have := q H' s'
    rw [show decide ((x.length : Int) ≤ 200) = true from e] at this
    exact this
  · have := q H (Same.refl H)
    rw [show decide ((x.length : Int) ≤ 200) = false from Bool.eq_false_iff.mpr e, Bool.false_and] at this
    exact this
theorem sc_tail : FnScope ["place", "letters", "left"] ["place"] (defScope s_tail) := ⟨rfl, rfl, rfl, by decide +kernel, rfl, by decide +kernel, by decide +kernel⟩
theorem ok_tail {f : Addr} {fd : FuncData} (F : Fun K "tail" "tail" s_tail f fd) (T : Txt0 mg K w C aN aC aF aG) : FnOk P w K mg base CX0 1 f fd ["place"] spTail := by
  refine F.ok sc_tail (fun vs H Q E h => ?_) (fun cdv A outer s H vs Q E hr h => ?_)
  · obtain ⟨n, rfl, _⟩ := h
    rfl
  obtain ⟨n, rfl, hn, q⟩ := h
  refine ⟨_, (pss_cons (ps_set (i := 1) sc_tail.nd rfl (Or.inl rfl) pe_str)
    (pss_cons (ps_set (i := 2) sc_tail.nd rfl (Or.inl rfl) (pv 0))
    (pss_cons (ps_while PassesOwn.never (pt_cmpR op_gt (pv 2) pe_int (nomark _))
      (pss_cons (ps_set (i := 1) sc_tail.nd rfl (Or.inl rfl) (pe_op op_add_str (pe_ix ix_str (pe_gv rfl T.gL) (pe_op op_mod (pe_op op_sub (pv 2) pe_int) (pe_callB call_len_str rfl T.T.b_len PySem.boot_len (pa_cons (pe_gv rfl T.gL) pa_nil))) (fun _ _ => rfl)) (pv 1)))
    (pss_one (ps_set (i := 2) sc_tail.nd rfl (Or.inl rfl) (pe_op op_fdivL (pe_op op_sub (pv 2) pe_int) (pe_callB call_len_str rfl T.T.b_len PySem.boot_len (pa_cons (pe_gv rfl T.gL) pa_nil)))))))
    (pss_one (ps_ret (pv 1)))))), ?_⟩
  refine ⟨_, rfl, ?_⟩
  refine while_by (fun σ Hx => Hx = H ∧ ∃ (l : Nat) (y : Str), σ = [some (.int n), some (.str y), some (.int l)] ∧ l ≤ n ∧ tailL l ++ y.cps.toList = tailL n) (fun σ _ => match σ with | [_, _, some (.int l)] => l.toNat | _ => 0) ⟨rfl, n, "", rfl, Nat.le_refl _, by show tailL n ++ [] = tailL n; simp⟩ ?_ (fun σ H Q Q' hm ⟨v, hv, i, j, e1, e2, k, e3, qq⟩ => ⟨v, hv, i, j, e1, e2, k, e3, hm _ _ qq⟩)
  rintro σ Hx ⟨rfl, l, y, rfl, hl, hy⟩
  refine ⟨_, rfl, _, _, rfl, rfl, _, rfl, ?_⟩
  refine ite2 (fun e => ?_) (fun e => ?_)
  · have h0 : 0 < l := by have := of_decide_eq_true e; omega
    have hylen : y.length ≤ 1000 := by
      have h1 := congrArg List.length hy
      rw [List.length_append] at h1
      have h2 := tail_len n
      have h3 : y.cps.toList.length = y.length := by simp [Str.length]
      omega
    refine ⟨_, rfl, _, _, rfl, rfl, LT, rfl, by decide, _, _, rfl, rfl, (by show (0 : Int) < 26; decide), LT, _, _, rfl, rfl, by decide, LT_at (Int.emod_nonneg _ (by decide)) (Int.emod_lt_of_pos _ (by decide)), _, rfl, _, _, rfl, rfl, ?_, ?_⟩
    · show 1 + y.length ≤ sizeLine
      have hs : sizeLine = 16777216 := sizeLine_eq
      omega
    refine ⟨_, rfl, _, _, rfl, rfl, LT, rfl, by decide, _, _, rfl, rfl, ⟨by decide, by decide⟩, ?_⟩
    have e1 : ((l : Int) - 1) % (LT.length : Int) = (((l - 1) % 26 : Nat) : Int) := by
      show ((l : Int) - 1) % 26 = _
      omega
    have e2 : ((l : Int) - 1) / (LT.length : Int) = (((l - 1) / 26 : Nat) : Int) := by
      show ((l : Int) - 1) / 26 = _
      omega
    refine ⟨⟨rfl, (l - 1) / 26, ⟨#[97 + (l - 1) % 26]⟩ ++ y, ?_, ?_, ?_⟩, ?_⟩
    · simp only [e1, e2, Int.toNat_natCast]
      rfl
    · have := Nat.div_le_self (l - 1) 26
      omega
    · rw [str_app, ← hy, tailL_pos h0]
      simp
    · show (((l : Int) - 1) / (LT.length : Int)).toNat < ((l : Int)).toNat
      rw [e2]
      have := Nat.div_le_self (l - 1) 26
      omega
  · have h0 : l = 0 := by have := of_decide_eq_false (Bool.eq_false_iff.mpr e); omega
    subst h0
    refine ⟨_, rfl, ?_⟩
    have : y = tailS n := by
      apply str_ext
      rw [← (show tailL n = (tailS n).cps.toList by simp [tailS]), ← hy, tailL]
      rfl
    rw [this]
    exact q
end
end K32
set_option Elab.async false
set_option linter.all false
set_option maxRecDepth 100000
set_option maxHeartbeats 4000000
namespace K32
open PySem L2
theorem tailL_inj : ∀ {i j : Nat}, tailL i = tailL j → i = j
  | 0, 0, _ => rfl
  | 0, j + 1, h => by rw [tailL, tailL] at h; simp at h
  | i + 1, 0, h => by rw [tailL, tailL] at h; simp at h
  | i + 1, j + 1, h => by
    rw [tailL, tailL] at h
    have h1 := List.append_inj' h rfl
    have h2 := tailL_inj h1.1
    have h3 : 97 + i % 26 = 97 + j % 26 := by simpa using h1.2
    omega
decreasing_by exact Nat.lt_succ_of_le (Nat.div_le_self i 26)
theorem cname_inj {n : Int} {i j : Nat} (h : cnameS n i = cnameS n j) : i = j := by
  have h1 : (("c" ++ (toString n : Str)) ++ tailS i).cps.toList = (("c" ++ (toString n : Str)) ++ tailS j).cps.toList := congrArg (fun x : Str => x.cps.toList) h
  generalize ("c" ++ (toString n : Str)) = p at h1
  rw [str_app, str_app] at h1
  have h2 := List.append_cancel_left h1
  exact tailL_inj (by simpa [tailS] using h2)
theorem nodup_le {α : Type} [DecidableEq α] : ∀ {l m : List α}, l.Nodup → (∀ x ∈ l, x ∈ m) → l.length ≤ m.length
  | [], _, _, _ => Nat.zero_le _
  | a :: l, m, nd, h => by
    rw [List.nodup_cons] at nd
    have ha := h a (.head _)
    have := nodup_le (l := l) (m := m.erase a) nd.2 fun x hx => (List.mem_erase_of_ne (fun e => nd.1 (by rw [← e]; exact hx))).mpr (h x (.tail _ hx))
    rw [List.length_erase_of_mem ha] at this
    have hp : 0 < m.length := List.length_pos_of_mem ha
    simp only [List.length_cons]
    omega
theorem find_range {p : Nat → Bool} : ∀ N i, (List.range N).find? p = some i → p i = true ∧ i < N ∧ ∀ j, j < i → p j = false
  | 0, i, h => by simp at h
  | N + 1, i, h => by
    rw [List.range_succ, List.find?_append] at h
    cases e : (List.range N).find? p with
    | some k =>
      rw [e] at h
      cases h
      obtain ⟨a, b, c⟩ := find_range N i e
      exact ⟨a, by omega, c⟩
    | none =>
      rw [e] at h
      simp only [Option.none_or, List.find?_singleton] at h
      split at h
      · rename_i hp
        cases h
        refine ⟨hp, Nat.lt_succ_self _, fun j hj => ?_⟩
        have := List.find?_eq_none.mp e j (List.mem_range.mpr hj)
        simpa using this
      · cases h
theorem free_spec {es : Ent} {n : Int} (h : es.length ≤ 100) : free es n < 703 ∧ lkp es (cnameS n (free es n)) = none ∧ ∀ j, j < free es n → (lkp es (cnameS n j)).isSome = true := by
  cases e : (List.range 703).find? fun i => (lkp es (cnameS n i)).isNone with
  | some i =>
    have ef : free es n = i := by unfold free; rw [e]; rfl
    obtain ⟨a, b, c⟩ := find_range 703 i e
    rw [ef]
    refine ⟨b, by simpa using a, fun j hj => ?_⟩
    have := c j hj
    cases q : lkp es (cnameS n j) with
    | none => rw [q] at this; cases this
    | some x => rfl
  | none =>
    exfalso
    have hall : ∀ x ∈ (List.range 703).map (cnameS n), x ∈ es.map (·.1) := fun x hx => by
      obtain ⟨i, hi, rfl⟩ := List.mem_map.mp hx
      have := List.find?_eq_none.mp e i hi
      cases q : lkp es (cnameS n i) with
      | none => rw [q] at this; exact absurd rfl this
      | some y => exact List.mem_map.mpr ⟨_, lkp_mem q, rfl⟩
    have nd : ((List.range 703).map (cnameS n)).Nodup := List.Pairwise.map _ (fun i j hne e => hne (cname_inj e)) List.nodup_range
    have := nodup_le nd hall
    rw [List.length_map, List.length_range, List.length_map] at this
    omega
theorem log_small {n : Int} (h0 : 0 ≤ n) (h1 : n ≤ 1000) : n.natAbs.log2 < 1920 := by
  have h2 : n.natAbs < 2 ^ 11 := by omega
  rcases Nat.eq_zero_or_pos n.natAbs with e | e
  · rw [e]; decide
  · exact Nat.lt_of_lt_of_le ((Nat.log2_lt (by omega)).mpr h2) (by decide)
theorem num_len {n : Int} (h0 : 0 ≤ n) (h1 : n ≤ 1000) : (toString n : Str).length ≤ 60 := int_text_le h0 (by have : (10 : Int) ^ 60 = 1000000000000000000000000000000000000000000000000000000000000 := by decide
                                                                                                              omega)
theorem tailS_len (n : Nat) : (tailS n).length ≤ n := by
  have := tail_len n
  simpa [tailS, Str.length] using this
theorem some_map {α β : Type} (o : Option α) (f : α → β) : (o.map f).isSome = o.isSome := by cases o <;> rfl
section
variable {P : Program} {w : World} {K : PySem.W.Frag} {mg : Str → Option Value} {base : Heap} {C aN aC aF aG : Addr}
theorem sc_cname : FnScope ["entries", "number", "place"] ["entries", "number"] (defScope s_cname) := ⟨rfl, rfl, rfl, by decide +kernel, rfl, by decide +kernel, by decide +kernel⟩
theorem ok_cname {f : Addr} {fd : FuncData} (F : Fun K "clash_name" "clash_name" s_cname f fd) (T : Txt0 mg K w C aN aC aF aG) (CTA : Cal P w K mg base "tail" ["place"] 1 spTail) : FnOk P w K mg base CX0 2 f fd ["entries", "number"] spCname := by
  refine F.ok sc_cname (fun vs H Q E h => ?_) (fun cdv A outer s H vs Q E hr h => ?_)
  · obtain ⟨d, es, n, rfl, _⟩ := h
    rfl
  obtain ⟨d, es, n, rfl, hd, he, n0, n1, q⟩ := h
  refine ⟨_, (pss_cons (ps_set (i := 2) sc_cname.nd rfl (Or.inl rfl) pe_int)
    (pss_cons (ps_while PassesOwn.never (pt_cmp (pc_din (hu_of hr) (pe_op op_add_str (pe_fstr (pv 1)) (pe_cal CTA hr rfl (pa_cons (pv 2) pa_nil))) (pv 0)) rfl)
      (pss_one (ps_aug (i := 2) sc_cname.nd rfl (Or.inl rfl) pe_int ip_add)))
    (pss_one (ps_ret (pe_op op_add_str (pe_fstr (pv 1)) (pe_cal CTA hr rfl (pa_cons (pv 2) pa_nil))))))), ?_⟩
  obtain ⟨f1, f2, f3⟩ := free_spec (es := es) (n := n) he
  have hlog := log_small n0 n1
  have hnum := num_len n0 n1
  have hc : ("c" : Str).length = 1 := rfl
  have hs : sizeLine = 16777216 := sizeLine_eq
  have hl1 : ∀ p : Nat, p ≤ 703 → ("c" ++ (toString n : Str)).length + (tailS p).length ≤ sizeLine := fun p hp => by
    have := tailS_len p
    rw [Str.length_append]
    omega
  refine while_by (fun σ Hx => Hx = H ∧ ∃ p : Nat, σ = [some (.ref d), some (.int n), some (.int p)] ∧ p ≤ free es n) (fun σ _ => match σ with | [_, _, some (.int p)] => (free es n - p.toNat : Nat) | _ => 0) ⟨rfl, 0, rfl, Nat.zero_le _⟩ ?_ ?_
  · rintro σ Hx ⟨rfl, p, rfl, hp⟩
    refine ⟨by decide, _, rfl, n, rfl, hlog, by omega, _, rfl, p, rfl, by omega, _, _, rfl, rfl, hl1 p (by omega), _, rfl, d, _, rfl, DGet.k (k := Sum.inr (cnameS n p)) hd, _, rfl, ?_⟩
    rw [val_str, some_map]
    refine ite2 (fun e => ?_) (fun e => ?_)
    · refine ⟨_, rfl, _, _, rfl, rfl, ⟨rfl, p + 1, by simp, ?_⟩, ?_⟩
      · rcases Nat.lt_or_ge p (free es n) with z | z
        · exact z
        · have : p = free es n := by omega
          rw [this, f2] at e
          cases e
      · show free es n - ((p : Int) + 1).toNat < free es n - ((p : Int)).toNat
        rcases Nat.lt_or_ge p (free es n) with z | z
        · omega
        · have : p = free es n := by omega
          rw [this, f2] at e
          cases e
    · have hpf : p = free es n := by
        rcases Nat.lt_or_ge p (free es n) with z | z
        · exact absurd (f3 p z) e
        · omega
      subst hpf
      refine ⟨by decide, _, rfl, n, rfl, hlog, by omega, _, rfl, free es n, rfl, by omega, _, _, rfl, rfl, hl1 _ (by omega), ?_⟩
      exact q
  · rintro σ H Q Q' hm ⟨a1, v1, e1, i, e2, l1, l2, v2, e3, p, e4, hp, y, z, e5, e6, l3, v3, e7, d', o, e8, dg, c, e9, qq⟩
    exact ⟨a1, v1, e1, i, e2, l1, l2, v2, e3, p, e4, hp, y, z, e5, e6, l3, v3, e7, d', o, e8, dg, c, e9, hm _ _ qq⟩
theorem sc_node : FnScope ["shelf", "number"] ["shelf", "number"] (defScope s_node) := ⟨rfl, rfl, rfl, by decide +kernel, rfl, by decide +kernel, by decide +kernel⟩
theorem ok_node {f : Addr} {fd : FuncData} (F : Fun K "is_node" "is_node" s_node f fd) (T : Txt0 mg K w C aN aC aF aG) : FnOk P w K mg base CX0 1 f fd ["shelf", "number"] (spNode C) := by
  refine F.ok sc_node (fun vs H Q E h => ?_) (fun cdv A outer s H vs Q E hr h => ?_)
  · obtain ⟨L, dx, df, dg, n, fp, S, fa, ft, rfl, _⟩ := h
    rfl
  obtain ⟨L, dx, df, dg, n, fp, S, fa, ft, rfl, A0, q⟩ := h
  refine ⟨_, (pss_one (ps_ret (pe_or (pe_cmp (pc_din (hu_of hr) (pv 1) (pe_fld (pv 0) rfl)) rfl) (pe_one (pe_cmp (pc_din (hu_of hr) (pv 1) (pe_fld (pv 0) rfl)) rfl))))), ?_⟩
  rw [A0.sfo, A0.sfi, lkp_fo, lkp_fi, some_map, some_map] at q
  refine ⟨_, rfl, _, rfl, L, C, dx, _, _, rfl, A0.root, T.cl, T.nFo, rfl, df, _, rfl, A0.tab.getF n, _, rfl, ?_⟩
  rw [some_map]
  refine ite2 (fun e => ?_) (fun e => ?_)
  · rw [show (lkp fa n).isSome = true from e, Bool.true_or] at q
    exact q
  · refine ⟨_, rfl, _, rfl, L, C, dx, _, _, rfl, A0.root, T.cl, T.nFi, rfl, dg, _, rfl, A0.tab.getG n, ?_⟩
    rw [some_map]
    rw [show (lkp fa n).isSome = false from Bool.eq_false_iff.mpr e, Bool.false_or] at q
    exact q
theorem sc_parts : FnScope ["deed", "places"] ["deed", "places"] (defScope s_parts) := ⟨rfl, rfl, rfl, by decide +kernel, rfl, by decide +kernel, by decide +kernel⟩
theorem ok_parts {f : Addr} {fd : FuncData} (F : Fun K "parts_at" "parts_at" s_parts f fd)  : FnOk P w K mg base CX0 1 f fd ["deed", "places"] (spParts K) := by
  refine F.ok sc_parts (fun vs H Q E h => ?_) (fun cdv A outer s H vs Q E hr h => ?_)
  · obtain ⟨t, p, xs, ps, rfl, _⟩ := h
    rfl
  obtain ⟨t, p, xs, ps, rfl, ht, hp, hn, hl, q⟩ := h
  refine ⟨_, (pss_one (ps_ret (pe_lc [none, some 0] ["place", "deed"] rfl cap01 (pi_tup (pv 1)) (fun _ _ _ _ _ _ => (pg_name (i := 0) (by decide +kernel : (["place", "deed"] : List Str).Nodup) rfl (Or.inl rfl))) (fun _ _ _ _ _ _ => pifs_nil) (fun _ _ _ _ _ _ => (pe_ix (r := rIxT K) ix_tup (pv 1) (pv 0) (fun _ _ => rfl)))))), ?_⟩
  refine ⟨_, rfl, p, rfl, ⟨_, hp⟩, ?_⟩
  refine comp_mapT (K := K) (rest := [some (.ref t)]) (fun v => match v with | .int n => xs.getD n.toNat .non | _ => .non) (fun H' s' => sqT_same hp s') (by rw [List.length_map]; omega) (fun x hx H1 s1 Q' hq => ?_) fun H' D s' hD => ?_
  · obtain ⟨n, hn', rfl⟩ := List.mem_map.mp hx
    have hlt := hn n hn'
    refine ⟨_, rfl, _, rfl, t, xs, (n : Int), xs[n], rfl, rfl, sqT_same ht s1, atI_nat (List.getElem?_eq_getElem hlt), ?_⟩
    have := hq H1 (Same.refl H1)
    simpa [hlt] using this
  · rw [List.map_map]
    exact q D H' s' hD
end
end K32
set_option Elab.async false
set_option linter.all false
set_option maxRecDepth 100000
set_option maxHeartbeats 4000000
namespace K32
open PySem L2
noncomputable def wordD : Deed → Str
  | .make _ _ _ => "make"
  | .fold _ _ => "fold"
  | .put _ _ _ => "put"
noncomputable def nmD : Deed → List Str
  | .make _ a _ => [a]
  | .fold _ a => [a]
  | .put _ _ _ => []
noncomputable def ctD : Deed → List Str
  | .make _ _ c => [c]
  | .fold _ _ => []
  | .put _ _ c => [c]
noncomputable def foD : Deed → List Int
  | .make w _ _ => [w]
  | .fold w _ => [w]
  | .put _ _ _ => []
noncomputable def fiD : Deed → List Int
  | .make _ _ _ => []
  | .fold _ _ => []
  | .put n _ _ => [n]
noncomputable def pN : Deed → List Nat
  | .put _ _ _ => []
  | _ => [2]
noncomputable def pC : Deed → List Nat
  | .fold _ _ => []
  | _ => [3]
noncomputable def pF : Deed → List Nat
  | .put _ _ _ => []
  | _ => [1]
noncomputable def pG : Deed → List Nat
  | .put _ _ _ => [1]
  | _ => []
noncomputable def allW (S : Sh) (nm ct : List Str) (fo fi : List Int) : Option Str :=
  if !(nm.map nameB ++ ct.map contB).all id then some "name" else if !((fo ++ fi).map fun n => (lkp S.fo n).isSome || (lkp S.fi n).isSome).all id then some "gone"
  else if !((fo.map fun n => (lkp S.fo n).isSome) ++ (fi.map fun n => (lkp S.fi n).isSome)).all id then some "kind" else none
theorem allW_d (S : Sh) (d : Deed) : allW S (nmD d) (ctD d) (foD d) (fiD d) = partsW S d := by
  cases d with
  | make w a c => simp [allW, partsW, nmD, ctD, foD, fiD]
  | fold w a => simp [allW, partsW, nmD, ctD, foD, fiD]
  | put n v c => simp [allW, partsW, nmD, ctD, foD, fiD]
theorem d_at0 (d : Deed) : atI (dV d) 0 = some (.str (wordD d)) := by cases d <;> rfl
noncomputable def GN : V → V := fun v => match v with | .str x => .bl (nameB x) | v => v
noncomputable def GC : V → V := fun v => match v with | .str x => .bl (contB x) | v => v
noncomputable def GI (f : Int → Bool) : V → V := fun v => match v with | .int n => .bl (f n) | v => v
theorem mapGN (l : List Str) : (l.map V.str).map GN = (l.map nameB).map V.bl := by rw [List.map_map, List.map_map]; rfl
theorem mapGC (l : List Str) : (l.map V.str).map GC = (l.map contB).map V.bl := by rw [List.map_map, List.map_map]; rfl
theorem mapGI (f : Int → Bool) (l : List Int) : (l.map V.int).map (GI f) = (l.map f).map V.bl := by rw [List.map_map, List.map_map]; rfl
section
variable {P : Program} {w : World} {K : PySem.W.Frag} {mg : Str → Option Value} {base : Heap} {C aN aC aF aG : Addr}
theorem sc_rparts : FnScope ["shelf", "deed", "names", "contents", "folders", "files"] ["shelf", "deed"] (defScope s_rparts) := ⟨rfl, rfl, rfl, by decide +kernel, rfl, by decide +kernel, by decide +kernel⟩
theorem ok_rparts {f : Addr} {fd : FuncData} (F : Fun K "refusal_of_parts" "refusal_of_parts" s_rparts f fd) (T : Txt0 mg K w C aN aC aF aG) (CPA : Cal P w K mg base "parts_at" ["deed", "places"] 1 (spParts K)) (CIN : Cal P w K mg base "is_name" ["text"] 2 (spB nameB)) (CIC : Cal P w K mg base "is_content" ["text"] 2 (spB contB)) (CNO : Cal P w K mg base "is_node" ["shelf", "number"] 1 (spNode C)) : FnOk P w K mg base CX0 3 f fd ["shelf", "deed"] (spRparts K C) := by
  refine F.ok sc_rparts (fun vs H Q E h => ?_) (fun cdv A outer s H vs Q E hr h => ?_)
  · obtain ⟨L, dx, df, dg, t, fp, S, fa, ft, d, rfl, _⟩ := h
    rfl
  obtain ⟨L, dx, df, dg, t, fp, S, fa, ft, d, rfl, A0, ht, hd, q⟩ := h
  refine ⟨_, (pss_cons (ps_set (i := 2) sc_rparts.nd rfl (Or.inl rfl) (pe_cal CPA hr rfl (pa_cons (pv 1) (pa_cons (pe_ix ix_ktab (pe_gv (v := .ref aN) rfl ⟨_, T.kN, rfl⟩) (pe_ix ix_tup (pv 1) pe_int (fun _ _ => rfl)) (fun _ _ => rfl)) pa_nil))))
    (pss_cons (ps_set (i := 3) sc_rparts.nd rfl (Or.inl rfl) (pe_cal CPA hr rfl (pa_cons (pv 1) (pa_cons (pe_ix ix_ktab (pe_gv (v := .ref aC) rfl ⟨_, T.kC, rfl⟩) (pe_ix ix_tup (pv 1) pe_int (fun _ _ => rfl)) (fun _ _ => rfl)) pa_nil))))
    (pss_cons (ps_set (i := 4) sc_rparts.nd rfl (Or.inl rfl) (pe_cal CPA hr rfl (pa_cons (pv 1) (pa_cons (pe_ix ix_ktab (pe_gv (v := .ref aF) rfl ⟨_, T.kF, rfl⟩) (pe_ix ix_tup (pv 1) pe_int (fun _ _ => rfl)) (fun _ _ => rfl)) pa_nil))))
    (pss_cons (ps_set (i := 5) sc_rparts.nd rfl (Or.inl rfl) (pe_cal CPA hr rfl (pa_cons (pv 1) (pa_cons (pe_ix ix_ktab (pe_gv (v := .ref aG) rfl ⟨_, T.kG, rfl⟩) (pe_ix ix_tup (pv 1) pe_int (fun _ _ => rfl)) (fun _ _ => rfl)) pa_nil))))
    (pss_cons (ps_if (pt_not (pt_val (pe_callB (call_allB rfl) rfl T.T.b_all PyProof.Rows.boot_all (pa_cons (pe_op op_cat (pe_lc [none] ["name"] rfl cap1 (pi_list (pv 2)) (fun _ _ _ _ _ _ => (pg_name (i := 0) nd1 rfl (Or.inl rfl))) (fun _ _ _ _ _ _ => pifs_nil) (fun _ _ _ _ _ _ => (pe_cal CIN hr rfl (pa_cons (pv 0) pa_nil)))) (pe_lc [none] ["content"] rfl cap1 (pi_list (pv 3)) (fun _ _ _ _ _ _ => (pg_name (i := 0) nd1 rfl (Or.inl rfl))) (fun _ _ _ _ _ _ => pifs_nil) (fun _ _ _ _ _ _ => (pe_cal CIC hr rfl (pa_cons (pv 0) pa_nil))))) pa_nil))))
      (pss_one (ps_ret pe_str)) pss_nil)
    (pss_cons (ps_if (pt_not (pt_val (pe_callB (call_allB rfl) rfl T.T.b_all PyProof.Rows.boot_all (pa_cons (pe_lc [none, some 0] ["number", "shelf"] rfl cap01 (pi_list (pe_op op_cat (pv 4) (pv 5))) (fun _ _ _ _ _ _ => (pg_name (i := 0) (by decide +kernel : (["number", "shelf"] : List Str).Nodup) rfl (Or.inl rfl))) (fun _ _ _ _ _ _ => pifs_nil) (fun _ _ _ _ _ _ => (pe_cal CNO hr rfl (pa_cons (pv 1) (pa_cons (pv 0) pa_nil))))) pa_nil))))
      (pss_one (ps_ret pe_str)) pss_nil)
    (pss_cons (ps_if (pt_not (pt_val (pe_callB (call_allB rfl) rfl T.T.b_all PyProof.Rows.boot_all (pa_cons (pe_op op_cat (pe_lc [none, some 0] ["number", "shelf"] rfl cap01 (pi_list (pv 4)) (fun _ _ _ _ _ _ => (pg_name (i := 0) (by decide +kernel : (["number", "shelf"] : List Str).Nodup) rfl (Or.inl rfl))) (fun _ _ _ _ _ _ => pifs_nil) (fun _ _ _ _ _ _ => (pe_cmp (pc_din (hu_of hr) (pv 0) (pe_fldK (K := K) rfl (pv 1) rfl)) rfl))) (pe_lc [none, some 0] ["number", "shelf"] rfl cap01 (pi_list (pv 5)) (fun _ _ _ _ _ _ => (pg_name (i := 0) (by decide +kernel : (["number", "shelf"] : List Str).Nodup) rfl (Or.inl rfl))) (fun _ _ _ _ _ _ => pifs_nil) (fun _ _ _ _ _ _ => (pe_cmp (pc_din (hu_of hr) (pv 0) (pe_fldK (K := K) rfl (pv 1) rfl)) rfl)))) pa_nil))))
      (pss_one (ps_ret pe_str)) pss_nil)
    (pss_one (ps_ret pe_non))))))))), ?_⟩
  have hd0 := d_at0 d
  refine ⟨_, rfl, _, rfl, t, _, _, _, rfl, rfl, SqT.of ht, hd0, aN, rowsN, wordD d, (pN d).map (fun n : Nat => V.int (n : Int)), rfl, rfl, T.tN, by cases d <;> first | exact .head _ | exact .tail _ (.head _) | exact .tail _ (.tail _ (.head _)), fun p1 hp1 => ⟨t, p1, dV d, pN d, rfl, SqT.of ht, hp1, by cases d <;> simp [pN, dV], by cases d <;> simp [pN], fun l1 H1 s1 hl1 => ?_⟩⟩
  have x1 : (pN d).map (fun n : Nat => (dV d).getD n .non) = (nmD d).map V.str := by cases d <;> rfl
  rw [x1]
  have u1 := s1.trans (same_new hl1 (.lst ((nmD d).map V.str)))
  refine ⟨_, rfl, _, rfl, t, _, _, _, rfl, rfl, SqT.of (u1 _ _ ht), hd0, aC, rowsC, wordD d, (pC d).map (fun n : Nat => V.int (n : Int)), rfl, rfl, T.tC, by cases d <;> first | exact .head _ | exact .tail _ (.head _) | exact .tail _ (.tail _ (.head _)), fun p2 hp2 => ⟨t, p2, dV d, pC d, rfl, SqT.of (u1 _ _ ht), hp2, by cases d <;> simp [pC, dV], by cases d <;> simp [pC], fun l2 H2 s2 hl2 => ?_⟩⟩
  have x2 : (pC d).map (fun n : Nat => (dV d).getD n .non) = (ctD d).map V.str := by cases d <;> rfl
  rw [x2]
  have u2 := s2.trans (same_new hl2 (.lst ((ctD d).map V.str)))
  refine ⟨_, rfl, _, rfl, t, _, _, _, rfl, rfl, SqT.of ((u1.trans u2) _ _ ht), hd0, aF, rowsF, wordD d, (pF d).map (fun n : Nat => V.int (n : Int)), rfl, rfl, T.tF, by cases d <;> first | exact .head _ | exact .tail _ (.head _) | exact .tail _ (.tail _ (.head _)), fun p3 hp3 => ⟨t, p3, dV d, pF d, rfl, SqT.of ((u1.trans u2) _ _ ht), hp3, by cases d <;> simp [pF, dV], by cases d <;> simp [pF], fun l3 H3 s3 hl3 => ?_⟩⟩
  have x3 : (pF d).map (fun n : Nat => (dV d).getD n .non) = (foD d).map V.int := by cases d <;> rfl
  rw [x3]
  have u3 := s3.trans (same_new hl3 (.lst ((foD d).map V.int)))
  refine ⟨_, rfl, _, rfl, t, _, _, _, rfl, rfl, SqT.of ((u1.trans (u2.trans u3)) _ _ ht), hd0, aG, rowsG, wordD d, (pG d).map (fun n : Nat => V.int (n : Int)), rfl, rfl, T.tG, by cases d <;> first | exact .head _ | exact .tail _ (.head _) | exact .tail _ (.tail _ (.head _)), fun p4 hp4 => ⟨t, p4, dV d, pG d, rfl, SqT.of ((u1.trans (u2.trans u3)) _ _ ht), hp4, by cases d <;> simp [pG, dV], by cases d <;> simp [pG], fun l4 H4 s4 hl4 => ?_⟩⟩
  have x4 : (pG d).map (fun n : Nat => (dV d).getD n .non) = (fiD d).map V.int := by cases d <;> rfl
  rw [x4]
  have u4 := s4.trans (same_new hl4 (.lst ((fiD d).map V.int)))
  have b1 : upd H4 l4 (.lst ((fiD d).map V.int)) l1 = some (.lst ((nmD d).map V.str)) := (u2.trans (u3.trans u4)) _ _ upd_same
  have b2 : upd H4 l4 (.lst ((fiD d).map V.int)) l2 = some (.lst ((ctD d).map V.str)) := (u3.trans u4) _ _ upd_same
  have b3 : upd H4 l4 (.lst ((fiD d).map V.int)) l3 = some (.lst ((foD d).map V.int)) := u4 _ _ upd_same
  have b4 : upd H4 l4 (.lst ((fiD d).map V.int)) l4 = some (.lst ((fiD d).map V.int)) := upd_same
  have u := u1.trans (u2.trans (u3.trans u4))
  have A1 := A0.same u
  have q1 : ∀ H', Same (upd H4 l4 (.lst ((fiD d).map V.int))) H' → Q (oV (partsW S d)) H' := fun H' s' => q H' (u.trans s')
  clear q
  generalize upd H4 l4 (.lst ((fiD d).map V.int)) = J at *
  rw [← allW_d] at q1
  have n1 : (nmD d).length ≤ 1 := by cases d <;> simp [nmD]
  have n2 : (ctD d).length ≤ 1 := by cases d <;> simp [ctD]
  have n3 : (foD d).length ≤ 1 := by cases d <;> simp [foD]
  have n4 : (fiD d).length ≤ 1 := by cases d <;> simp [fiD]
  have g1 : ∀ x ∈ nmD d, x.length ≤ 1000000 := by cases d <;> simp [nmD, dLen] at hd ⊢ <;> omega
  have g2 : ∀ x ∈ ctD d, x.length ≤ 1000000 := by cases d <;> simp [ctD, dLen] at hd ⊢ <;> omega
  have hs : sizeLine = 16777216 := sizeLine_eq
  refine ⟨_, rfl, l1, rfl, ⟨_, SqL.of b1⟩, comp_mapL (K := K) (rest := []) GN (SqL.of b1) (by rw [List.length_map]; omega) (fun x hx H1 s1 Q' hq => ?_) fun J1 D1 t1 hD1 => ?_⟩
  · obtain ⟨y, hy, rfl⟩ := List.mem_map.mp hx
    exact ⟨_, rfl, y, rfl, g1 y hy, fun H2 s2 => hq H2 s2⟩
  refine ⟨_, rfl, l2, rfl, ⟨_, SqL.of ((t1.trans (same_new hD1 _)) _ _ b2)⟩, comp_mapL (K := K) (rest := []) GC (SqL.of ((t1.trans (same_new hD1 _)) _ _ b2)) (by rw [List.length_map]; omega) (fun x hx H1 s1 Q' hq => ?_) fun J2 D2 t2 hD2 => ?_⟩
  · obtain ⟨y, hy, rfl⟩ := List.mem_map.mp hx
    exact ⟨_, rfl, y, rfl, g2 y hy, fun H2 s2 => hq H2 s2⟩
  have c1 : upd J2 D2 (.lst (((ctD d).map V.str).map GC)) D1 = some (.lst (((nmD d).map V.str).map GN)) := (t2.trans (same_new hD2 _)) _ _ upd_same
  refine ⟨D1, D2, _, _, rfl, rfl, c1, upd_same, by simp; omega, fun D3 hD3 => ?_⟩
  refine ⟨D3, (nmD d).map nameB ++ (ctD d).map contB, rfl, SqL.of (by rw [mapGN, mapGC, ← List.map_append]; exact upd_same), _, rfl, ?_⟩
  have v1 := (t1.trans (same_new hD1 (.lst (((nmD d).map V.str).map GN)))).trans ((t2.trans (same_new hD2 (.lst (((ctD d).map V.str).map GC)))).trans (same_new hD3 (.lst (((nmD d).map V.str).map GN ++ ((ctD d).map V.str).map GC))))
  unfold allW at q1
  refine ite2 (fun e => ?_) (fun e => ?_)
  · rw [if_pos e] at q1
    exact q1 _ v1
  rw [if_neg e] at q1
  have q2 := fun H' s' => q1 H' (v1.trans s')
  clear q1
  have b3' := v1 _ _ b3
  have b4' := v1 _ _ b4
  have A2 := A1.same v1
  generalize upd (upd J2 D2 (.lst (((ctD d).map V.str).map GC))) D3 (.lst (((nmD d).map V.str).map GN ++ ((ctD d).map V.str).map GC)) = J' at *
  refine ⟨_, rfl, _, rfl, l3, l4, _, _, rfl, rfl, b3', b4', by simp; omega, fun D4 hD4 => ⟨D4, rfl, ⟨_, SqL.of upd_same⟩, ?_⟩⟩
  refine comp_mapL (K := K) (rest := [some (.ref L)]) (GI fun n => (lkp S.fo n).isSome || (lkp S.fi n).isSome) (SqL.of upd_same) (by simp; omega) (fun x hx H1 s1 Q' hq => ?_) fun J3 D5 t3 hD5 => ?_
  · rw [← List.map_append] at hx
    obtain ⟨y, hy, rfl⟩ := List.mem_map.mp hx
    exact ⟨_, rfl, _, rfl, L, dx, df, dg, y, fp, S, fa, ft, rfl, A2.same ((same_new hD4 _).trans s1), hq H1 (Same.refl H1)⟩
  refine ⟨D5, (foD d ++ fiD d).map fun n => (lkp S.fo n).isSome || (lkp S.fi n).isSome, rfl, SqL.of (by rw [← List.map_append, mapGI]; exact upd_same), _, rfl, ?_⟩
  have v2 := (same_new hD4 (.lst ((foD d).map V.int ++ (fiD d).map V.int))).trans (t3.trans (same_new hD5 (.lst (((foD d).map V.int ++ (fiD d).map V.int).map (GI fun n => (lkp S.fo n).isSome || (lkp S.fi n).isSome)))))
  refine ite2 (fun e => ?_) (fun e => ?_)
  · rw [if_pos e] at q2
    exact q2 _ v2
  rw [if_neg e] at q2
  have q3 := fun H' s' => q2 H' (v2.trans s')
  clear q2
  have b3 := v2 _ _ b3'
  have b4 := v2 _ _ b4'
  have A3 := A2.same v2
  generalize upd J3 D5 (.lst (((foD d).map V.int ++ (fiD d).map V.int).map (GI fun n => (lkp S.fo n).isSome || (lkp S.fi n).isSome))) = J4 at *
  refine ⟨_, rfl, l3, rfl, ⟨_, SqL.of b3⟩, comp_mapL (K := K) (rest := [some (.ref L)]) (GI fun n => (lkp S.fo n).isSome) (SqL.of b3) (by rw [List.length_map]; omega) (fun x hx H1 s1 Q' hq => ?_) fun J5 D6 t4 hD6 => ?_⟩
  · obtain ⟨y, hy, rfl⟩ := List.mem_map.mp hx
    have A4 := A3.same s1
    refine ⟨_, rfl, _, rfl, L, C, dx, _, _, rfl, A4.root, T.cl, T.nFo, rfl, df, _, rfl, A4.tab.getF y, ?_⟩
    have := hq H1 (Same.refl H1)
    rw [some_map]
    simp only [GI, A0.sfo, lkp_fo, some_map] at this
    exact this
  refine ⟨_, rfl, l4, rfl, ⟨_, SqL.of ((t4.trans (same_new hD6 _)) _ _ b4)⟩, comp_mapL (K := K) (rest := [some (.ref L)]) (GI fun n => (lkp S.fi n).isSome) (SqL.of ((t4.trans (same_new hD6 _)) _ _ b4)) (by rw [List.length_map]; omega) (fun x hx H1 s1 Q' hq => ?_) fun J6 D7 t5 hD7 => ?_⟩
  · obtain ⟨y, hy, rfl⟩ := List.mem_map.mp hx
    have A4 := A3.same ((t4.trans (same_new hD6 _)).trans s1)
    refine ⟨_, rfl, _, rfl, L, C, dx, _, _, rfl, A4.root, T.cl, T.nFi, rfl, dg, _, rfl, A4.tab.getG y, ?_⟩
    have := hq H1 (Same.refl H1)
    rw [some_map]
    simp only [GI, A0.sfi, lkp_fi, some_map] at this
    exact this
  have c2 : upd J6 D7 (.lst (((fiD d).map V.int).map (GI fun n => (lkp S.fi n).isSome))) D6 = some (.lst (((foD d).map V.int).map (GI fun n => (lkp S.fo n).isSome))) := (t5.trans (same_new hD7 _)) _ _ upd_same
  refine ⟨D6, D7, _, _, rfl, rfl, c2, upd_same, by simp; omega, fun D8 hD8 => ?_⟩
  refine ⟨D8, ((foD d).map fun n => (lkp S.fo n).isSome) ++ ((fiD d).map fun n => (lkp S.fi n).isSome), rfl, SqL.of (by rw [mapGI, mapGI, ← List.map_append]; exact upd_same), _, rfl, ?_⟩
  have v3 := (t4.trans (same_new hD6 (.lst (((foD d).map V.int).map (GI fun n => (lkp S.fo n).isSome))))).trans ((t5.trans (same_new hD7 (.lst (((fiD d).map V.int).map (GI fun n => (lkp S.fi n).isSome))))).trans (same_new hD8 (.lst (((foD d).map V.int).map (GI fun n => (lkp S.fo n).isSome) ++ ((fiD d).map V.int).map (GI fun n => (lkp S.fi n).isSome)))))
  refine ite2 (fun e => ?_) (fun e => ?_)
  · rw [if_pos e] at q3
    exact q3 _ v3
  · rw [if_neg e] at q3
    exact q3 _ v3
end
end K32
set_option Elab.async false
set_option linter.all false
set_option maxRecDepth 100000
set_option maxHeartbeats 4000000
namespace K32
open PySem L2
theorem pw_put {S : Sh} {n v : Int} {c : Str} (hp : partsW S (.put n v c) = none) : (lkp S.fi n).isSome = true := by
  change (if (!contB c) = true then some ("name" : Str) else if (!((lkp S.fo n).isSome || (lkp S.fi n).isSome)) = true then some ("gone" : Str) else if (!(lkp S.fi n).isSome) = true then some ("kind" : Str) else none) = none at hp
  split at hp
  · cases hp
  split at hp
  · cases hp
  split at hp
  · cases hp
  · rename_i h
    cases q : (lkp S.fi n).isSome with
    | true => rfl
    | false => rw [q] at h; exact absurd rfl h
theorem pw_make {S : Sh} {n : Int} {a c : Str} (hp : partsW S (.make n a c) = none) : (lkp S.fo n).isSome = true := by
  change (if (!(nameB a && contB c)) = true then some ("name" : Str) else if (!((lkp S.fo n).isSome || (lkp S.fi n).isSome)) = true then some ("gone" : Str) else if (!(lkp S.fo n).isSome) = true then some ("kind" : Str) else none) = none at hp
  split at hp
  · cases hp
  split at hp
  · cases hp
  split at hp
  · cases hp
  · rename_i h
    cases q : (lkp S.fo n).isSome with
    | true => rfl
    | false => rw [q] at h; exact absurd rfl h
theorem pw_fold {S : Sh} {n : Int} {a : Str} (hp : partsW S (.fold n a) = none) : (lkp S.fo n).isSome = true := by
  change (if (!nameB a) = true then some ("name" : Str) else if (!((lkp S.fo n).isSome || (lkp S.fi n).isSome)) = true then some ("gone" : Str) else if (!(lkp S.fo n).isSome) = true then some ("kind" : Str) else none) = none at hp
  split at hp
  · cases hp
  split at hp
  · cases hp
  split at hp
  · cases hp
  · rename_i h
    cases q : (lkp S.fo n).isSome with
    | true => rfl
    | false => rw [q] at h; exact absurd rfl h
theorem rw_some {S : Sh} {d : Deed} {x : Str} (hp : partsW S d = some x) : refW S d = some x := by unfold refW; rw [hp]
theorem rw_put {S : Sh} {n v : Int} {c : Str} (hp : partsW S (.put n v c) = none) : refW S (.put n v c) = if ((lkp S.fi n).getD (0, Str.empty)).1 = v then none else some ("stale" : Str) := by unfold refW; rw [hp]
theorem rw_make {S : Sh} {n : Int} {a c : Str} (hp : partsW S (.make n a c) = none) : refW S (.make n a c) = if (lkp ((lkp S.fo n).getD []) a).isSome then some ("there" : Str) else none := by unfold refW; rw [hp]
theorem rw_fold {S : Sh} {n : Int} {a : Str} (hp : partsW S (.fold n a) = none) : refW S (.fold n a) = if (lkp ((lkp S.fo n).getD []) a).isSome then some ("there" : Str) else none := by unfold refW; rw [hp]
theorem nrP (C dx : Addr) : ∀ a b n, Still (rtP C dx a b n) = false := fun _ _ _ => rfl
theorem putG (df dg : Addr) (l m : Int) : putF "greatest" (.int m) ([("folders", .ref df), ("files", .ref dg), ("greatest", .int l)] : List (Str × V)) = ([("folders", .ref df), ("files", .ref dg), ("greatest", .int m)] : List (Str × V)) := by
  have h1 : ¬ ("folders" : Str) = "greatest" := by decide +kernel
  have h2 : ¬ ("files" : Str) = "greatest" := by decide +kernel
  simp [putF, h1, h2]
noncomputable def spNewn (C : Addr) : Sp := fun vs H Q _ => ∃ (L dx df dg : Addr) (l : Int), vs = [.ref L] ∧ H L = some (rtP C dx df dg l) ∧ Q (.int (l + 1)) (upd H L (rtP C dx df dg (l + 1)))
noncomputable def spMfile (C : Addr) : Sp := fun vs H Q _ => ∃ (L dx df dg a : Addr) (w : Int) (x c : Str) (fp : List Addr) (S : Sh) (fa : List (Int × Addr × Ent)) (ft : List (Int × Addr × Int × Str)) (es : Ent), vs = [.ref L, .int w, .str x, .str c] ∧ ShAt (rtP C dx) H L fp S df dg fa ft ∧ Good S ∧ lkp fa w = some (a, es) ∧ lkp es x = none ∧
  ∀ H' fp', ShE (rtP C dx) H' L fp' (S.file w x c) → Aft H fp H' fp' → Q (.int (S.last + 1)) H'
noncomputable def spMfold (C : Addr) : Sp := fun vs H Q _ => ∃ (L dx df dg a : Addr) (w : Int) (x : Str) (fp : List Addr) (S : Sh) (fa : List (Int × Addr × Ent)) (ft : List (Int × Addr × Int × Str)) (es : Ent), vs = [.ref L, .int w, .str x] ∧ ShAt (rtP C dx) H L fp S df dg fa ft ∧ Good S ∧ lkp fa w = some (a, es) ∧ lkp es x = none ∧
  ∀ H' fp', ShE (rtP C dx) H' L fp' (S.fold w x) → Aft H fp H' fp' → Q (.int (S.last + 1)) H'
noncomputable def spPutc (C : Addr) : Sp := fun vs H Q _ => ∃ (L dx df dg a : Addr) (n v : Int) (c c' : Str) (fp : List Addr) (S : Sh) (fa : List (Int × Addr × Ent)) (ft : List (Int × Addr × Int × Str)), vs = [.ref L, .int n, .str c'] ∧ ShAt (rtP C dx) H L fp S df dg fa ft ∧ Good S ∧ lkp ft n = some (a, v, c) ∧
  ∀ H' fp', ShE (rtP C dx) H' L fp' (S.put n (v + 1) c') → Aft H fp H' fp' → Q (.int (v + 1)) H'
noncomputable def doP (S : Sh) (d : Deed) : Sh × Ans := match refW S d with
  | some x => (S, .no x)
  | none => match d with
    | .make w a c => (S.file w a c, .made (S.last + 1))
    | .fold w a => (S.fold w a, .made (S.last + 1))
    | .put n v c => (S.put n (((lkp S.fi n).getD (0, Str.empty)).1 + 1) c, .put (((lkp S.fi n).getD (0, Str.empty)).1 + 1))
noncomputable def spDone (C : Addr) : Sp := fun vs H Q _ => ∃ (L dx t : Addr) (fp : List Addr) (S : Sh) (d : Deed), vs = [.ref L, .ref t] ∧ ShE (rtP C dx) H L fp S ∧ Good S ∧ H t = some (.tup (dV d)) ∧ dLen d ∧
  ∀ u H' fp', ShE (rtP C dx) H' L fp' (doP S d).1 → Aft H fp H' fp' → H u = none → H' u = some (.tup (doP S d).2.v) → Q (.ref u) H'
section
variable {P : Program} {w : World} {K : PySem.W.Frag} {mg : Str → Option Value} {base : Heap} {C aN aC aF aG : Addr}
theorem sc_refusal : FnScope ["shelf", "deed", "word"] ["shelf", "deed"] (defScope s_refusal) := ⟨rfl, rfl, rfl, by decide +kernel, rfl, by decide +kernel, by decide +kernel⟩
theorem ok_refusal {f : Addr} {fd : FuncData} (F : Fun K "refusal" "refusal" s_refusal f fd) (T : Txt0 mg K w C aN aC aF aG) (CRP : Cal P w K mg base "refusal_of_parts" ["shelf", "deed"] 3 (spRparts K C)) : FnOk P w K mg base CX0 4 f fd ["shelf", "deed"] (spRefusal K C) := by
  refine F.ok sc_refusal (fun vs H Q E h => ?_) (fun cdv A outer s H vs Q E hr h => ?_)
  · obtain ⟨L, dx, df, dg, t, fp, S, fa, ft, d, rfl, _⟩ := h
    rfl
  obtain ⟨L, dx, df, dg, t, fp, S, fa, ft, d, rfl, A0, ht, hd, q⟩ := h
  refine ⟨_, (pss_cons (ps_set (i := 2) sc_refusal.nd rfl (Or.inl rfl) (pe_cal CRP hr rfl (pa_cons (pv 0) (pa_cons (pv 1) pa_nil))))
    (pss_cons (ps_if (pt_cmpR op_notN (pv 2) pe_non (nomark _))
      (pss_one (ps_ret (pv 2))) pss_nil)
    (pss_cons (ps_if (pt_cmpR op_eq (pe_ix ix_tup (pv 1) pe_int (fun _ _ => rfl)) pe_str (nomark _))
      (pss_one (ps_ret (pe_ifExp (pt_cmpR op_ne (pe_ix ix_tup (pv 1) pe_int (fun _ _ => rfl)) (pe_ix ix_tup (pe_dget (hu_of hr) (pe_fld (pv 0) rfl) (pe_ix ix_tup (pv 1) pe_int (fun _ _ => rfl)) (fun _ _ => rfl)) pe_int (fun _ _ => rfl)) (nomark _)) pe_str pe_non))) pss_nil)
    (pss_cons (ps_if (pt_cmpR op_eq (pe_ix ix_tup (pv 1) pe_int (fun _ _ => rfl)) pe_str (nomark _))
      pss_never pss_nil)
    (pss_cons (ps_if (pt_cmpR op_eq (pe_ix ix_tup (pv 1) pe_int (fun _ _ => rfl)) pe_str (nomark _))
      pss_never pss_nil)
    (pss_one (ps_ret (pe_ifExp (pt_cmp (pc_din (hu_of hr) (pe_ix ix_tup (pv 1) pe_int (fun _ _ => rfl)) (pe_dget (hu_of hr) (pe_fld (pv 0) rfl) (pe_ix ix_tup (pv 1) pe_int (fun _ _ => rfl)) (fun _ _ => rfl))) rfl) pe_str pe_non)))))))), ?_⟩
  refine ⟨_, rfl, _, rfl, L, dx, df, dg, t, fp, S, fa, ft, d, rfl, A0, ht, hd, fun H1 s1 => ?_⟩
  have A1 := A0.same s1
  have ht1 := s1 _ _ ht
  have q1 := q H1 s1
  refine ⟨_, rfl, rfl, _, rfl, ?_⟩
  cases hp : partsW S d with
  | some x =>
    rw [rw_some hp] at q1
    exact ⟨_, rfl, q1⟩
  | none =>
    refine iteF ?_
    refine ⟨_, rfl, t, _, _, _, rfl, rfl, SqT.of ht1, d_at0 d, rfl, _, rfl, ?_⟩
    cases d with
    | put n v c =>
      have hs := pw_put hp
      obtain ⟨a, v', c', e1, e2⟩ := A1.fi_some hs
      refine ite2 (fun _ => ?_) (fun e => absurd rfl e)
      refine ⟨_, rfl, t, _, _, _, rfl, rfl, SqT.of ht1, rfl, _, rfl, L, C, dx, _, _, rfl, A1.root, T.cl, T.nFi, rfl, _, rfl, t, _, _, _, rfl, rfl, SqT.of ht1, rfl, dg, .ref a, rfl, (by have := A1.tab.getG n; rw [e1] at this; exact this), a, _, _, _, rfl, rfl, SqT.of (A1.tab.ht _ (lkp_mem e1)), rfl, rfl, _, rfl, ?_⟩
      rw [rw_put hp, e2] at q1
      change Q (oV (if v' = v then none else some ("stale" : Str))) H1 at q1
      refine ite2 (fun e => ?_) (fun e => ?_)
      · have : ¬ v' = v := fun z => by
          subst z
          simp at e
        rw [if_neg this] at q1
        exact q1
      · have : v' = v := by
          have : (!decide (V.int v = V.int v')) = false := Bool.eq_false_iff.mpr e
          simp at this
          exact this.symm
        rw [if_pos this] at q1
        exact q1
    | make w' x c =>
      have hw : wordD (Deed.make w' x c) = "make" := rfl
      rw [hw]
      have hs := pw_make hp
      obtain ⟨a, es, e1, e2⟩ := A1.fo_some hs
      rw [rw_make hp, e2] at q1
      refine ite2 (fun e => absurd e (by decide +kernel)) (fun _ => ?_)
      refine ⟨_, rfl, t, _, _, _, rfl, rfl, SqT.of ht1, rfl, rfl, _, rfl, ite2 (fun e => absurd e (by decide +kernel)) (fun _ => ?_)⟩
      refine ⟨_, rfl, t, _, _, _, rfl, rfl, SqT.of ht1, rfl, rfl, _, rfl, ite2 (fun e => absurd e (by decide +kernel)) (fun _ => ?_)⟩
      refine ⟨_, rfl, t, _, _, _, rfl, rfl, SqT.of ht1, rfl, _, rfl, L, C, dx, _, _, rfl, A1.root, T.cl, T.nFo, rfl, _, rfl, t, _, _, _, rfl, rfl, SqT.of ht1, rfl, df, .ref a, rfl, (by have := A1.tab.getF w'; rw [e1] at this; exact this), a, _, rfl, A1.tab.getE e1 x, _, rfl, ?_⟩
      rw [some_map]
      refine ite2 (fun e => ?_) (fun e => ?_)
      · rw [show (lkp ((some es).getD []) x).isSome = true from e] at q1
        exact q1
      · rw [show (lkp ((some es).getD []) x).isSome = false from Bool.eq_false_iff.mpr e] at q1
        exact q1
    | fold w' x =>
      have hw : wordD (Deed.fold w' x) = "fold" := rfl
      rw [hw]
      have hs := pw_fold hp
      obtain ⟨a, es, e1, e2⟩ := A1.fo_some hs
      rw [rw_fold hp, e2] at q1
      refine ite2 (fun e => absurd e (by decide +kernel)) (fun _ => ?_)
      refine ⟨_, rfl, t, _, _, _, rfl, rfl, SqT.of ht1, rfl, rfl, _, rfl, ite2 (fun e => absurd e (by decide +kernel)) (fun _ => ?_)⟩
      refine ⟨_, rfl, t, _, _, _, rfl, rfl, SqT.of ht1, rfl, rfl, _, rfl, ite2 (fun e => absurd e (by decide +kernel)) (fun _ => ?_)⟩
      refine ⟨_, rfl, t, _, _, _, rfl, rfl, SqT.of ht1, rfl, _, rfl, L, C, dx, _, _, rfl, A1.root, T.cl, T.nFo, rfl, _, rfl, t, _, _, _, rfl, rfl, SqT.of ht1, rfl, df, .ref a, rfl, (by have := A1.tab.getF w'; rw [e1] at this; exact this), a, _, rfl, A1.tab.getE e1 x, _, rfl, ?_⟩
      rw [some_map]
      refine ite2 (fun e => ?_) (fun e => ?_)
      · rw [show (lkp ((some es).getD []) x).isSome = true from e] at q1
        exact q1
      · rw [show (lkp ((some es).getD []) x).isSome = false from Bool.eq_false_iff.mpr e] at q1
        exact q1
theorem sc_newn : FnScope ["shelf"] ["shelf"] (defScope s_newn) := ⟨rfl, rfl, rfl, by decide +kernel, rfl, by decide +kernel, by decide +kernel⟩
theorem ok_newn {f : Addr} {fd : FuncData} (F : Fun K "new_number" "new_number" s_newn f fd) (T : Txt0 mg K w C aN aC aF aG) : FnOk P w K mg base CX0 1 f fd ["shelf"] (spNewn C) := by
  refine F.ok sc_newn (fun vs H Q E h => ?_) (fun cdv A outer s H vs Q E hr h => ?_)
  · obtain ⟨L, dx, df, dg, l, rfl, _⟩ := h
    rfl
  obtain ⟨L, dx, df, dg, l, rfl, hL, q⟩ := h
  refine ⟨_, (pss_cons (ps_fldaug (pv 0) pe_int in_add)
    (pss_one (ps_ret (pe_fld (pv 0) rfl)))), ?_⟩
  refine ⟨_, rfl, L, C, dx, _, _, rfl, hL, T.cl, T.nGr, rfl, _, _, rfl, rfl, dx, _, hL, (by show 3 < 1000; decide), ?_⟩
  rw [putG]
  exact ⟨_, rfl, L, C, dx, _, _, rfl, upd_same, T.cl, T.nGr, rfl, q⟩
theorem sc_mfile : FnScope ["shelf", "folder", "name", "content", "number"] ["shelf", "folder", "name", "content"] (defScope s_mfile) := ⟨rfl, rfl, rfl, by decide +kernel, rfl, by decide +kernel, by decide +kernel⟩
theorem ok_mfile {f : Addr} {fd : FuncData} (F : Fun K "make_file" "make_file" s_mfile f fd) (T : Txt0 mg K w C aN aC aF aG) (CNN : Cal P w K mg base "new_number" ["shelf"] 1 (spNewn C)) : FnOk P w K mg base CX0 2 f fd ["shelf", "folder", "name", "content"] (spMfile C) := by
  refine F.ok sc_mfile (fun vs H Q E h => ?_) (fun cdv A outer s H vs Q E hr h => ?_)
  · obtain ⟨L, dx, df, dg, a, w', x, c, fp, S, fa, ft, es, rfl, _⟩ := h
    rfl
  obtain ⟨L, dx, df, dg, a, w', x, c, fp, S, fa, ft, es, rfl, A0, g, e1, e2, q⟩ := h
  refine ⟨_, (pss_cons (ps_set (i := 4) sc_mfile.nd rfl (Or.inl rfl) (pe_cal CNN hr rfl (pa_cons (pv 0) pa_nil)))
    (pss_cons (ps_dput (hu_of hr) (pe_fld (pv 0) rfl) (pv 4) (pe_tup (pa_cons pe_int (pa_cons (pv 3) pa_nil))) rfl)
    (pss_cons (ps_dput (hu_of hr) (pe_dget (hu_of hr) (pe_fld (pv 0) rfl) (pv 1) (fun _ _ => rfl)) (pv 2) (pv 4) rfl)
    (pss_one (ps_ret (pv 4)))))), ?_⟩
  refine ⟨_, rfl, L, dx, df, dg, S.last, rfl, A0.root, ?_⟩
  have A1 := A0.setRoot (nrP C dx) (S.last + 1)
  have k1 : Kp fp H (upd H L (rtP C dx df dg (S.last + 1))) := (Kp.refl fp H).put A0.memL
  have hs : sizeLine = 16777216 := sizeLine_eq
  have lf := A0.fileLen g
  have le := A0.entLen g e1
  refine ⟨_, rfl, (by show 2 ≤ sizeLine; decide), fun u hu => ?_⟩
  have A2 := A1.same (same_new hu (.tup [.int 0, .str c]))
  have k2 := k1.new (o := .tup [.int 0, .str c]) hu
  refine ⟨_, rfl, L, C, dx, _, _, rfl, A2.root, T.cl, T.nFi, rfl, _, rfl, dg, _, rfl, DPut.k (k := Sum.inl (S.last + 1)) A2.tab.hg (by rw [List.length_map]; omega), ?_⟩
  rw [kv_snoc (fun q : Addr × Int × Str => V.ref q.1) ft (S.last + 1) (u, 0, c) (A0.newG g)]
  have A3 := A2.addFile (c := c) (v := 0) (A0.newG g) upd_same
  have k3 := k2.put (o := .dK ((ft ++ [(S.last + 1, u, 0, c)]).map fun p : Int × Addr × Int × Str => ((Sum.inl p.1 : Key), V.ref p.2.1))) A0.memG
  refine ⟨_, rfl, _, rfl, L, C, dx, _, _, rfl, A3.root, T.cl, T.nFo, rfl, _, rfl, df, .ref a, rfl, (by have := A3.tab.getF w'; rw [e1] at this; exact this), _, rfl, a, _, rfl, DPut.k (k := Sum.inr x) (A3.tab.he _ (lkp_mem e1)) (by rw [List.length_map]; show es.length < _; omega), ?_⟩
  have ep : putK (es.map eKV) (Sum.inr x) (.int (S.last + 1)) = (es ++ [(x, S.last + 1)]).map eKV := by
    rw [putK_new _ (by rw [val_str, e2]; rfl), List.map_append]
    rfl
  rw [show (((w', a, es) : Int × Addr × Ent).2.2) = es from rfl, ep]
  have A4 := A3.addEntry g.kf e1 x (S.last + 1)
  exact ⟨_, rfl, q _ fp ⟨_, _, _, _, A4⟩ ⟨k3.put (A0.memE e1), fun b hb => .inl hb, fun b hb => hb⟩⟩
theorem sc_mfold : FnScope ["shelf", "folder", "name", "number"] ["shelf", "folder", "name"] (defScope s_mfold) := ⟨rfl, rfl, rfl, by decide +kernel, rfl, by decide +kernel, by decide +kernel⟩
theorem ok_mfold {f : Addr} {fd : FuncData} (F : Fun K "make_folder" "make_folder" s_mfold f fd) (T : Txt0 mg K w C aN aC aF aG) (CNN : Cal P w K mg base "new_number" ["shelf"] 1 (spNewn C)) : FnOk P w K mg base CX0 2 f fd ["shelf", "folder", "name"] (spMfold C) := by
  refine F.ok sc_mfold (fun vs H Q E h => ?_) (fun cdv A outer s H vs Q E hr h => ?_)
  · obtain ⟨L, dx, df, dg, a, w', x, fp, S, fa, ft, es, rfl, _⟩ := h
    rfl
  obtain ⟨L, dx, df, dg, a, w', x, fp, S, fa, ft, es, rfl, A0, g, e1, e2, q⟩ := h
  refine ⟨_, (pss_cons (ps_set (i := 3) sc_mfold.nd rfl (Or.inl rfl) (pe_cal CNN hr rfl (pa_cons (pv 0) pa_nil)))
    (pss_cons (ps_dput (hu_of hr) (pe_fld (pv 0) rfl) (pv 3) pe_dnewK rfl)
    (pss_cons (ps_dput (hu_of hr) (pe_dget (hu_of hr) (pe_fld (pv 0) rfl) (pv 1) (fun _ _ => rfl)) (pv 2) (pv 3) rfl)
    (pss_one (ps_ret (pv 3)))))), ?_⟩
  refine ⟨_, rfl, L, dx, df, dg, S.last, rfl, A0.root, ?_⟩
  have A1 := A0.setRoot (nrP C dx) (S.last + 1)
  have k1 : Kp fp H (upd H L (rtP C dx df dg (S.last + 1))) := (Kp.refl fp H).put A0.memL
  have hs : sizeLine = 16777216 := sizeLine_eq
  have lf := A0.foldLen g
  have le := A0.entLen g e1
  refine fun u hu => ?_
  have A2 := A1.same (same_new hu (.dK []))
  have k2 := k1.new (o := .dK []) hu
  have huf : u ∉ fp := fun z => by
    obtain ⟨o, ho, _⟩ := A1.there z
    rw [ho] at hu; cases hu
  refine ⟨_, rfl, L, C, dx, _, _, rfl, A2.root, T.cl, T.nFo, rfl, _, rfl, df, _, rfl, DPut.k (k := Sum.inl (S.last + 1)) A2.tab.hf (by rw [List.length_map]; omega), ?_⟩
  rw [kv_snoc (fun q : Addr × Ent => V.ref q.1) fa (S.last + 1) (u, ([] : Ent)) (A0.newF g)]
  have A3 := A2.addFolder (nrP C dx) (n := S.last + 1) upd_same huf
  have k3 := k2.put (o := .dK ((fa ++ [(S.last + 1, u, ([] : Ent))]).map fun p : Int × Addr × Ent => ((Sum.inl p.1 : Key), V.ref p.2.1))) A0.memF
  have e1' : lkp (fa ++ [(S.last + 1, u, ([] : Ent))]) w' = some (a, es) := by
    rw [lkp_snoc _ _ _ _ (A0.newF g), if_neg (fun z => by rw [z, A0.newF g] at e1; cases e1)]
    exact e1
  have kn : ((S.fo ++ [(S.last + 1, ([] : Ent))]).map (·.1)).Nodup := by
    have := A0.newF g
    rw [List.map_append, List.nodup_append]
    refine ⟨g.kf, by simp, fun b hb c' hc z => ?_⟩
    simp at hc
    subst hc
    subst z
    rw [A0.sfo, fo_keys] at hb
    exact lkp_none.mp this hb
  refine ⟨_, rfl, _, rfl, L, C, dx, _, _, rfl, A3.root, T.cl, T.nFo, rfl, _, rfl, df, .ref a, rfl, (by have := A3.tab.getF w'; rw [e1'] at this; exact this), _, rfl, a, _, rfl, DPut.k (k := Sum.inr x) (A3.tab.he _ (lkp_mem e1')) (by rw [List.length_map]; show es.length < _; omega), ?_⟩
  have ep : putK (es.map eKV) (Sum.inr x) (.int (S.last + 1)) = (es ++ [(x, S.last + 1)]).map eKV := by
    rw [putK_new _ (by rw [val_str, e2]; rfl), List.map_append]
    rfl
  rw [show (((w', a, es) : Int × Addr × Ent).2.2) = es from rfl, ep]
  have A4 := A3.addEntry kn e1' x (S.last + 1)
  refine ⟨_, rfl, q _ (fp ++ [u]) ⟨_, _, _, _, A4⟩ ⟨k3.put (A0.memE e1), fun b hb => ?_, fun b hb => List.mem_append_left _ hb⟩⟩
  rcases List.mem_append.mp hb with hb | hb
  · exact .inl hb
  · rw [List.mem_singleton.mp hb]
    by_cases z : u ∈ fp
    · exact .inl z
    · exact .inr (k1.free z hu)
theorem sc_putc : FnScope ["shelf", "number", "content", "version"] ["shelf", "number", "content"] (defScope s_putc) := ⟨rfl, rfl, rfl, by decide +kernel, rfl, by decide +kernel, by decide +kernel⟩
theorem ok_putc {f : Addr} {fd : FuncData} (F : Fun K "put_content" "put_content" s_putc f fd) (T : Txt0 mg K w C aN aC aF aG) : FnOk P w K mg base CX0 1 f fd ["shelf", "number", "content"] (spPutc C) := by
  refine F.ok sc_putc (fun vs H Q E h => ?_) (fun cdv A outer s H vs Q E hr h => ?_)
  · obtain ⟨L, dx, df, dg, a, n, v, c, c', fp, S, fa, ft, rfl, _⟩ := h
    rfl
  obtain ⟨L, dx, df, dg, a, n, v, c, c', fp, S, fa, ft, rfl, A0, g, e1, q⟩ := h
  refine ⟨_, (pss_cons (ps_set (i := 3) sc_putc.nd rfl (Or.inl rfl) (pe_op op_add (pe_ix ix_tup (pe_dget (hu_of hr) (pe_fld (pv 0) rfl) (pv 1) (fun _ _ => rfl)) pe_int (fun _ _ => rfl)) pe_int))
    (pss_cons (ps_dput (hu_of hr) (pe_fld (pv 0) rfl) (pv 1) (pe_tup (pa_cons (pv 3) (pa_cons (pv 2) pa_nil))) rfl)
    (pss_one (ps_ret (pv 3))))), ?_⟩
  have lf := A0.fileLen g
  have hs : sizeLine = 16777216 := sizeLine_eq
  refine ⟨_, rfl, L, C, dx, _, _, rfl, A0.root, T.cl, T.nFi, rfl, _, rfl, dg, .ref a, rfl, (by have := A0.tab.getG n; rw [e1] at this; exact this), a, _, _, _, rfl, rfl, SqT.of (A0.tab.ht _ (lkp_mem e1)), rfl, _, _, rfl, rfl, ?_⟩
  refine ⟨_, rfl, _, rfl, (by show 2 ≤ sizeLine; decide), fun u hu => ?_⟩
  have A2 := A0.same (same_new hu (.tup [.int (v + 1), .str c']))
  refine ⟨_, rfl, L, C, dx, _, _, rfl, A2.root, T.cl, T.nFi, rfl, _, rfl, dg, _, rfl, DPut.k (k := Sum.inl n) A2.tab.hg (by rw [List.length_map]; omega), ?_⟩
  have ep := kv_put (fun q : Addr × Int × Str => V.ref q.1) ft n (u, v + 1, c') (by rw [e1]; rfl)
  rw [show putK (ft.map fun p => ((Sum.inl p.1 : Key), V.ref p.2.1)) (Sum.inl n) (.ref u) = _ from ep]
  have A3 := A2.putFile (n := n) (v := v + 1) (c := c') upd_same
  exact ⟨_, rfl, q _ fp ⟨_, _, _, _, A3⟩ ⟨((Kp.refl fp H).new hu).put A0.memG, fun b hb => .inl hb, fun b hb => hb⟩⟩
end
end K32
set_option Elab.async false
set_option linter.all false
set_option maxRecDepth 100000
set_option maxHeartbeats 4000000
namespace K32
open PySem L2
inductive Lone where
  | make (w : Int) (a c : Str)
  | shut (n v : Int) (c : Str)
noncomputable def lV : Lone → List V
  | .make w a c => [.str "make", .int w, .str a, .str c]
  | .shut n v c => [.str "shut", .int n, .int v, .str c]
noncomputable def Lone.c : Lone → Str
  | .make _ _ c => c
  | .shut _ _ c => c
noncomputable def lLen : Lone → Prop
  | .make _ a c => a.length ≤ 1000 ∧ c.length ≤ 1000
  | .shut _ _ c => c.length ≤ 1000
noncomputable def rV (rs : List Int) : List (Key × V) := rs.map fun n => (Sum.inl n, .bl true)
noncomputable def firstA (S : Sh) (rs : List Int) : Lone → Sh × Ans
  | .make w a c => doP S (.make w a c)
  | .shut n v c => if n ∈ rs then (S, .no "stale") else doP S (.put n v c)
noncomputable def clashN (S : Sh) : Str := cnameS (S.last + 1) (free ((lkp S.fo 1).getD []) (S.last + 1))
noncomputable def clashA (S : Sh) (c w : Str) : Sh × Ans := (S.file 1 (clashN S) c, .clash (S.last + 1) w)
structure Jn where
  s : Sh
  rs : List Int
  as : List Ans
noncomputable def stepRs (rs : List Int) : Lone → List Int
  | .make _ _ _ => rs
  | .shut n _ _ => if n ∈ rs then rs else rs ++ [n]
noncomputable def stepA (c : Str) (rs' rs : List Int) (as : List Ans) : Sh × Ans → Jn
  | (S, .no w) => ⟨(clashA S c w).1, rs', as ++ [(clashA S c w).2]⟩
  | (S, x) => ⟨S, rs, as ++ [x]⟩
noncomputable def stepJ (j : Jn) (l : Lone) : Jn := stepA l.c (stepRs j.rs l) j.rs j.as (firstA j.s j.rs l)
noncomputable def joinS (S : Sh) (ls : List Lone) : Jn := ls.foldl stepJ ⟨S, [], []⟩
theorem val_rV (rs : List Int) (n : Int) : (valV (rV rs) (Sum.inl n)).isSome = decide (n ∈ rs) := by
  unfold rV
  induction rs with
  | nil => rfl
  | cons a r ih =>
    rw [List.map_cons]
    by_cases e : a = n
    · rw [valV_pos (by rw [e])]
      simp [e]
    · rw [valV_neg (fun z => e (Sum.inl.inj z)), ih]
      simp [Ne.symm e]
theorem put_rV (rs : List Int) (n : Int) : putK (rV rs) (Sum.inl n) (.bl true) = rV (if n ∈ rs then rs else rs ++ [n]) := by
  by_cases h : n ∈ rs
  · rw [if_pos h]
    unfold putK
    rw [valV_any, val_rV, decide_eq_true h, if_pos rfl]
    unfold rV
    rw [List.map_map]
    apply List.map_congr_left
    intro a _
    show (if (Sum.inl a : Key) = Sum.inl n then ((Sum.inl a : Key), V.bl true) else (Sum.inl a, V.bl true)) = _
    split <;> rfl
  · rw [if_neg h, putK_new]
    · unfold rV; rw [List.map_append]; rfl
    · have := val_rV rs n
      rw [decide_eq_false h] at this
      cases e : valV (rV rs) (Sum.inl n) with
      | none => rfl
      | some a => rw [e] at this; cases this
theorem doP_last (S : Sh) (d : Deed) : S.last ≤ (doP S d).1.last ∧ (doP S d).1.last ≤ S.last + 1 := by
  unfold doP
  split
  · exact ⟨Int.le_refl _, by show S.last ≤ S.last + 1; omega⟩
  · cases d with
    | make w a c => exact ⟨by show S.last ≤ S.last + 1; omega, Int.le_refl _⟩
    | fold w a => exact ⟨by show S.last ≤ S.last + 1; omega, Int.le_refl _⟩
    | put n v c => exact ⟨Int.le_refl _, by show S.last ≤ S.last + 1; omega⟩
theorem doP_good {S : Sh} (g : Good S) (d : Deed) (ht : S.last < 62) : Good (doP S d).1 := by
  unfold doP
  split
  · exact g
  · cases d with
    | make w a c => exact g.file w a c ht
    | fold w a => exact g.fold w a ht
    | put n v c => exact g.put _ _ _
theorem doP_no {S S' : Sh} {d : Deed} {w : Str} (h : doP S d = (S', .no w)) : S' = S := by
  unfold doP at h
  split at h
  · cases h; rfl
  · cases d <;> cases h
theorem firstA_no {S S' : Sh} {rs : List Int} {l : Lone} {w : Str} (h : firstA S rs l = (S', .no w)) : S' = S := by
  cases l with
  | make a b c => exact doP_no h
  | shut n v c =>
    unfold firstA at h
    dsimp only at h
    split at h
    · cases h; rfl
    · exact doP_no h
theorem firstA_good {S : Sh} (g : Good S) (rs : List Int) (l : Lone) (ht : S.last < 62) : Good (firstA S rs l).1 ∧ S.last ≤ (firstA S rs l).1.last ∧ (firstA S rs l).1.last ≤ S.last + 1 := by
  cases l with
  | make a b c => exact ⟨doP_good g _ ht, doP_last S _⟩
  | shut n v c =>
    unfold firstA
    dsimp only
    split
    · exact ⟨g, Int.le_refl _, by show S.last ≤ S.last + 1; omega⟩
    · exact ⟨doP_good g _ ht, doP_last S _⟩
theorem stepJ_good {j : Jn} (g : Good j.s) (l : Lone) (ht : j.s.last < 62) : Good (stepJ j l).s ∧ j.s.last ≤ (stepJ j l).s.last ∧ (stepJ j l).s.last ≤ j.s.last + 1 := by
  have h := firstA_good g j.rs l ht
  unfold stepJ
  cases e : firstA j.s j.rs l with
  | mk S x =>
    rw [e] at h
    cases x with
    | no w =>
      have := firstA_no e
      subst this
      exact ⟨g.file _ _ _ ht, by show j.s.last ≤ j.s.last + 1; omega, Int.le_refl _⟩
    | made n => exact h
    | put v => exact h
    | clash n w => exact h
noncomputable def spFirst (C : Addr) : Sp := fun vs H Q _ => ∃ (L dx t r : Addr) (fp : List Addr) (S : Sh) (l : Lone) (rs : List Int), vs = [.ref L, .ref t, .ref r] ∧ ShE (rtP C dx) H L fp S ∧ Good S ∧ H t = some (.tup (lV l)) ∧ lLen l ∧ H r = some (.dK (rV rs)) ∧
  ∀ u H' fp', ShE (rtP C dx) H' L fp' (firstA S rs l).1 → Aft H fp H' fp' → H u = none → H' u = some (.tup (firstA S rs l).2.v) → Q (.ref u) H'
noncomputable def spClash (C : Addr) : Sp := fun vs H Q _ => ∃ (L dx : Addr) (fp : List Addr) (S : Sh) (c w : Str), vs = [.ref L, .str c, .str w] ∧ ShE (rtP C dx) H L fp S ∧ Good S ∧
  ∀ u H' fp', ShE (rtP C dx) H' L fp' (clashA S c w).1 → Aft H fp H' fp' → H u = none → H' u = some (.tup (clashA S c w).2.v) → Q (.ref u) H'
noncomputable def AnsAt (H : Hp) (ps : List Addr) (xs : List Ans) : Prop := Paired (fun a (x : Ans) => H a = some (.tup x.v)) ps xs
noncomputable def LonAt (H : Hp) (ts : List Addr) (ls : List Lone) : Prop := Paired (fun t l => H t = some (.tup (lV l)) ∧ lLen l) ts ls
theorem paired_snoc {α β : Type} {R : α → β → Prop} : ∀ {xs : List α} {ys : List β} {a : α} {b : β}, Paired R xs ys → R a b → Paired R (xs ++ [a]) (ys ++ [b])
  | _, _, _, _, .nil, r => .cons r .nil
  | _, _, _, _, .cons r t, q => .cons r (paired_snoc t q)
theorem paired_at {α β : Type} {R : α → β → Prop} : ∀ {xs : List α} {ys : List β} {j : Nat} {a : α}, Paired R xs ys → xs[j]? = some a → ∃ b, ys[j]? = some b ∧ R a b
  | _, _, _, _, .nil, e => by simp at e
  | _, _, 0, _, .cons r _, e => by simp at e; subst e; exact ⟨_, rfl, r⟩
  | _, _, j + 1, _, .cons _ t, e => by
    obtain ⟨b, h1, h2⟩ := paired_at (j := j) t (by simpa using e)
    exact ⟨b, by simpa using h1, h2⟩
theorem paired_len {α β : Type} {R : α → β → Prop} : ∀ {xs : List α} {ys : List β}, Paired R xs ys → xs.length = ys.length
  | _, _, .nil => rfl
  | _, _, .cons _ t => by simp [paired_len t]
noncomputable def spJoined (K : PySem.W.Frag) (C : Addr) : Sp := fun vs H Q _ => ∃ (L dx ds : Addr) (fp : List Addr) (S : Sh) (ts : List Addr) (ls : List Lone), vs = [.ref L, .ref ds] ∧ ShE (rtP C dx) H L fp S ∧ Good S ∧ S.last + ls.length ≤ 62 ∧ H ds = some (.tup (ts.map V.ref)) ∧ LonAt H ts ls ∧
  ∀ u p H' fp' ps, ShE (rtP C dx) H' L fp' (joinS S ls).s → Aft H fp H' fp' → H u = none → H p = none → H' u = some (.tup [.str "joined", .ref p]) → H' p = some (.lst (ps.map V.ref)) → AnsAt H' ps (joinS S ls).as → Q (.ref u) H'
section
variable {P : Program} {w : World} {K : PySem.W.Frag} {mg : Str → Option Value} {base : Heap} {C aN aC aF aG : Addr}
theorem sc_done : FnScope ["shelf", "deed", "word"] ["shelf", "deed"] (defScope s_done) := ⟨rfl, rfl, rfl, by decide +kernel, rfl, by decide +kernel, by decide +kernel⟩
theorem ok_done {f : Addr} {fd : FuncData} (F : Fun K "done" "done" s_done f fd) (T : Txt0 mg K w C aN aC aF aG) (CRF : Cal P w K mg base "refusal" ["shelf", "deed"] 4 (spRefusal K C)) (CMF : Cal P w K mg base "make_file" ["shelf", "folder", "name", "content"] 2 (spMfile C)) (CMD : Cal P w K mg base "make_folder" ["shelf", "folder", "name"] 2 (spMfold C)) (CPC : Cal P w K mg base "put_content" ["shelf", "number", "content"] 1 (spPutc C)) : FnOk P w K mg base CX0 5 f fd ["shelf", "deed"] (spDone C) := by
  refine F.ok sc_done (fun vs H Q E h => ?_) (fun cdv A outer s H vs Q E hr h => ?_)
  · obtain ⟨L, dx, t, fp, S, d, rfl, _⟩ := h
    rfl
  obtain ⟨L, dx, t, fp, S, d, rfl, A0, g, ht, hd, q⟩ := h
  refine ⟨_, (pss_cons (ps_set (i := 2) sc_done.nd rfl (Or.inl rfl) (pe_cal CRF hr rfl (pa_cons (pv 0) (pa_cons (pv 1) pa_nil))))
    (pss_cons (ps_if (pt_cmpR op_notN (pv 2) pe_non (nomark _))
      (pss_one (ps_ret (pe_tup (pa_cons pe_str (pa_cons (pv 2) pa_nil))))) pss_nil)
    (pss_cons (ps_if (pt_cmpR op_eq (pe_ix ix_tup (pv 1) pe_int (fun _ _ => rfl)) pe_str (nomark _))
      (pss_one (ps_ret (pe_tup (pa_cons pe_str (pa_cons (pe_cal CMF hr rfl (pa_cons (pv 0) (pa_cons (pe_ix ix_tup (pv 1) pe_int (fun _ _ => rfl)) (pa_cons (pe_ix ix_tup (pv 1) pe_int (fun _ _ => rfl)) (pa_cons (pe_ix ix_tup (pv 1) pe_int (fun _ _ => rfl)) pa_nil))))) pa_nil))))) pss_nil)
    (pss_cons (ps_if (pt_cmpR op_eq (pe_ix ix_tup (pv 1) pe_int (fun _ _ => rfl)) pe_str (nomark _))
      (pss_one (ps_ret (pe_tup (pa_cons pe_str (pa_cons (pe_cal CMD hr rfl (pa_cons (pv 0) (pa_cons (pe_ix ix_tup (pv 1) pe_int (fun _ _ => rfl)) (pa_cons (pe_ix ix_tup (pv 1) pe_int (fun _ _ => rfl)) pa_nil)))) pa_nil))))) pss_nil)
    (pss_cons (ps_if (pt_cmpR op_eq (pe_ix ix_tup (pv 1) pe_int (fun _ _ => rfl)) pe_str (nomark _))
      (pss_one (ps_ret (pe_tup (pa_cons pe_str (pa_cons (pe_cal CPC hr rfl (pa_cons (pv 0) (pa_cons (pe_ix ix_tup (pv 1) pe_int (fun _ _ => rfl)) (pa_cons (pe_ix ix_tup (pv 1) pe_int (fun _ _ => rfl)) pa_nil)))) pa_nil))))) pss_nil)
    pss_never))))), ?_⟩
  obtain ⟨df, dg, fa, ft, A0⟩ := A0
  refine ⟨_, rfl, _, rfl, L, dx, df, dg, t, fp, S, fa, ft, d, rfl, A0, ht, hd, fun H1 s1 => ?_⟩
  have A1 := A0.same s1
  have ht1 := s1 _ _ ht
  have aft1 : Aft H fp H1 fp := (Aft.refl H fp).same s1
  refine ⟨_, rfl, rfl, _, rfl, ?_⟩
  cases hp : refW S d with
  | some x =>
    have e : doP S d = (S, .no x) := by unfold doP; rw [hp]
    rw [e] at q
    refine iteT ?_
    refine ⟨_, rfl, (by show 2 ≤ sizeLine; decide), fun u hu => ?_⟩
    exact q u _ fp ⟨_, _, _, _, A1.same (same_new hu _)⟩ (aft1.same (same_new hu _)) (Same.free s1 hu) upd_same
  | none =>
    refine iteF ?_
    have hpp : partsW S d = none := by
      cases e : partsW S d with
      | none => rfl
      | some x => rw [rw_some e] at hp; cases hp
    refine ⟨_, rfl, t, _, _, _, rfl, rfl, SqT.of ht1, d_at0 d, rfl, _, rfl, ?_⟩
    cases d with
    | make w' x c =>
      have e : doP S (.make w' x c) = (S.file w' x c, .made (S.last + 1)) := by unfold doP; rw [hp]
      rw [e] at q
      obtain ⟨a, es, e1, e2⟩ := A1.fo_some (pw_make hpp)
      have e3 : lkp es x = none := by
        rw [rw_make hpp, e2] at hp
        cases z : lkp es x with
        | none => rfl
        | some y => rw [show ((some es).getD []) = es from rfl, z] at hp; cases hp
      refine ite2 (fun _ => ?_) (fun e => absurd rfl e)
      refine ⟨_, rfl, _, rfl, t, _, _, _, rfl, rfl, SqT.of ht1, rfl, _, rfl, t, _, _, _, rfl, rfl, SqT.of ht1, rfl, _, rfl, t, _, _, _, rfl, rfl, SqT.of ht1, rfl, L, dx, df, dg, a, w', x, c, fp, S, fa, ft, es, rfl, A1, g, e1, e3, fun H2 fp2 A2 af2 => ?_⟩
      have af := aft1.trans af2
      exact ⟨(by show 2 ≤ sizeLine; decide), fun u hu => q u _ fp2 (A2.same (same_new hu _)) (af.same (same_new hu _)) (af.fresh A2 hu) upd_same⟩
    | fold w' x =>
      have e : doP S (.fold w' x) = (S.fold w' x, .made (S.last + 1)) := by unfold doP; rw [hp]
      rw [e] at q
      obtain ⟨a, es, e1, e2⟩ := A1.fo_some (pw_fold hpp)
      have e3 : lkp es x = none := by
        rw [rw_fold hpp, e2] at hp
        cases z : lkp es x with
        | none => rfl
        | some y => rw [show ((some es).getD []) = es from rfl, z] at hp; cases hp
      have hw : wordD (Deed.fold w' x) = "fold" := rfl
      rw [hw]
      refine ite2 (fun e => absurd e (by decide +kernel)) (fun _ => ?_)
      refine ⟨_, rfl, t, _, _, _, rfl, rfl, SqT.of ht1, rfl, rfl, _, rfl, ite2 (fun _ => ?_) (fun e => absurd rfl e)⟩
      refine ⟨_, rfl, _, rfl, t, _, _, _, rfl, rfl, SqT.of ht1, rfl, _, rfl, t, _, _, _, rfl, rfl, SqT.of ht1, rfl, L, dx, df, dg, a, w', x, fp, S, fa, ft, es, rfl, A1, g, e1, e3, fun H2 fp2 A2 af2 => ?_⟩
      have af := aft1.trans af2
      exact ⟨(by show 2 ≤ sizeLine; decide), fun u hu => q u _ fp2 (A2.same (same_new hu _)) (af.same (same_new hu _)) (af.fresh A2 hu) upd_same⟩
    | put n v c =>
      obtain ⟨a, v', c', e1, e2⟩ := A1.fi_some (pw_put hpp)
      have e : doP S (.put n v c) = (S.put n (v' + 1) c, .put (v' + 1)) := by unfold doP; rw [hp]; dsimp only; rw [e2]; rfl
      rw [e] at q
      have hw : wordD (Deed.put n v c) = "put" := rfl
      rw [hw]
      refine ite2 (fun e => absurd e (by decide +kernel)) (fun _ => ?_)
      refine ⟨_, rfl, t, _, _, _, rfl, rfl, SqT.of ht1, rfl, rfl, _, rfl, ite2 (fun e => absurd e (by decide +kernel)) (fun _ => ?_)⟩
      refine ⟨_, rfl, t, _, _, _, rfl, rfl, SqT.of ht1, rfl, rfl, _, rfl, ite2 (fun _ => ?_) (fun e => absurd rfl e)⟩
      refine ⟨_, rfl, _, rfl, t, _, _, _, rfl, rfl, SqT.of ht1, rfl, _, rfl, t, _, _, _, rfl, rfl, SqT.of ht1, rfl, L, dx, df, dg, a, n, v', c', c, fp, S, fa, ft, rfl, A1, g, e1, fun H2 fp2 A2 af2 => ?_⟩
      have af := aft1.trans af2
      exact ⟨(by show 2 ≤ sizeLine; decide), fun u hu => q u _ fp2 (A2.same (same_new hu _)) (af.same (same_new hu _)) (af.fresh A2 hu) upd_same⟩
theorem sc_first : FnScope ["shelf", "deed", "refused"] ["shelf", "deed", "refused"] (defScope s_first) := ⟨rfl, rfl, rfl, by decide +kernel, rfl, by decide +kernel, by decide +kernel⟩
theorem ok_first {f : Addr} {fd : FuncData} (F : Fun K "first_answer" "first_answer" s_first f fd) (T : Txt0 mg K w C aN aC aF aG) (CDO : Cal P w K mg base "done" ["shelf", "deed"] 5 (spDone C)) : FnOk P w K mg base CX0 6 f fd ["shelf", "deed", "refused"] (spFirst C) := by
  refine F.ok sc_first (fun vs H Q E h => ?_) (fun cdv A outer s H vs Q E hr h => ?_)
  · obtain ⟨L, dx, t, r, fp, S, l, rs, rfl, _⟩ := h
    rfl
  obtain ⟨L, dx, t, r, fp, S, l, rs, rfl, A0, g, ht, hl, hr0, q⟩ := h
  refine ⟨_, (pss_cons (ps_if (pt_cmpR op_eq (pe_ix ix_tup (pv 1) pe_int (fun _ _ => rfl)) pe_str (nomark _))
      (pss_one (ps_ret (pe_cal CDO hr rfl (pa_cons (pv 0) (pa_cons (pv 1) pa_nil))))) pss_nil)
    (pss_cons (ps_if (pt_cmp (pc_din (hu_of hr) (pe_ix ix_tup (pv 1) pe_int (fun _ _ => rfl)) (pv 2)) rfl)
      (pss_one (ps_ret (pe_tup (pa_cons pe_str (pa_cons pe_str pa_nil))))) pss_nil)
    (pss_one (ps_ret (pe_cal CDO hr rfl (pa_cons (pv 0) (pa_cons (pe_tup (pa_cons pe_str (pa_cons (pe_ix ix_tup (pv 1) pe_int (fun _ _ => rfl)) (pa_cons (pe_ix ix_tup (pv 1) pe_int (fun _ _ => rfl)) (pa_cons (pe_ix ix_tup (pv 1) pe_int (fun _ _ => rfl)) pa_nil))))) pa_nil))))))), ?_⟩
  cases l with
  | make w' a c =>
    refine ⟨_, rfl, t, _, _, _, rfl, rfl, SqT.of ht, rfl, rfl, _, rfl, ite2 (fun _ => ?_) (fun e => absurd rfl e)⟩
    exact ⟨_, rfl, _, rfl, L, dx, t, fp, S, .make w' a c, rfl, A0, g, ht, hl, q⟩
  | shut n v c =>
    refine ⟨_, rfl, t, _, _, _, rfl, rfl, SqT.of ht, rfl, rfl, _, rfl, ite2 (fun e => absurd e (by decide +kernel)) (fun _ => ?_)⟩
    refine ⟨_, rfl, t, _, _, _, rfl, rfl, SqT.of ht, rfl, _, rfl, r, _, rfl, DGet.k (k := Sum.inl n) hr0, _, rfl, ?_⟩
    rw [val_rV]
    refine ite2 (fun e => ?_) (fun e => ?_)
    · have e' : firstA S rs (.shut n v c) = (S, .no "stale") := if_pos (of_decide_eq_true e)
      rw [e'] at q
      exact ⟨(by show 2 ≤ sizeLine; decide), fun u hu => q u _ fp (A0.same (same_new hu _)) ((Aft.refl H fp).same (same_new hu _)) hu upd_same⟩
    · have e' : firstA S rs (.shut n v c) = doP S (.put n v c) := if_neg (of_decide_eq_false (Bool.eq_false_iff.mpr e))
      rw [e'] at q
      refine ⟨_, rfl, _, rfl, t, _, _, _, rfl, rfl, SqT.of ht, rfl, _, rfl, t, _, _, _, rfl, rfl, SqT.of ht, rfl, _, rfl, t, _, _, _, rfl, rfl, SqT.of ht, rfl, (by show 4 ≤ sizeLine; decide), fun x hx => ?_⟩
      refine ⟨L, dx, x, fp, S, .put n v c, rfl, A0.same (same_new hx _), g, upd_same, hl, fun u H' fp' A' af hu hu' => ?_⟩
      exact q u H' fp' A' (((Aft.refl H fp).same (same_new hx _)).trans af) (Same.free (same_new hx _) hu) hu'
theorem sc_clash : FnScope ["shelf", "content", "word", "name"] ["shelf", "content", "word"] (defScope s_clash) := ⟨rfl, rfl, rfl, by decide +kernel, rfl, by decide +kernel, by decide +kernel⟩
theorem ok_clash {f : Addr} {fd : FuncData} (F : Fun K "clash" "clash" s_clash f fd) (T : Txt0 mg K w C aN aC aF aG) (CCN : Cal P w K mg base "clash_name" ["entries", "number"] 2 spCname) (CMF : Cal P w K mg base "make_file" ["shelf", "folder", "name", "content"] 2 (spMfile C)) : FnOk P w K mg base CX0 3 f fd ["shelf", "content", "word"] (spClash C) := by
  refine F.ok sc_clash (fun vs H Q E h => ?_) (fun cdv A outer s H vs Q E hr h => ?_)
  · obtain ⟨L, dx, fp, S, c, w', rfl, _⟩ := h
    rfl
  obtain ⟨L, dx, fp, S, c, w', rfl, A0, g, q⟩ := h
  refine ⟨_, (pss_cons (ps_set (i := 3) sc_clash.nd rfl (Or.inl rfl) (pe_cal CCN hr rfl (pa_cons (pe_dget (hu_of hr) (pe_fld (pv 0) rfl) (pe_gv rfl T.cl1) (fun _ _ => rfl)) (pa_cons (pe_op op_add (pe_fld (pv 0) rfl) pe_int) pa_nil))))
    (pss_one (ps_ret (pe_tup (pa_cons pe_str (pa_cons (pe_cal CMF hr rfl (pa_cons (pv 0) (pa_cons (pe_gv rfl T.cl1) (pa_cons (pv 3) (pa_cons (pv 1) pa_nil))))) (pa_cons (pv 2) pa_nil))))))), ?_⟩
  obtain ⟨df, dg, fa, ft, A0⟩ := A0
  obtain ⟨a, es, e1, e2⟩ := A0.fo_some g.one
  have le := A0.entLen g e1
  have lo := g.low
  have tp := g.top
  refine ⟨_, rfl, L, C, dx, _, _, rfl, A0.root, T.cl, T.nFo, rfl, df, .ref a, rfl, (by have := A0.tab.getF 1; rw [e1] at this; exact this), _, rfl, L, C, dx, _, _, rfl, A0.root, T.cl, T.nGr, rfl, _, _, rfl, rfl, a, es, S.last + 1, rfl, A0.tab.he _ (lkp_mem e1), by omega, by omega, by omega, ?_⟩
  have hn : clashN S = cnameS (S.last + 1) (free es (S.last + 1)) := by unfold clashN; rw [e2]; rfl
  have hf := (free_spec (es := es) (n := S.last + 1) (by omega)).2.1
  rw [← hn] at hf
  rw [← hn]
  refine ⟨_, rfl, _, rfl, _, rfl, L, dx, df, dg, a, 1, clashN S, c, fp, S, fa, ft, es, rfl, A0, g, e1, hf, fun H2 fp2 A2 af => ?_⟩
  exact ⟨_, rfl, (by show 3 ≤ sizeLine; decide), fun u hu => q u _ fp2 (A2.same (same_new hu _)) (af.same (same_new hu _)) (af.fresh A2 hu) upd_same⟩
theorem sc_joined : FnScope ["shelf", "deeds", "told", "refused", "deed", "answer"] ["shelf", "deeds"] (defScope s_joined) := ⟨rfl, rfl, rfl, by decide +kernel, rfl, by decide +kernel, by decide +kernel⟩
theorem ok_joined {f : Addr} {fd : FuncData} (F : Fun K "joined" "joined" s_joined f fd) (T : Txt0 mg K w C aN aC aF aG) (CFA : Cal P w K mg base "first_answer" ["shelf", "deed", "refused"] 6 (spFirst C)) (CCL : Cal P w K mg base "clash" ["shelf", "content", "word"] 3 (spClash C)) : FnOk P w K mg base CX0 7 f fd ["shelf", "deeds"] (spJoined K C) := by
  refine F.ok sc_joined (fun vs H Q E h => ?_) (fun cdv A outer s H vs Q E hr h => ?_)
  · obtain ⟨L, dx, ds, fp, S, ts, ls, rfl, _⟩ := h
    rfl
  obtain ⟨L, dx, ds, fp, S, ts, ls, rfl, A0, g, h62, hds, hl, q⟩ := h
  refine ⟨_, (pss_cons (ps_set (i := 2) sc_joined.nd rfl (Or.inl rfl) (pe_lst pa_nil))
    (pss_cons (ps_set (i := 3) sc_joined.nd rfl (Or.inl rfl) pe_dnewK)
    (pss_cons (ps_for PassesOwn.never rfl (pi_tup (pv 1)) (pg_name (i := 4) sc_joined.nd rfl (Or.inl rfl))
      (pss_cons (ps_set (i := 5) sc_joined.nd rfl (Or.inl rfl) (pe_cal CFA hr rfl (pa_cons (pv 0) (pa_cons (pv 4) (pa_cons (pv 3) pa_nil)))))
    (pss_cons (ps_if (pt_cmpR op_eq (pe_ix ix_tup (pv 5) pe_int (fun _ _ => rfl)) pe_str (nomark _))
      (pss_cons (ps_if (pt_cmpR op_eq (pe_ix ix_tup (pv 4) pe_int (fun _ _ => rfl)) pe_str (nomark _))
      (pss_one (ps_dput (hu_of hr) (pv 3) (pe_ix ix_tup (pv 4) pe_int (fun _ _ => rfl)) pe_bl rfl)) pss_nil)
    (pss_one (ps_set (i := 5) sc_joined.nd rfl (Or.inl rfl) (pe_cal CCL hr rfl (pa_cons (pv 0) (pa_cons (pe_ix ix_tup (pv 4) pe_int (fun _ _ => rfl)) (pa_cons (pe_ix ix_tup (pv 5) pe_int (fun _ _ => rfl)) pa_nil))))))) pss_nil)
    (pss_one (ps_expr (pe_bm PySem.F.plainAttrs_list PySem.F.slot_list_append PySem.F.type_list_append mt_append (pv 2) (pa_cons (pv 5) pa_nil)))))))
    (pss_one (ps_ret (pe_tup (pa_cons pe_str (pa_cons (pv 2) pa_nil)))))))), ?_⟩
  have hs : sizeLine = 16777216 := sizeLine_eq
  have hlen := paired_len hl
  have lo := g.low
  refine ⟨(by show 0 ≤ sizeLine; omega), fun p hp => ?_⟩
  refine fun r hr0 => ?_
  have s1 := same_new hp (.lst [])
  have s2 := same_new hr0 (.dK [])
  have hds1 := s2 _ _ (s1 _ _ hds)
  have rp : r ≠ p := fun e => by rw [e, upd_same] at hr0; cases hr0
  have J : ∀ i l, ls[i]? = some l → joinS S (ls.take (i + 1)) = stepJ (joinS S (ls.take i)) l := fun i l e => by
    unfold joinS
    rw [List.take_add_one, e, List.foldl_append]
    rfl
  refine ⟨_, rfl, ds, rfl, ⟨_, SqT.of hds1⟩, for_tup (K := K) (a := ds) (xs := ts.map V.ref) (fun i σ Hx => ∃ (fpx : List Addr) (ps : List Addr) (v4 v5 : Option V), σ = [some (.ref L), some (.ref ds), some (.ref p), some (.ref r), v4, v5] ∧ ShE (rtP C dx) Hx L fpx (joinS S (ls.take i)).s ∧ Aft H fp Hx fpx ∧ Hx p = some (.lst (ps.map V.ref)) ∧ AnsAt Hx ps (joinS S (ls.take i)).as ∧ Hx r = some (.dK (rV (joinS S (ls.take i)).rs)) ∧ r ∉ fpx ∧ Good (joinS S (ls.take i)).s ∧ (joinS S (ls.take i)).s.last ≤ S.last + i ∧ ps.length ≤ i ∧ (joinS S (ls.take i)).rs.length ≤ i) ?_ ?_ ?_ ?_⟩
  · refine ⟨fp, [], none, none, rfl, A0.same (s1.trans s2), (Aft.refl H fp).same (s1.trans s2), ?_, .nil, upd_same, fun z => ?_, g, by show S.last ≤ S.last + 0; omega, Nat.le_refl _, Nat.le_refl _⟩
    · rw [upd_ne (Ne.symm rp)]; exact upd_same
    · obtain ⟨_, _, _, _, A0⟩ := A0
      obtain ⟨o, ho, _⟩ := A0.there z
      rw [s1 _ _ ho] at hr0; cases hr0
  · rintro i σ Hx hi ⟨fpx, ps, v4, v5, rfl, Ax, af, _⟩
    exact SqT.of (still_keep (nrP C dx) A0 af.kp hds rfl)
  · rintro i x σ Hx hx ⟨fpx, ps, v4, v5, rfl, Ax, af, hpx, ans, hrx, nr, gx, lx, n1, n2⟩
    rw [List.getElem?_map] at hx
    cases et : ts[i]? with
    | none => rw [et] at hx; cases hx
    | some t =>
      rw [et] at hx
      cases hx
      obtain ⟨l, el, ht, hlL⟩ := paired_at hl et
      have hti : i < ls.length := by
        rcases Nat.lt_or_ge i ls.length with z | z
        · exact z
        · rw [List.getElem?_eq_none z] at el; cases el
      have htx : Hx t = some (.tup (lV l)) := still_keep (nrP C dx) A0 af.kp ht rfl
      have gs := stepJ_good gx l (by omega)
      have hll : ((joinS S (ls.take i)).s.last : Int) < 62 := by omega
      refine ⟨_, rfl, _, rfl, _, rfl, L, dx, t, r, fpx, _, l, _, rfl, Ax, gx, htx, hlL, hrx, fun u H1 fp1 A1 af1 hu hu1 => ?_⟩
      have pn : p ∉ fpx := fun z => by
        obtain ⟨_, _, _, _, Ax⟩ := Ax
        exact Ax.still (nrP C dx) hpx rfl z
      have tn : t ∉ fpx := fun z => by
        obtain ⟨_, _, _, _, Ax⟩ := Ax
        exact Ax.still (nrP C dx) htx rfl z
      have hp1 := af1.kp _ _ pn hpx
      have hr1 := af1.kp _ _ nr hrx
      have ht1 := af1.kp _ _ tn htx
      have ans1 : AnsAt H1 ps (joinS S (ls.take i)).as := Paired.mapP ans fun a b h => still_keep (nrP C dx) Ax af1.kp h rfl
      have nr1 : r ∉ fp1 := fun z => by
        rcases af1.sub r z with h | h
        · exact nr h
        · rw [hrx] at h; cases h
      have g1 := (firstA_good gx (joinS S (ls.take i)).rs l hll)
      cases ef : firstA (joinS S (ls.take i)).s (joinS S (ls.take i)).rs l with
      | mk S1 x =>
        rw [ef] at hu1 A1 g1
        have afx := af.trans af1
        have fin : ∀ (y : Ans) (H2 : Hp) (fp2 : List Addr) (u2 : Addr) (rs2 : List Int) (S2 : Sh), stepJ (joinS S (ls.take i)) l = ⟨S2, rs2, (joinS S (ls.take i)).as ++ [y]⟩ → ShE (rtP C dx) H2 L fp2 S2 → Aft H fp H2 fp2 → H2 p = some (.lst (ps.map V.ref)) → AnsAt H2 ps (joinS S (ls.take i)).as → H2 r = some (.dK (rV rs2)) → r ∉ fp2 → H2 u2 = some (.tup y.v) → rs2.length ≤ i + 1 →
            ∃ (fpx : List Addr) (ps' : List Addr) (v4 v5 : Option V), [some (.ref L), some (.ref ds), some (.ref p), some (.ref r), some (.ref t), some (.ref u2)] = [some (.ref L), some (.ref ds), some (.ref p), some (.ref r), v4, v5] ∧ ShE (rtP C dx) (upd H2 p (.lst (ps.map V.ref ++ [.ref u2]))) L fpx (joinS S (ls.take (i + 1))).s ∧ Aft H fp (upd H2 p (.lst (ps.map V.ref ++ [.ref u2]))) fpx ∧ upd H2 p (.lst (ps.map V.ref ++ [.ref u2])) p = some (.lst (ps'.map V.ref)) ∧ AnsAt (upd H2 p (.lst (ps.map V.ref ++ [.ref u2]))) ps' (joinS S (ls.take (i + 1))).as ∧ upd H2 p (.lst (ps.map V.ref ++ [.ref u2])) r = some (.dK (rV (joinS S (ls.take (i + 1))).rs)) ∧ r ∉ fpx ∧ Good (joinS S (ls.take (i + 1))).s ∧ (joinS S (ls.take (i + 1))).s.last ≤ S.last + ((i + 1 : Nat) : Int) ∧ ps'.length ≤ i + 1 ∧ (joinS S (ls.take (i + 1))).rs.length ≤ i + 1 := by
          intro y H2 fp2 u2 rs2 S2 es A2 af2 hp2 ans2 hr2 nr2 hu2 hrl
          have gs' := gs
          have pn2 : p ∉ fp2 := fun z => by
            obtain ⟨_, _, _, _, A2⟩ := A2
            exact A2.still (nrP C dx) hp2 rfl z
          rw [J i l el]
          have kpp : Kp [p] H2 (upd H2 p (.lst (ps.map V.ref ++ [.ref u2]))) := (Kp.refl _ H2).put (.head _)
          refine ⟨fp2, ps ++ [u2], _, _, rfl, ?_, ⟨fun b o n e => ?_, af2.sub, af2.gr⟩, by rw [upd_same, List.map_append]; rfl, ?_, ?_, nr2, gs.1, ?_, by simp; omega, by rw [es]; exact hrl⟩
          · rw [es]
            obtain ⟨_, _, _, _, A2⟩ := A2
            refine ⟨_, _, _, _, kpp _ _ (fun z => pn2 (by rw [← List.mem_singleton.mp z]; exact A2.memL)) A2.root, A2.tab.frame kpp (fun b hb z => pn2 (by rw [← List.mem_singleton.mp z, A2.fp_]; exact .tail _ hb)) (fun b hb xs e => ?_), A2.fp_, A2.nl, A2.sfo, A2.sfi⟩
            rw [List.mem_singleton.mp hb, hp2] at e
            cases e
          · have h2 := af2.kp b o n e
            by_cases z : b = p
            · subst z; rw [hp] at e; cases e
            · rw [upd_ne z]; exact h2
          · rw [es]
            refine paired_snoc (Paired.mapP ans2 fun a b h => ?_) ?_
            · rw [upd_ne (ne_of h hp2 (by intro z; cases z))]; exact h
            · rw [upd_ne (ne_of hu2 hp2 (by intro z; cases z))]; exact hu2
          · rw [es, upd_ne rp]; exact hr2
          · have := gs.2.2
            push_cast
            omega
        refine ⟨_, rfl, u, _, _, _, rfl, rfl, SqT.of hu1, (by cases x <;> rfl : atI x.v 0 = some (x.v.getD 0 .non)), (by cases x <;> rfl), _, rfl, ?_⟩
        cases x with
        | no w' =>
          have eS := firstA_no ef
          refine ite2 (fun _ => ?_) (fun e => absurd rfl e)
          cases l with
          | make w0 a0 c0 =>
            have es : stepJ (joinS S (ls.take i)) (.make w0 a0 c0) = ⟨(clashA S1 c0 w').1, (joinS S (ls.take i)).rs, (joinS S (ls.take i)).as ++ [(clashA S1 c0 w').2]⟩ := by unfold stepJ; rw [ef]; rfl
            refine ⟨_, rfl, t, _, _, _, rfl, rfl, SqT.of ht1, rfl, rfl, _, rfl, ite2 (fun e => absurd e (by decide +kernel)) (fun _ => ?_)⟩
            refine ⟨_, rfl, _, rfl, t, _, _, _, rfl, rfl, SqT.of ht1, rfl, _, rfl, u, _, _, _, rfl, rfl, SqT.of hu1, rfl, L, dx, fp1, S1, c0, w', rfl, A1, g1.1, fun u2 H2 fp2 A2 af2 hu2 hu2' => ?_⟩
            have hp2 := still_keep (nrP C dx) A1 af2.kp hp1 rfl
            have hr2 := af2.kp _ _ nr1 hr1
            have nr2 : r ∉ fp2 := fun z => by
              rcases af2.sub r z with h | h
              · exact nr1 h
              · rw [hr1] at h; cases h
            exact ⟨_, rfl, .inl ⟨rfl, _, SqL.of hp2⟩, _, rfl, p, _, _, rfl, rfl, hp2, by rw [List.length_map]; omega, fin _ H2 fp2 u2 _ _ es A2 (afx.trans af2) hp2 (Paired.mapP ans1 fun a b h => still_keep (nrP C dx) A1 af2.kp h rfl) hr2 nr2 hu2' (by omega)⟩
          | shut n0 v0 c0 =>
            have es : stepJ (joinS S (ls.take i)) (.shut n0 v0 c0) = ⟨(clashA S1 c0 w').1, (if n0 ∈ (joinS S (ls.take i)).rs then (joinS S (ls.take i)).rs else (joinS S (ls.take i)).rs ++ [n0]), (joinS S (ls.take i)).as ++ [(clashA S1 c0 w').2]⟩ := by unfold stepJ; rw [ef]; rfl
            refine ⟨_, rfl, t, _, _, _, rfl, rfl, SqT.of ht1, rfl, rfl, _, rfl, ite2 (fun _ => ?_) (fun e => absurd rfl e)⟩
            refine ⟨_, rfl, _, rfl, t, _, _, _, rfl, rfl, SqT.of ht1, rfl, r, _, rfl, DPut.k (k := Sum.inl n0) hr1 (by unfold rV; rw [List.length_map]; omega), ?_⟩
            rw [put_rV]
            have kr : Kp [r] H1 (upd H1 r (.dK (rV (if n0 ∈ (joinS S (ls.take i)).rs then (joinS S (ls.take i)).rs else (joinS S (ls.take i)).rs ++ [n0])))) := (Kp.refl _ H1).put (.head _)
            have nrt : ∀ {b : Addr} {o : HO}, H1 b = some o → Still o = true → b ∉ [r] := fun {b o} h1 h2 z => by
              rw [List.mem_singleton.mp z, hr1] at h1
              cases h1
              cases h2
            have A1r : ShE (rtP C dx) (upd H1 r (.dK (rV (if n0 ∈ (joinS S (ls.take i)).rs then (joinS S (ls.take i)).rs else (joinS S (ls.take i)).rs ++ [n0])))) L fp1 S1 := by
              obtain ⟨_, _, _, _, A1⟩ := A1
              refine ⟨_, _, _, _, kr _ _ (fun z => nr1 (by rw [← List.mem_singleton.mp z]; exact A1.memL)) A1.root, A1.tab.frame kr (fun b hb z => nr1 (by rw [← List.mem_singleton.mp z, A1.fp_]; exact .tail _ hb)) (fun b hb xs e => ?_), A1.fp_, A1.nl, A1.sfo, A1.sfi⟩
              rw [List.mem_singleton.mp hb, hr1] at e
              cases e
            have afr : Aft H fp (upd H1 r (.dK (rV (if n0 ∈ (joinS S (ls.take i)).rs then (joinS S (ls.take i)).rs else (joinS S (ls.take i)).rs ++ [n0])))) fp1 := ⟨fun b o n e => by
              have h2 := afx.kp b o n e
              by_cases z : b = r
              · subst z; rw [s1 _ _ e] at hr0; cases hr0
              · rw [upd_ne z]; exact h2, afx.sub, afx.gr⟩
            refine ⟨_, rfl, _, rfl, t, _, _, _, rfl, rfl, SqT.of (kr _ _ (nrt ht1 rfl) ht1), rfl, _, rfl, u, _, _, _, rfl, rfl, SqT.of (kr _ _ (nrt hu1 rfl) hu1), rfl, L, dx, fp1, S1, c0, w', rfl, A1r, g1.1, fun u2 H2 fp2 A2 af2 hu2 hu2' => ?_⟩
            have hp2 := still_keep (nrP C dx) A1r af2.kp (kr _ _ (nrt hp1 rfl) hp1) rfl
            have hr2 := af2.kp r _ nr1 upd_same
            have nr2 : r ∉ fp2 := fun z => by
              rcases af2.sub r z with h | h
              · exact nr1 h
              · rw [upd_same] at h; cases h
            exact ⟨_, rfl, .inl ⟨rfl, _, SqL.of hp2⟩, _, rfl, p, _, _, rfl, rfl, hp2, by rw [List.length_map]; omega, fin _ H2 fp2 u2 _ _ es A2 (afr.trans af2) hp2 (Paired.mapP ans1 fun a b h => still_keep (nrP C dx) A1r af2.kp (kr _ _ (nrt h rfl) h) rfl) hr2 nr2 hu2' (by split <;> first | omega | (rw [List.length_append, List.length_singleton]; omega))⟩
        | made n =>
          refine ite2 (fun e => absurd e (by first | decide +kernel | (show ¬ decide (V.str _ = V.str "refused") = true; decide +kernel))) (fun _ => ?_)
          exact ⟨_, rfl, .inl ⟨rfl, _, SqL.of hp1⟩, _, rfl, p, _, _, rfl, rfl, hp1, by rw [List.length_map]; omega, fin _ H1 fp1 u _ _ (by unfold stepJ; rw [ef]; rfl) A1 afx hp1 ans1 hr1 nr1 hu1 (by omega)⟩
        | put v =>
          refine ite2 (fun e => absurd e (by first | decide +kernel | (show ¬ decide (V.str _ = V.str "refused") = true; decide +kernel))) (fun _ => ?_)
          exact ⟨_, rfl, .inl ⟨rfl, _, SqL.of hp1⟩, _, rfl, p, _, _, rfl, rfl, hp1, by rw [List.length_map]; omega, fin _ H1 fp1 u _ _ (by unfold stepJ; rw [ef]; rfl) A1 afx hp1 ans1 hr1 nr1 hu1 (by omega)⟩
        | clash n w' =>
          refine ite2 (fun e => absurd e (by first | decide +kernel | (show ¬ decide (V.str _ = V.str "refused") = true; decide +kernel))) (fun _ => ?_)
          exact ⟨_, rfl, .inl ⟨rfl, _, SqL.of hp1⟩, _, rfl, p, _, _, rfl, rfl, hp1, by rw [List.length_map]; omega, fin _ H1 fp1 u _ _ (by unfold stepJ; rw [ef]; rfl) A1 afx hp1 ans1 hr1 nr1 hu1 (by omega)⟩
  · rintro σ Hx ⟨fpx, ps, v4, v5, rfl, Ax, af, hpx, ans, hrx, nr, gx, lx, n1, n2⟩
    have el : ls.take (ts.map V.ref).length = ls := by rw [List.length_map, hlen]; exact List.take_length
    rw [el] at Ax ans
    refine ⟨_, rfl, (by show 2 ≤ sizeLine; decide), fun u hu => ?_⟩
    exact q u p _ fpx ps (Ax.same (same_new hu _)) (af.same (same_new hu _)) (af.fresh Ax hu) hp upd_same ((same_new hu _) _ _ hpx) (Paired.mapP ans fun a b h => (same_new hu _) _ _ h)
end
end K32
set_option Elab.async false
set_option linter.all false
set_option maxRecDepth 100000
set_option maxHeartbeats 4000000
namespace K32
open PySem L2
noncomputable def rowD (S : Sh) (n : Int) : PyData := match lkp S.fo n with
  | some es => .tuple [.str "folder", .int n, .list ((sortE es).map fun e => .tuple [.str e.1, .int e.2])]
  | none => .tuple [.str "file", .int n, .int ((lkp S.fi n).getD (0, Str.empty)).1, .str ((lkp S.fi n).getD (0, Str.empty)).2]
noncomputable def spRow (C : Addr) : Sp := fun vs H Q _ => ∃ (L dx df dg : Addr) (n : Int) (fp : List Addr) (S : Sh) (fa : List (Int × Addr × Ent)) (ft : List (Int × Addr × Int × Str)), vs = [.ref L, .int n] ∧ ShAt (rtP C dx) H L fp S df dg fa ft ∧ Good S ∧ 0 ≤ n ∧ n ≤ S.last ∧
  ∀ u H', Same H H' → DA H' (.ref u) (rowD S n) → Q (.ref u) H'
noncomputable def rowsD (S : Sh) : List PyData := (List.range (S.last.toNat + 1)).map fun n : Nat => rowD S n
noncomputable def spRows (C : Addr) : Sp := fun vs H Q _ => ∃ (L dx : Addr) (fp : List Addr) (S : Sh), vs = [.ref L] ∧ ShE (rtP C dx) H L fp S ∧ Good S ∧ ∀ u H', Same H H' → DA H' (.ref u) (.list (rowsD S)) → Q (.ref u) H'
theorem ent_da {H : Hp} : ∀ {ts : List Addr} {es : List (Str × Int)}, ts.length = es.length → (∀ (j : Nat) a e, ts[j]? = some a → es[j]? = some e → H a = some (.tup [.str e.1, .int e.2])) → DAs H (ts.map V.ref) (es.map fun e => .tuple [.str e.1, .int e.2])
  | [], [], _, _ => .nil
  | [], _ :: _, h, _ => by simp at h
  | _ :: _, [], h, _ => by simp at h
  | t :: ts, e :: es, h, r => .cons (.tup (r 0 t e rfl rfl) (.cons (.str _) (.cons (.int _) .nil))) (ent_da (by simpa using h) fun j a e e1 e2 => r (j + 1) a e (by simpa using e1) (by simpa using e2))
theorem sort_uniq : ∀ {l m : List Int}, l.Perm m → l.Pairwise (· ≤ ·) → m.Pairwise (· < ·) → l = m
  | [], m, p, _, _ => (List.Perm.nil_eq p)
  | a :: l, [], p, _, _ => by have := p.length_eq; simp at this
  | a :: l, b :: m, p, h1, h2 => by
    rw [List.pairwise_cons] at h1 h2
    have hab : a = b := by
      have ha : a ∈ b :: m := p.mem_iff.mp (.head _)
      have hb : b ∈ a :: l := p.mem_iff.mpr (.head _)
      rcases List.mem_cons.mp ha with e | e
      · exact e
      · have c1 := h2.1 a e
        rcases List.mem_cons.mp hb with e' | e'
        · exact e'.symm
        · have c2 := h1.1 b e'
          omega
    subst hab
    rw [sort_uniq (List.Perm.cons_inv p) h1.2 (h2.2)]
theorem keys_perm {S : Sh} (g : Good S) : (S.fo.map (·.1) ++ S.fi.map (·.1)).Perm ((List.range (S.last.toNat + 1)).map fun n : Nat => (n : Int)) := by
  have lo := g.low
  have nd1 : (S.fo.map (·.1) ++ S.fi.map (·.1)).Nodup := by
    rw [List.nodup_append]
    refine ⟨g.kf, g.kg, fun a ha b hb e => ?_⟩
    subst e
    have := g.apart a (lkp_some_iff.mpr ha)
    exact lkp_none.mp this hb
  have nd2 : ((List.range (S.last.toNat + 1)).map fun n : Nat => (n : Int)).Nodup := List.Pairwise.map _ (fun i j hne e => hne (by omega)) List.nodup_range
  refine (List.perm_ext_iff_of_nodup nd1 nd2).mpr fun x => ?_
  rw [List.mem_append, ← lkp_some_iff, ← lkp_some_iff, g.cover x]
  constructor
  · intro h
    exact List.mem_map.mpr ⟨x.toNat, List.mem_range.mpr (by omega), by omega⟩
  · intro h
    obtain ⟨n, hn, rfl⟩ := List.mem_map.mp h
    have := List.mem_range.mp hn
    omega
theorem range_lt (n : Nat) : ((List.range n).map fun n : Nat => (n : Int)).Pairwise (· < ·) := by
  refine List.Pairwise.map _ (fun i j (h : i < j) => ?_) List.pairwise_lt_range
  show (i : Int) < (j : Int)
  omega
theorem comp_data {K : PySem.W.Frag} {H : Hp} {r : Addr} {ns : List Int} {rest : St} {te : TE} {QQ : V → Hp → Prop} (G : Int → PyData) (hR : SqL K H r (ns.map V.int)) (hl : ns.length ≤ 1000)
    (he : ∀ n ∈ ns, ∀ H1, Same H H1 → ∀ Q' : VK, (∀ v H2, Same H1 H2 → DA H2 v (G n) → Q' v H2) → te (some (.int n) :: rest) H1 Q') (fin : ∀ H' D ys, Same H H' → H' D = none → DAs H' ys (ns.map G) → QQ (.ref D) (upd H' D (.lst ys))) :
    ∃ W : Nat → Nat → St → List V → Hp → Prop, (∃ m, W 0 m (none :: rest) [] H) ∧ LoopC (Itl K r) (gName 0) tTrue te W QQ := by
  refine lc_list (K := K) (a := r) (xs := ns.map V.int) (fun i σ ys Hx => Same H Hx ∧ DAs Hx ys ((ns.take i).map G) ∧ ∃ v : Option V, σ = v :: rest) ⟨Same.refl H, .nil, _, rfl⟩ (fun i σ ys Hx _ ⟨e, _⟩ => e.seq hR) (fun i σ ys Hx hi ⟨_, e, _⟩ => ?_) ?_ ?_
  · have := e.len
    rw [List.length_map, List.length_take] at this
    exact small (by omega)
  · rintro i x σ ys Hx hx ⟨sx, da, v, rfl⟩
    rw [List.getElem?_map] at hx
    cases en : ns[i]? with
    | none => rw [en] at hx; cases hx
    | some n =>
      rw [en] at hx
      cases hx
      refine he n (List.mem_of_getElem? en) Hx sx _ fun y H2 s2 dy => ⟨sx.trans s2, ?_, _, rfl⟩
      rw [List.take_add_one, en, List.map_append]
      exact (da.same s2).snoc dy
  · rintro σ ys Hx ⟨sx, da, v, rfl⟩ D hD
    have el : ns.take (ns.map V.int).length = ns := by rw [List.length_map]; exact List.take_length
    rw [el] at da
    exact fin Hx D ys sx hD da
section
variable {P : Program} {w : World} {K : PySem.W.Frag} {mg : Str → Option Value} {base : Heap} {C aN aC aF aG : Addr}
theorem sc_rowof : FnScope ["shelf", "number"] ["shelf", "number"] (defScope s_rowof) := ⟨rfl, rfl, rfl, by decide +kernel, rfl, by decide +kernel, by decide +kernel⟩
theorem ok_rowof {f : Addr} {fd : FuncData} (F : Fun K "row_of" "row_of" s_rowof f fd) (T : Txt0 mg K w C aN aC aF aG) : FnOk P w K mg base CX0 1 f fd ["shelf", "number"] (spRow C) := by
  refine F.ok sc_rowof (fun vs H Q E h => ?_) (fun cdv A outer s H vs Q E hr h => ?_)
  · obtain ⟨L, dx, df, dg, n, fp, S, fa, ft, rfl, _⟩ := h
    rfl
  obtain ⟨L, dx, df, dg, n, fp, S, fa, ft, rfl, A0, g, n0, n1, q⟩ := h
  refine ⟨_, (pss_cons (ps_if (pt_cmp (pc_din (hu_of hr) (pv 1) (pe_fld (pv 0) rfl)) rfl)
      (pss_one (ps_ret (pe_tup (pa_cons pe_str (pa_cons (pv 1) (pa_cons (pe_callB (call_sortedItems rfl) rfl T.T.b_sorted PyProof.Rows.boot_sorted (pa_cons (pe_bm0 PySem.F.plainAttrs_dict PySem.F.slot_dict_items PySem.F.type_dict_items mt_items (pe_dget (hu_of hr) (pe_fld (pv 0) rfl) (pv 1) (fun _ _ => rfl))) pa_nil)) pa_nil)))))) pss_nil)
    (pss_one (ps_ret (pe_op op_catT (pe_tup (pa_cons pe_str (pa_cons (pv 1) pa_nil))) (pe_dget (hu_of hr) (pe_fld (pv 0) rfl) (pv 1) (fun _ _ => rfl)))))), ?_⟩
  refine ⟨_, rfl, _, rfl, L, C, dx, _, _, rfl, A0.root, T.cl, T.nFo, rfl, df, _, rfl, A0.tab.getF n, _, rfl, ?_⟩
  rw [some_map]
  refine ite2 (fun e => ?_) (fun e => ?_)
  · have e' : (lkp S.fo n).isSome = true := by rw [A0.sfo, lkp_fo, some_map]; exact e
    obtain ⟨a, es, e1, e2⟩ := A0.fo_some e'
    have le := A0.entLen g e1
    refine ⟨_, rfl, _, rfl, L, C, dx, _, _, rfl, A0.root, T.cl, T.nFo, rfl, _, rfl, df, .ref a, rfl, (by have := A0.tab.getF n; rw [e1] at this; exact this), .inr (.inr (.inl ⟨rfl, .inl ⟨_, A0.tab.he _ (lkp_mem e1)⟩⟩)), a, _, rfl, rfl, A0.tab.he _ (lkp_mem e1), fun v hv => ?_⟩
    refine ⟨v, a, es, rfl, upd_same, (same_new hv _) _ _ (A0.tab.he _ (lkp_mem e1)), by omega, fun H' l ts s' hl hl' hlen hat => ?_⟩
    refine ⟨(by show 3 ≤ sizeLine; decide), fun u hu => ?_⟩
    have s2 := same_new hu (.tup [.str "folder", .int n, .ref l])
    refine q u _ ((same_new hv _).trans (s'.trans s2)) ?_
    have er : rowD S n = .tuple [.str "folder", .int n, .list ((sortE es).map fun e => .tuple [.str e.1, .int e.2])] := by unfold rowD; rw [e2]
    rw [er]
    exact .tup upd_same (.cons (.str _) (.cons (.int _) (.cons (.lst (s2 _ _ hl') ((ent_da hlen hat).same s2)) .nil)))
  · have e' : (lkp S.fo n).isSome = false := by rw [A0.sfo, lkp_fo, some_map]; exact Bool.eq_false_iff.mpr e
    have hfi : (lkp S.fi n).isSome = true := by
      rcases (g.cover n).mpr ⟨n0, n1⟩ with h | h
      · rw [e'] at h; cases h
      · exact h
    obtain ⟨a, v, c, e1, e2⟩ := A0.fi_some hfi
    refine ⟨_, rfl, (by show 2 ≤ sizeLine; decide), fun t ht => ?_⟩
    have s1 := same_new ht (.tup [.str "file", .int n])
    have A1 := A0.same s1
    refine ⟨_, rfl, L, C, dx, _, _, rfl, A1.root, T.cl, T.nFi, rfl, _, rfl, dg, .ref a, rfl, (by have := A1.tab.getG n; rw [e1] at this; exact this), t, a, _, _, rfl, rfl, SqT.of upd_same, SqT.of (A1.tab.ht _ (lkp_mem e1)), by simp, by simp; decide, (fun z => nomatch z), fun _ u hu => ?_⟩
    have s2 := same_new hu (.tup ([.str "file", .int n] ++ [.int v, .str c]))
    have er : rowD S n = .tuple [.str "file", .int n, .int v, .str c] := by
      unfold rowD
      cases z : lkp S.fo n with
      | some x => rw [z] at e'; cases e'
      | none => dsimp only; rw [e2]; rfl
    refine q u _ (s1.trans s2) ?_
    rw [er]
    exact .tup upd_same (.cons (.str _) (.cons (.int _) (.cons (.int _) (.cons (.str _) .nil))))
theorem sc_rowsof : FnScope ["shelf"] ["shelf"] (defScope s_rowsof) := ⟨rfl, rfl, rfl, by decide +kernel, rfl, by decide +kernel, by decide +kernel⟩
theorem ok_rowsof {f : Addr} {fd : FuncData} (F : Fun K "rows_of" "rows_of" s_rowsof f fd) (T : Txt0 mg K w C aN aC aF aG) (CRO : Cal P w K mg base "row_of" ["shelf", "number"] 1 (spRow C)) : FnOk P w K mg base CX0 2 f fd ["shelf"] (spRows C) := by
  refine F.ok sc_rowsof (fun vs H Q E h => ?_) (fun cdv A outer s H vs Q E hr h => ?_)
  · obtain ⟨L, dx, fp, S, rfl, _⟩ := h
    rfl
  obtain ⟨L, dx, fp, S, rfl, A0, g, q⟩ := h
  refine ⟨_, (pss_one (ps_ret (pe_lc [none, some 0] ["number", "shelf"] rfl cap01 (pi_list (pe_callB call_sortedI rfl T.T.b_sorted PyProof.Rows.boot_sorted (pa_cons (pe_op op_cat (pe_callTy (call_listD rfl) rfl T.T.b_list PyProof.Rows.boot_list (pa_cons (pe_fld (pv 0) rfl) pa_nil)) (pe_callTy (call_listD rfl) rfl T.T.b_list PyProof.Rows.boot_list (pa_cons (pe_fld (pv 0) rfl) pa_nil))) pa_nil))) (fun _ _ _ _ _ _ => (pg_name (i := 0) (by decide +kernel : (["number", "shelf"] : List Str).Nodup) rfl (Or.inl rfl))) (fun _ _ _ _ _ _ => pifs_nil) (fun _ _ _ _ _ _ => (pe_cal CRO hr rfl (pa_cons (pv 1) (pa_cons (pv 0) pa_nil))))))), ?_⟩
  obtain ⟨df, dg, fa, ft, A0⟩ := A0
  have l1 := A0.foldLen g
  have l2 := A0.fileLen g
  have hs : sizeLine = 16777216 := sizeLine_eq
  have k1 : (fa.map fun p => ((Sum.inl p.1 : Key), V.ref p.2.1)).map (fun p => kV p.1) = (S.fo.map (·.1)).map V.int := by
    rw [A0.sfo, fo_keys, List.map_map, List.map_map]; rfl
  have k2 : (ft.map fun p => ((Sum.inl p.1 : Key), V.ref p.2.1)).map (fun p => kV p.1) = (S.fi.map (·.1)).map V.int := by
    rw [A0.sfi, fi_keys, List.map_map, List.map_map]; rfl
  have pm := keys_perm g
  have lo := g.low
  have tp := g.top
  have ln := pm.length_eq
  rw [List.length_map, List.length_range] at ln
  have ln2 := ln
  rw [List.length_append] at ln2
  refine ⟨_, rfl, L, C, dx, _, _, rfl, A0.root, T.cl, T.nFo, rfl, df, _, rfl, .inl A0.tab.hf, fun a1 h1 => ?_⟩
  rw [k1]
  have s1 := same_new h1 (.lst ((S.fo.map (·.1)).map V.int))
  have A1 := A0.same s1
  refine ⟨_, rfl, L, C, dx, _, _, rfl, A1.root, T.cl, T.nFi, rfl, dg, _, rfl, .inl A1.tab.hg, fun a2 h2 => ?_⟩
  rw [k2]
  have s2 := same_new h2 (.lst ((S.fi.map (·.1)).map V.int))
  refine ⟨a1, a2, _, _, rfl, rfl, s2 _ _ upd_same, upd_same, by simp at ln2 ⊢; omega, fun a3 h3 => ?_⟩
  rw [← List.map_append]
  have s3 := same_new h3 (.lst ((S.fo.map (·.1) ++ S.fi.map (·.1)).map V.int))
  refine ⟨a3, _, rfl, SqL.of upd_same, by omega, fun l ns' hl hp hsrt => ?_⟩
  have en : ns' = (List.range (S.last.toNat + 1)).map fun n : Nat => (n : Int) := sort_uniq (hp.trans pm) hsrt (range_lt _)
  subst en
  have s4 := same_new hl (.lst (((List.range (S.last.toNat + 1)).map fun n : Nat => (n : Int)).map V.int))
  have ss := s1.trans (s2.trans (s3.trans s4))
  refine ⟨l, rfl, ⟨_, SqL.of upd_same⟩, comp_data (K := K) (rest := [some (.ref L)]) (rowD S) (SqL.of upd_same) (by rw [List.length_map, List.length_range]; omega) (fun n hn H1 t1 Q' hq => ?_) fun H' D ys t1 hD da => ?_⟩
  · obtain ⟨m, hm, rfl⟩ := List.mem_map.mp hn
    have := List.mem_range.mp hm
    exact ⟨_, rfl, _, rfl, L, dx, df, dg, _, fp, S, fa, ft, rfl, A0.same (ss.trans t1), g, by omega, by omega, fun u H2 t2 d2 => hq _ H2 t2 d2⟩
  · have t2 := same_new hD (.lst ys)
    refine q D _ (ss.trans (t1.trans t2)) (.lst upd_same ?_)
    unfold rowsD
    rw [List.map_map] at da
    exact da.same t2
end
end K32
set_option Elab.async false
set_option linter.all false
set_option maxRecDepth 100000
namespace K32
open PySem L2
theorem tw_mem {p : Nat → Bool} : ∀ {l : List Nat} {c : Nat}, c ∈ l.takeWhile p → p c = true
  | [], c, h => by cases h
  | a :: l, c, h => by
    rw [List.takeWhile_cons] at h
    split at h
    · rename_i e
      rcases List.mem_cons.mp h with z | z
      · rw [z]; exact e
      · exact tw_mem z
    · cases h
theorem tw_all {p : Nat → Bool} : ∀ {l : List Nat}, (∀ c ∈ l, p c = true) → l.takeWhile p = l
  | [], _ => rfl
  | a :: l, h => by rw [List.takeWhile_cons, if_pos (h a (.head _)), tw_all fun c hc => h c (.tail _ hc)]
theorem drop_tw {p : Nat → Bool} : ∀ l : List Nat, l.drop (l.takeWhile p).length = l.dropWhile p
  | [] => rfl
  | a :: l => by
    rw [List.takeWhile_cons, List.dropWhile_cons]
    split
    · exact drop_tw l
    · rfl
theorem amB_mem (signs : Str) (c : Nat) : amB signs c = decide (c ∈ signs.cps.toList) := StrLaws.found_one signs c
theorem all_mem (signs x : Str) : allB signs x = true ↔ ∀ c ∈ x.cps.toList, c ∈ signs.cps.toList := by
  unfold allB
  rw [List.all_eq_true]
  constructor
  · intro h c hc
    have := h c hc
    rw [amB_mem] at this
    exact of_decide_eq_true this
  · intro h c hc
    rw [amB_mem]
    exact decide_eq_true (h c hc)
theorem fold_mem {a : Array Nat} : ∀ (k : Nat) (acc : Array Nat) (c : Nat), c ∈ ((List.replicate k a).foldl (· ++ ·) acc).toList → c ∈ acc.toList ∨ c ∈ a.toList
  | 0, acc, c, h => .inl h
  | k + 1, acc, c, h => by
    rw [List.replicate_succ, List.foldl_cons] at h
    rcases fold_mem k _ c h with z | z
    · simp at z
      rcases z with z | z
      · exact .inl (by simpa using z)
      · exact .inr (by simpa using z)
    · exact .inr z
theorem fold_size {a : Array Nat} : ∀ (k : Nat) (acc : Array Nat), ((List.replicate k a).foldl (· ++ ·) acc).size = acc.size + k * a.size
  | 0, acc => by simp
  | k + 1, acc => by
    rw [List.replicate_succ, List.foldl_cons, fold_size k]
    simp [Nat.succ_mul]
    omega
theorem mul_mem {x : Str} {n : Int} {c : Nat} (h : c ∈ (Txt.mul x n).cps.toList) : c ∈ x.cps.toList := by
  unfold Txt.mul at h
  split at h
  · cases h
  split at h
  · exact h
  · rcases fold_mem _ _ c h with z | z
    · simp at z
    · exact z
theorem mul_len {x : Str} {n : Int} (h0 : 0 ≤ n) : (Txt.mul x n).length = x.length * n.toNat := by
  unfold Txt.mul
  split
  · have : n.toNat = 0 := by omega
    rw [this]
    rfl
  split
  · rename_i h1 h2
    simp at h2
    rcases h2 with e | e
    · subst e; simp
    · rw [e]; simp
  · show ((List.replicate n.toNat x.cps).foldl (· ++ ·) #[]).size = _
    rw [fold_size]
    simp [Str.length, Nat.mul_comm]
theorem cont_ok {one : Str} {size : Nat} (h1 : one.length = 2) (h2 : ∀ c ∈ one.cps.toList, c ∈ CS.cps.toList) (h3 : size ≤ 200) : contB (Txt.slice (Txt.mul one size) none (some (size : Int))) = true ∧ (Txt.slice (Txt.mul one size) none (some (size : Int))).length ≤ 200 := by
  have hl : (Txt.mul one (size : Int)).length = 2 * size := by rw [mul_len (by omega), h1]; simp
  have e := beq_iff_eq.mp (PyProof.Rows.slice_closes_toL (x := Txt.mul one (size : Int)) (j := (size : Int)) (by omega) (by rw [hl]; omega))
  have hlen : (Txt.slice (Txt.mul one size) none (some (size : Int))).length ≤ 200 := by
    rw [e]
    simp [Str.length]
    omega
  refine ⟨?_, hlen⟩
  unfold contB
  rw [Bool.and_eq_true]
  refine ⟨decide_eq_true (by omega), (all_mem _ _).mpr fun c hc => ?_⟩
  rw [e] at hc
  have hc' : c ∈ (Txt.mul one (size : Int)).cps.toList := by
    have := hc
    simp at this
    exact List.mem_of_mem_take (by simpa using this)
  exact h2 c (mul_mem hc')
theorem strip_all {x y : Str} : decide (V.str (Txt.stripChars x y) = V.str "") = allB y x := by
  have hlen : x.cps.toList.length = x.length := by simp [Str.length]
  rw [Bool.eq_iff_iff, decide_eq_true_eq, all_mem]
  have ge : ∀ c, y.cps.contains c = true ↔ c ∈ y.cps.toList := fun c => by simp
  constructor
  · intro h
    have h := V.str.inj h
    unfold Txt.stripChars Txt.stripBy at h
    split at h
    · rename_i hs
      intro c hc
      rw [h] at hc
      cases hc
    · rename_i hs
      unfold stripped at h
      intro c hc
      -- all of it is taken from the left, or something stays
      rcases Classical.em (∀ c ∈ x.cps.toList, y.cps.contains c = true) with ha | ha
      · exact (ge c).mp (ha c hc)
      · exfalso
        have hlo : stripLo y.cps.contains true x < x.length := by
          unfold stripLo
          simp only [if_true]
          rw [← hlen]
          rcases Nat.lt_or_ge (x.cps.toList.takeWhile y.cps.contains).length x.cps.toList.length with z | z
          · exact z
          · exfalso
            have e : x.cps.toList.takeWhile y.cps.contains = x.cps.toList := (List.takeWhile_prefix _).eq_of_length_le z
            apply ha
            intro c hc
            rw [← e] at hc
            exact (tw_mem hc)
        have hhi : stripLo y.cps.contains true x < stripHi y.cps.contains true x (stripLo y.cps.contains true x) := by
          unfold stripHi
          simp only [if_true]
          have hd : ((x.cps.toList.drop (stripLo y.cps.contains true x)).reverse.takeWhile y.cps.contains).length < (x.cps.toList.drop (stripLo y.cps.contains true x)).length := by
            rcases Nat.lt_or_ge ((x.cps.toList.drop (stripLo y.cps.contains true x)).reverse.takeWhile y.cps.contains).length (x.cps.toList.drop (stripLo y.cps.contains true x)).reverse.length with z | z
            · simpa using z
            · exfalso
              have e := (List.takeWhile_prefix (p := y.cps.contains) (l := (x.cps.toList.drop (stripLo y.cps.contains true x)).reverse)).eq_of_length_le z
              have hall : ∀ c ∈ x.cps.toList.drop (stripLo y.cps.contains true x), y.cps.contains c = true := fun c hc => by
                have : c ∈ (x.cps.toList.drop (stripLo y.cps.contains true x)).reverse := List.mem_reverse.mpr hc
                rw [← e] at this
                exact tw_mem this
              apply ha
              intro c hc
              have e2 : x.cps.toList.drop (stripLo y.cps.contains true x) = x.cps.toList.dropWhile y.cps.contains := by
                unfold stripLo
                simp only [if_true]
                exact drop_tw _
              rw [← List.takeWhile_append_dropWhile (p := y.cps.contains) (l := x.cps.toList)] at hc
              rcases List.mem_append.mp hc with z | z
              · exact tw_mem z
              · exact hall c (by rw [e2]; exact z)
          rw [List.length_drop, hlen] at hd
          omega
        have hl := congrArg Str.length h
        have hhx : stripHi y.cps.contains true x (stripLo y.cps.contains true x) ≤ x.length := by unfold stripHi; simp only [if_true]; omega
        have e3 : (Builtin.Str.strSub x (stripLo y.cps.contains true x) (stripHi y.cps.contains true x (stripLo y.cps.contains true x))).length = stripHi y.cps.contains true x (stripLo y.cps.contains true x) - stripLo y.cps.contains true x := by
          show (x.cps.extract _ _).size = _
          rw [Array.size_extract]
          have : x.cps.size = x.length := rfl
          omega
        rw [e3] at hl
        have : ("" : Str).length = 0 := rfl
        omega
  · intro ha
    apply congrArg V.str
    have e1 : x.cps.toList.takeWhile y.cps.contains = x.cps.toList := tw_all fun c hc => (ge c).mpr (ha c hc)
    have lo : stripLo y.cps.contains true x = x.length := by unfold stripLo; simp only [if_true]; rw [e1, hlen]
    unfold Txt.stripChars Txt.stripBy
    split
    · rename_i hs
      unfold stripSame at hs
      rw [lo] at hs
      simp at hs
      apply str_ext
      have : x.cps.toList.length = 0 := by omega
      rw [List.length_eq_zero_iff.mp this]
      rfl
    · unfold stripped
      rw [lo]
      apply str_ext
      show (x.cps.extract _ _).toList = []
      have : stripHi y.cps.contains true x x.length ≤ x.length := by unfold stripHi; simp only [if_true]; omega
      have hz : (x.cps.extract x.length (stripHi y.cps.contains true x x.length)).size = 0 := by rw [Array.size_extract]; omega
      have := Array.length_toList (xs := x.cps.extract x.length (stripHi y.cps.contains true x x.length))
      rw [hz] at this
      exact List.length_eq_zero_iff.mp this
end K32
set_option Elab.async false
set_option linter.all false
set_option maxRecDepth 100000
set_option maxHeartbeats 4000000
namespace K32
open PySem L2
noncomputable def D4 (H : Hp) (p : Addr) : Prop := ∃ (a b e : Int) (c : Bool), H p = some (.lst [.int a, .int b, .bl c, .int e])
theorem D4.same {H H' : Hp} {p : Addr} (s : D4 H p) (h : Same H H') : D4 H' p := by
  obtain ⟨a, b, e, c, x⟩ := s
  exact ⟨a, b, e, c, h _ _ x⟩
theorem D4.ne {H : Hp} {p q : Addr} (s : D4 H p) (h : H q = none) : p ≠ q := by
  obtain ⟨a, b, e, c, x⟩ := s
  exact ne_of_none x h
theorem D4.laid {H : Hp} {p q : Addr} {o : HO} (s : D4 H p) (h : H q = none) : D4 (upd H q o) p := s.same (same_new h o)
noncomputable def spDig : Sp := fun vs H Q _ => ∃ (c k : Int), vs = [.int c, .int k] ∧ ∀ (p : Addr) (H' : Hp), H p = none → Same H H' → D4 H' p → Q (.ref p) H'
noncomputable def spPk4 : Sp := fun vs H Q _ => ∃ (p : Addr) (m : Int), vs = [.ref p, .int m] ∧ D4 H p ∧ 0 < m ∧ m < 2 ^ 200 ∧ ∀ (r : Int) (H' : Hp), 0 ≤ r → r < m → D4 H' p → Keep p H H' → Q (.int r) H'
noncomputable def spNames : Sp := fun vs H Q _ => ∃ (c : Int), vs = [.int c, .int 9] ∧ ∀ (l : Addr) (xs : List Str) (H' : Hp), H l = none → Same H H' → H' l = some (.lst (xs.map V.str)) → xs.length = 9 → (∀ x ∈ xs, x.length ≤ 1000) → Q (.ref l) H'
noncomputable def spCont : Sp := fun vs H Q _ => ∃ (p : Addr), vs = [.ref p] ∧ D4 H p ∧ ∀ (x : Str) (H' : Hp), contB x = true → x.length ≤ 200 → D4 H' p → Keep p H H' → Q (.str x) H'
noncomputable def spSame (n : Nat) : Sp := fun vs H Q _ => ∃ (x y : V) (d : PyData), vs = [x, y] ∧ DA H x d ∧ DA H y d ∧ dDep d ≤ n ∧ dWid d ≤ 1000 ∧ ∀ H', Same H H' → Q (.bl true) H'
theorem CS_at {z : Int} (h0 : 0 ≤ z) (h1 : z < 37) : ∃ c, atI CS.cps.toList z = some c ∧ c ∈ CS.cps.toList := by
  have e : ((z.toNat : Nat) : Int) = z := by omega
  have hl : CS.cps.toList.length = 37 := by decide
  have hz : z.toNat < CS.cps.toList.length := by omega
  have q := atI_nat (List.getElem?_eq_getElem hz)
  rw [e] at q
  exact ⟨_, q, List.getElem_mem hz⟩
section
variable {P : Program} {w : World} {K : PySem.W.Frag} {mg : Str → Option Value} {base : Heap} {C aN aC aF aG : Addr}
theorem sc_lcell : FnScope ["_law_script", "_law_k"] ["_law_script", "_law_k"] (defScope s_lcell) := ⟨rfl, rfl, rfl, by decide +kernel, rfl, by decide +kernel, by decide +kernel⟩
theorem ok_lcell {f : Addr} {fd : FuncData} (F : Fun K "_law_cell" "_law_cell" s_lcell f fd) (T : Txt0 mg K w C aN aC aF aG) : FnOk P w K mg base CX0 1 f fd ["_law_script", "_law_k"] (spCell K) := by
  refine F.ok sc_lcell (fun vs H Q E h => ?_) (fun cdv A outer s H vs Q E hr h => ?_)
  · obtain ⟨a, ns, k, rfl, _⟩ := h
    rfl
  obtain ⟨a, ns, k, rfl, hS, k0, q⟩ := h
  refine ⟨_, (pss_cons (ps_if (pt_cmpR op_lt (pv 1) (pe_callB call_len_seq rfl T.T.b_len PySem.boot_len (pa_cons (pv 0) pa_nil)) (nomark _))
      (pss_one (ps_ret (pe_ix ix_list (pv 0) (pv 1) (fun _ _ => rfl)))) pss_nil)
    (pss_one (ps_ret pe_int))), ?_⟩
  refine ⟨_, rfl, _, rfl, a, _, rfl, .inl hS, _, _, rfl, rfl, _, rfl, ?_⟩
  refine ite2 (fun e => ?_) (fun _ => q 0)
  have e1 := of_decide_eq_true e
  rw [List.length_map] at e1
  have hk : k.toNat < (ns.map V.int).length := by rw [List.length_map]; omega
  have ek : ((k.toNat : Nat) : Int) = k := by omega
  have at0 := atI_nat (List.getElem?_eq_getElem hk)
  rw [ek, List.getElem_map] at at0
  exact ⟨_, rfl, _, rfl, a, _, _, _, rfl, rfl, hS, at0, q _⟩
theorem sc_ldigits : FnScope ["_law_cell_here", "_law_turn"] ["_law_cell_here", "_law_turn"] (defScope s_ldigits) := ⟨rfl, rfl, rfl, by decide +kernel, rfl, by decide +kernel, by decide +kernel⟩
theorem ok_ldigits {f : Addr} {fd : FuncData} (F : Fun K "_law_digits" "_law_digits" s_ldigits f fd) (T : Txt0 mg K w C aN aC aF aG) : FnOk P w K mg base CX0 1 f fd ["_law_cell_here", "_law_turn"] spDig := by
  refine F.ok sc_ldigits (fun vs H Q E h => ?_) (fun cdv A outer s H vs Q E hr h => ?_)
  · obtain ⟨c, k, rfl, _⟩ := h
    rfl
  obtain ⟨c, k, rfl, q⟩ := h
  refine ⟨_, (pss_one (ps_ret (pe_lst (pa_cons (pe_callB call_abs rfl T.T.b_abs PyProof.Rows.boot_abs (pa_cons (pv 0) pa_nil)) (pa_cons (pv 1) (pa_cons (pe_cmpR op_ge (pe_callB call_abs rfl T.T.b_abs PyProof.Rows.boot_abs (pa_cons (pv 0) pa_nil)) (pe_op op_pow pe_int pe_int) (nomark _)) (pa_cons (pv 0) pa_nil))))))), ?_⟩
  refine ⟨_, rfl, c, rfl, _, rfl, _, rfl, c, rfl, _, _, rfl, rfl, ⟨by decide, by decide, by decide⟩, _, _, rfl, rfl, _, rfl, (by show 4 ≤ sizeLine; decide), fun p hp => ?_⟩
  exact q p _ hp (same_new hp _) ⟨_, _, _, _, upd_same⟩
theorem sc_lpick : FnScope ["_law_d", "_law_many", "_law_number", "_law_once"] ["_law_d", "_law_many"] (defScope s_lpick) := ⟨rfl, rfl, rfl, by decide +kernel, rfl, by decide +kernel, by decide +kernel⟩
theorem ok_lpick {f : Addr} {fd : FuncData} (F : Fun K "_law_pick" "_law_pick" s_lpick f fd) (T : Txt0 mg K w C aN aC aF aG) : FnOk P w K mg base CX0 1 f fd ["_law_d", "_law_many"] spPk4 := by
  refine F.ok sc_lpick (fun vs H Q E h => ?_) (fun cdv A outer s H vs Q E hr h => ?_)
  · obtain ⟨p, m, rfl, _⟩ := h
    rfl
  obtain ⟨p, m, rfl, ⟨a, b, e, c, hp⟩, h0, h1, q⟩ := h
  refine ⟨_, (pss_cons (ps_asg (pe_op op_add (pe_ix ix_list (pv 0) pe_int (fun _ _ => rfl)) pe_int) (pg_sub (pv 0) pe_int set_list))
    (pss_cons (ps_if (PW.pt (pw_and (pt_val (pe_ix ix_list (pv 0) pe_int (fun _ _ => rfl))) (pw_and1 (pt_cmpR op_gt (pe_ix ix_list (pv 0) pe_int (fun _ _ => rfl)) pe_int (nomark _)))))
      (pss_cons (ps_set (i := 2) sc_lpick.nd rfl (Or.inl rfl) (pe_op op_mod (pe_ix ix_list (pv 0) pe_int (fun _ _ => rfl)) (pv 1)))
    (pss_cons (ps_asg (pe_op op_fdivL (pe_ix ix_list (pv 0) pe_int (fun _ _ => rfl)) (pv 1)) (pg_sub (pv 0) pe_int set_list))
    (pss_one (ps_ret (pv 2))))) pss_nil)
    (pss_cons (ps_set (i := 3) sc_lpick.nd rfl (Or.inl rfl) (pe_op op_mod (pe_op op_mul (pe_op op_add (pe_op op_add (pe_op op_mod (pe_ix ix_list (pv 0) pe_int (fun _ _ => rfl)) pe_int) (pe_op op_mul pe_int (pe_ix ix_list (pv 0) pe_int (fun _ _ => rfl)))) pe_int) pe_int) pe_int))
    (pss_one (ps_ret (pe_op op_mod (pe_op op_mod (pe_op op_mul (pv 3) (pe_op op_add (pe_op op_add (pe_op op_mod (pv 3) pe_int) (pe_ix ix_list (pv 0) pe_int (fun _ _ => rfl))) pe_int)) pe_int) (pv 1))))))), ?_⟩
  refine ⟨_, rfl, p, _, _, _, rfl, rfl, SqL.of hp, rfl, _, _, rfl, rfl, _, rfl, p, _, _, _, rfl, rfl, hp, rfl, ?_⟩
  refine ⟨_, rfl, p, _, _, _, rfl, rfl, SqL.of upd_same, rfl, c, rfl, ?_⟩
  cases c with
  | true =>
    refine iteT ⟨_, rfl, p, _, _, _, rfl, rfl, SqL.of upd_same, rfl, _, _, rfl, rfl, _, rfl, ?_⟩
    refine ite2 (fun _ => ?_) (fun _ => ?_)
    · refine ⟨_, rfl, p, _, _, _, rfl, rfl, SqL.of upd_same, rfl, _, rfl, _, _, rfl, rfl, h0, ?_⟩
      refine ⟨_, rfl, p, _, _, _, rfl, rfl, SqL.of upd_same, rfl, _, rfl, _, _, rfl, rfl, ⟨h0, h1⟩, _, rfl, p, _, _, _, rfl, rfl, upd_same, rfl, ?_⟩
      refine ⟨_, rfl, ?_⟩
      exact q _ _ (Int.emod_nonneg _ (by omega)) (Int.emod_lt_of_pos _ h0) ⟨_, _, _, _, upd_same⟩ (Keep.refl p H).put.put
    · refine ⟨_, rfl, p, _, _, _, rfl, rfl, SqL.of upd_same, rfl, _, _, rfl, rfl, (by show (0 : Int) < 1000000007; decide), _, rfl, p, _, _, _, rfl, rfl, SqL.of upd_same, rfl, _, _, rfl, rfl, .inl ⟨by decide, by decide⟩, _, _, rfl, rfl, _, _, rfl, rfl, _, _, rfl, rfl, .inr ⟨by decide, by decide⟩, _, _, rfl, rfl, (by show (0 : Int) < 2147483647; decide), ?_⟩
      have m1 : ∀ x : Int, 0 ≤ x % 2147483647 ∧ x % 2147483647 < 2147483647 := fun x => ⟨Int.emod_nonneg _ (by decide), Int.emod_lt_of_pos _ (by decide)⟩
      have hz' := m1 ((e % 1000000007 + 7 * (b + 1) + 1) * 48271)
      generalize hz : ((e % 1000000007 + 7 * (b + 1) + 1) * 48271) % 2147483647 = z at hz'
      refine ⟨_, rfl, _, rfl, _, _, rfl, rfl, (by show (0 : Int) < 1009; decide), _, rfl, p, _, _, _, rfl, rfl, SqL.of upd_same, rfl, _, _, rfl, rfl, _, _, rfl, rfl, _, _, rfl, rfl, .inl ⟨by omega, by omega⟩, _, _, rfl, rfl, (by show (0 : Int) < 998244353; decide), _, rfl, _, _, rfl, rfl, h0, ?_⟩
      exact q _ _ (Int.emod_nonneg _ (by omega)) (Int.emod_lt_of_pos _ h0) ⟨_, _, _, _, upd_same⟩ (Keep.refl p H).put
  | false =>
    refine iteF (iteF ?_)
    refine ⟨_, rfl, p, _, _, _, rfl, rfl, SqL.of upd_same, rfl, _, _, rfl, rfl, (by show (0 : Int) < 1000000007; decide), _, rfl, p, _, _, _, rfl, rfl, SqL.of upd_same, rfl, _, _, rfl, rfl, .inl ⟨by decide, by decide⟩, _, _, rfl, rfl, _, _, rfl, rfl, _, _, rfl, rfl, .inr ⟨by decide, by decide⟩, _, _, rfl, rfl, (by show (0 : Int) < 2147483647; decide), ?_⟩
    have m1 : ∀ x : Int, 0 ≤ x % 2147483647 ∧ x % 2147483647 < 2147483647 := fun x => ⟨Int.emod_nonneg _ (by decide), Int.emod_lt_of_pos _ (by decide)⟩
    have hz' := m1 ((e % 1000000007 + 7 * (b + 1) + 1) * 48271)
    generalize hz : ((e % 1000000007 + 7 * (b + 1) + 1) * 48271) % 2147483647 = z at hz'
    refine ⟨_, rfl, _, rfl, _, _, rfl, rfl, (by show (0 : Int) < 1009; decide), _, rfl, p, _, _, _, rfl, rfl, SqL.of upd_same, rfl, _, _, rfl, rfl, _, _, rfl, rfl, _, _, rfl, rfl, .inl ⟨by omega, by omega⟩, _, _, rfl, rfl, (by show (0 : Int) < 998244353; decide), _, rfl, _, _, rfl, rfl, h0, ?_⟩
    exact q _ _ (Int.emod_nonneg _ (by omega)) (Int.emod_lt_of_pos _ h0) ⟨_, _, _, _, upd_same⟩ (Keep.refl p H).put
theorem sc_lnames : FnScope ["_law_cell_here", "_law_many", "_law_signs", "_law_number", "_law_some", "_law_k", "_law_first"] ["_law_cell_here", "_law_many"] (defScope s_lnames) := ⟨rfl, rfl, rfl, by decide +kernel, rfl, by decide +kernel, by decide +kernel⟩
theorem ok_lnames {f : Addr} {fd : FuncData} (F : Fun K "_law_names" "_law_names" s_lnames f fd) (T : Txt0 mg K w C aN aC aF aG) : FnOk P w K mg base CX0 1 f fd ["_law_cell_here", "_law_many"] spNames := by
  refine F.ok sc_lnames (fun vs H Q E h => ?_) (fun cdv A outer s H vs Q E hr h => ?_)
  · obtain ⟨c, rfl, _⟩ := h
    rfl
  obtain ⟨c, rfl, q⟩ := h
  refine ⟨_, (pss_cons (ps_set (i := 2) sc_lnames.nd rfl (Or.inl rfl) pe_str)
    (pss_cons (ps_set (i := 3) sc_lnames.nd rfl (Or.inl rfl) (pe_op op_mod (pv 0) pe_int))
    (pss_cons (ps_set (i := 4) sc_lnames.nd rfl (Or.inl rfl) (pe_lst pa_nil))
    (pss_cons (ps_for PassesOwn.never rfl (pi_range1 rfl T.T.b_range (pa_cons (pv 1) pa_nil)) (pg_name (i := 5) sc_lnames.nd rfl (Or.inl rfl))
      (pss_cons (ps_set (i := 6) sc_lnames.nd rfl (Or.inl rfl) (pe_ix ix_str (pv 2) (pe_op op_mod (pe_op op_add (pv 3) (pe_op op_mul pe_int (pv 5))) pe_int) (fun _ _ => rfl)))
    (pss_one (ps_expr (pe_bm PySem.F.plainAttrs_list PySem.F.slot_list_append PySem.F.type_list_append mt_append (pv 4) (pa_cons (pe_op op_add_str (pv 6) (pe_op op_mul_str (pe_ix ix_str (pv 2) (pe_op op_mod (pe_op op_fdiv (pv 3) pe_int) pe_int) (fun _ _ => rfl)) (pe_op op_mod (pe_op op_add (pe_op op_fdiv (pv 3) pe_int) (pe_op op_mul pe_int (pv 5))) pe_int))) pa_nil))))))
    (pss_cons (ps_if (pt_cmpR op_eq (pe_op op_mod (pv 3) pe_int) pe_int (nomark _))
      (pss_one (ps_asg pe_str (pg_sub (pv 4) (pe_op op_sub (pv 1) pe_int) set_list))) pss_nil)
    (pss_one (ps_ret (pv 4)))))))), ?_⟩
  refine ⟨_, rfl, _, _, rfl, rfl, (by show (0 : Int) < 1000003; decide), ?_⟩
  have hn0 : 0 ≤ c % 1000003 := Int.emod_nonneg _ (by decide)
  have hn1 : c % 1000003 < 1000003 := Int.emod_lt_of_pos _ (by decide)
  obtain ⟨n, en⟩ : ∃ n, n = c % 1000003 := ⟨_, rfl⟩
  rw [← en] at hn0 hn1
  have hs : sizeLine = 16777216 := sizeLine_eq
  refine ⟨(by show 0 ≤ sizeLine; omega), fun l hl => ?_⟩
  refine ⟨_, rfl, 9, rfl, by decide, by decide, for_range (lo := 0) (n := 9) (fun i σ Hx => ∃ (xs : List Str) (v5 v6 : Option V), σ = [some (.int c), some (.int 9), some (.str NS), some (.int n), some (.ref l), v5, v6] ∧ Same H Hx ∧ Hx l = some (.lst (xs.map V.str)) ∧ xs.length = i ∧ ∀ x ∈ xs, x.length ≤ 1000) ?_ ?_ ?_⟩
  · exact ⟨[], none, none, by rw [en]; rfl, same_new hl _, upd_same, rfl, fun x hx => by cases hx⟩
  · rintro i σ Hx hi ⟨xs, v5, v6, rfl, sx, hx, hlen, hle⟩
    obtain ⟨c1, e1⟩ := NS_at (z := (n + 7 * (0 + (i : Int))) % 36) (Int.emod_nonneg _ (by decide)) (Int.emod_lt_of_pos _ (by decide))
    obtain ⟨c2, e2⟩ := NS_at (z := n / 36 % 36) (Int.emod_nonneg _ (by decide)) (Int.emod_lt_of_pos _ (by decide))
    have m0 : 0 ≤ (n / 1296 + 5 * (0 + (i : Int))) % 8 := Int.emod_nonneg _ (by decide)
    have m1 : (n / 1296 + 5 * (0 + (i : Int))) % 8 < 8 := Int.emod_lt_of_pos _ (by decide)
    refine ⟨_, rfl, _, rfl, _, rfl, _, _, rfl, rfl, .inl ⟨by decide, by decide⟩, _, _, rfl, rfl, _, _, rfl, rfl, (by show (0 : Int) < 36; decide), NS, _, c1, rfl, rfl, by decide, e1, ?_⟩
    have lm : (Txt.mul (⟨#[c2]⟩ : Str) ((n / 1296 + 5 * (0 + (i : Int))) % 8)).length ≤ 7 := by
      rw [mul_len m0]
      show 1 * _ ≤ 7
      omega
    refine ⟨_, rfl, .inl ⟨rfl, _, SqL.of hx⟩, _, rfl, _, rfl, _, rfl, _, _, rfl, rfl, ⟨by decide, by decide⟩, _, _, rfl, rfl, (by show (0 : Int) < 36; decide), NS, _, c2, rfl, rfl, by decide, e2, _, rfl, _, _, rfl, rfl, ⟨by decide, by decide⟩, _, rfl, _, _, rfl, rfl, .inl ⟨by decide, by decide⟩, _, _, rfl, rfl, _, _, rfl, rfl, (by show (0 : Int) < 8; decide), _, _, rfl, rfl, m0, by omega, (by show 1 * _ ≤ _; omega), _, _, rfl, rfl, ?_, l, _, _, rfl, rfl, hx, by rw [List.length_map]; omega, ?_⟩
    · show 1 + _ ≤ sizeLine
      omega
    · refine ⟨xs ++ [(⟨#[c1]⟩ : Str) ++ Txt.mul (⟨#[c2]⟩ : Str) ((n / 1296 + 5 * (0 + (i : Int))) % 8)], _, _, rfl, fun b o h => ?_, by rw [upd_same, List.map_append]; rfl, by rw [List.length_append, hlen]; rfl, fun x hx' => ?_⟩
      · rw [upd_ne (ne_of_none h hl)]; exact sx b o h
      · rcases List.mem_append.mp hx' with z | z
        · exact hle x z
        · rw [List.mem_singleton.mp z, Str.length_append]
          show 1 + _ ≤ 1000
          omega
  · rintro σ Hx ⟨xs, v5, v6, rfl, sx, hx, hlen, hle⟩
    refine ⟨_, rfl, _, _, rfl, rfl, (by show (0 : Int) < 3; decide), rfl, _, rfl, ?_⟩
    refine ite2 (fun _ => ?_) (fun _ => ?_)
    · refine ⟨_, rfl, _, rfl, _, _, rfl, rfl, l, _, _, 8, rfl, rfl, hx, by rw [List.length_map, hlen]; rfl, ?_⟩
      refine ⟨_, rfl, q l (xs.set 8 "clash") _ hl (fun b o h => ?_) (by rw [upd_same, List.map_set]) (by rw [List.length_set, hlen]) fun x hx' => ?_⟩
      · rw [upd_ne (ne_of_none h hl)]; exact sx b o h
      · rcases List.mem_or_eq_of_mem_set hx' with z | z
        · exact hle x z
        · rw [z]; decide
    · exact ⟨_, rfl, q l xs Hx hl sx hx hlen hle⟩
theorem sc_lcontent : FnScope ["_law_d", "_law_size", "_law_signs", "_law_one"] ["_law_d"] (defScope s_lcontent) := ⟨rfl, rfl, rfl, by decide +kernel, rfl, by decide +kernel, by decide +kernel⟩
theorem ok_lcontent {f : Addr} {fd : FuncData} (F : Fun K "_law_content" "_law_content" s_lcontent f fd) (T : Txt0 mg K w C aN aC aF aG) (LPI : Cal P w K mg base "_law_pick" ["_law_d", "_law_many"] 1 spPk4) : FnOk P w K mg base CX0 2 f fd ["_law_d"] spCont := by
  refine F.ok sc_lcontent (fun vs H Q E h => ?_) (fun cdv A outer s H vs Q E hr h => ?_)
  · obtain ⟨p, rfl, _⟩ := h
    rfl
  obtain ⟨p, rfl, hd, q⟩ := h
  refine ⟨_, (pss_cons (ps_set (i := 1) sc_lcontent.nd rfl (Or.inl rfl) (pe_ix ix_list (pe_lst (pa_cons pe_int (pa_cons pe_int (pa_cons pe_int (pa_cons pe_int (pa_cons pe_int pa_nil)))))) (pe_cal LPI hr rfl (pa_cons (pv 0) (pa_cons pe_int pa_nil))) (fun _ _ => rfl)))
    (pss_cons (ps_set (i := 2) sc_lcontent.nd rfl (Or.inl rfl) pe_str)
    (pss_cons (ps_set (i := 3) sc_lcontent.nd rfl (Or.inl rfl) (pe_op op_add_str (pe_ix ix_str (pv 2) (pe_cal LPI hr rfl (pa_cons (pv 0) (pa_cons pe_int pa_nil))) (fun _ _ => rfl)) (pe_ix ix_str (pv 2) (pe_cal LPI hr rfl (pa_cons (pv 0) (pa_cons pe_int pa_nil))) (fun _ _ => rfl))))
    (pss_one (ps_ret (pe_slice sl_str (pe_op op_mul_str (pv 3) (pv 1)) po_none (po_some (pv 1)))))))), ?_⟩
  refine ⟨(by show 5 ≤ sizeLine; decide), fun l hl => ?_⟩
  refine ⟨_, rfl, p, 5, rfl, hd.laid hl, by decide, by decide, fun r H1 r0 r1 d1 k1 => ?_⟩
  have nl : l ≠ p := Ne.symm (hd.ne hl)
  obtain ⟨sz, esz, hsz⟩ : ∃ sz : Nat, atI [V.int 0, V.int 1, V.int 3, V.int 9, V.int 200] r = some (.int sz) ∧ sz ≤ 200 := by
    rcases (show r = 0 ∨ r = 1 ∨ r = 2 ∨ r = 3 ∨ r = 4 by omega) with rfl | rfl | rfl | rfl | rfl
    · exact ⟨0, rfl, by decide⟩
    · exact ⟨1, rfl, by decide⟩
    · exact ⟨3, rfl, by decide⟩
    · exact ⟨9, rfl, by decide⟩
    · exact ⟨200, rfl, by decide⟩
  have k1' : Keep p H H1 := ((Keep.refl p H).laid hl).trans k1
  refine ⟨l, _, _, _, rfl, rfl, SqL.of (k1 _ _ nl upd_same), esz, ?_⟩
  refine ⟨_, rfl, _, rfl, p, 37, rfl, d1, by decide, by decide, fun r2 H2 a0 a1 d2 k2 => ?_⟩
  obtain ⟨c1, e1, m1⟩ := CS_at a0 a1
  refine ⟨CS, _, c1, rfl, rfl, by decide, e1, _, rfl, _, rfl, p, 37, rfl, d2, by decide, by decide, fun r3 H3 b0 b1 d3 k3 => ?_⟩
  obtain ⟨c2, e2, m2⟩ := CS_at b0 b1
  refine ⟨CS, _, c2, rfl, rfl, by decide, e2, _, _, rfl, rfl, (by show 1 + 1 ≤ sizeLine; decide), ?_⟩
  have hs : sizeLine = 16777216 := sizeLine_eq
  have ok := cont_ok (one := (⟨#[c1]⟩ : Str) ++ ⟨#[c2]⟩) (size := sz) rfl (fun c hc => by
    have hc' : c = c1 ∨ c = c2 := by rw [str_app] at hc; simpa using hc
    rcases hc' with z | z
    · rw [z]; exact m1
    · rw [z]; exact m2) hsz
  refine ⟨_, rfl, _, rfl, _, _, rfl, rfl, by omega, by omega, (by show 2 * _ ≤ _; omega), _, rfl, _, rfl, _, rfl, ?_, ?_⟩
  · rw [mul_len (by omega)]
    show 2 * _ ≤ _
    omega
  · exact q _ _ ok.1 ok.2 d3 (k1'.trans (k2.trans k3))
theorem sc_lisname : FnScope ["_law_name_here"] ["_law_name_here"] (defScope s_lisname) := ⟨rfl, rfl, rfl, by decide +kernel, rfl, by decide +kernel, by decide +kernel⟩
theorem ok_lisname {f : Addr} {fd : FuncData} (F : Fun K "_law_is_name" "_law_is_name" s_lisname f fd) (T : Txt0 mg K w C aN aC aF aG) : FnOk P w K mg base CX0 1 f fd ["_law_name_here"] (spB nameB) := by
  refine F.ok sc_lisname (fun vs H Q E h => ?_) (fun cdv A outer s H vs Q E hr h => ?_)
  · obtain ⟨x, rfl, _⟩ := h
    rfl
  obtain ⟨x, rfl, hx, q⟩ := h
  refine ⟨_, (pss_one (ps_ret (pe_and (pe_chain op_le op_le pe_int (pe_callB call_len_str rfl T.T.b_len PySem.boot_len (pa_cons (pv 0) pa_nil)) pe_int) (pe_one (pe_cmpR op_eq (pe_bm PySem.F.plainAttrs_str PySem.F.slot_str_strip PySem.F.type_str_strip mt_strip (pv 0) (pa_cons pe_str pa_nil)) pe_str (nomark _)))))), ?_⟩
  refine ⟨_, rfl, x, rfl, le_line0 hx, _, _, rfl, rfl, _, rfl, ?_⟩
  unfold nameB at q
  refine ite2 (fun e => ?_) (fun e => ?_)
  · refine ⟨_, _, rfl, rfl, _, rfl, ?_⟩
    refine ite2 (fun e2 => ?_) (fun e2 => ?_)
    · refine ⟨_, rfl, rfl, x, NS, rfl, rfl, le_line0 hx, rfl, ?_⟩
      rw [strip_all]
      have := q H (Same.refl H)
      rw [show decide ((1 : Int) ≤ (x.length : Int)) = true from e, show decide ((x.length : Int) ≤ 8) = true from e2] at this
      exact this
    · have := q H (Same.refl H)
      rw [show decide ((x.length : Int) ≤ 8) = false from Bool.eq_false_iff.mpr e2, Bool.and_false, Bool.false_and] at this
      exact this
  · refine ⟨_, rfl, iteF ?_⟩
    have := q H (Same.refl H)
    rw [show decide ((1 : Int) ≤ (x.length : Int)) = false from Bool.eq_false_iff.mpr e, Bool.false_and, Bool.false_and] at this
    exact this
end
end K32
set_option Elab.async false
set_option linter.all false
set_option maxRecDepth 100000
set_option maxHeartbeats 4000000
namespace K32
open PySem L2
section
variable {P : Program} {w : World} {K : PySem.W.Frag} {mg : Str → Option Value} {base : Heap} {C aN aC aF aG : Addr}
theorem sc_lsame : FnScope ["_law_found", "_law_due"] ["_law_found", "_law_due"] (defScope s_lsame) := ⟨rfl, rfl, rfl, by decide +kernel, rfl, by decide +kernel, by decide +kernel⟩
theorem ok_lsame0 {f : Addr} {fd : FuncData} (F : Fun K "_law_same" "_law_same" s_lsame f fd) (T : Txt0 mg K w C aN aC aF aG)  : FnOk P w K mg base CX0 1 f fd ["_law_found", "_law_due"] (spSame 0) := by
  refine F.ok sc_lsame (fun vs H Q E h => ?_) (fun cdv A outer s H vs Q E hr h => ?_)
  · obtain ⟨x, y, d, rfl, _⟩ := h
    rfl
  obtain ⟨x, y, d, rfl, hx, hy, hd, hw, q⟩ := h
  refine ⟨_, (pss_cons (ps_if (pt_val (pe_callB call_isi2 rfl T.T.b_isinstance PyProof.Rows.boot_isinstance (pa_cons (pv 1) (pa_cons (pe_tup (pa_cons (pe_bltn (v := .ty "list") rfl T.T.b_list PyProof.Rows.boot_list rfl) (pa_cons (pe_bltn (v := .ty "tuple") rfl T.T.b_tuple PyProof.Rows.boot_tuple rfl) pa_nil))) pa_nil))))
      pss_never pss_nil)
    (pss_cons (ps_if (pt_val (pe_callB (r := rIsi K "str") call_isi rfl T.T.b_isinstance PyProof.Rows.boot_isinstance (pa_cons (pv 1) (pa_cons (pe_bltn (v := .ty "str") rfl T.T.b_str PyProof.Rows.boot_str rfl) pa_nil))))
      (pss_one (ps_ret (pe_and (pe_callB (r := rIsi K "str") call_isi rfl T.T.b_isinstance PyProof.Rows.boot_isinstance (pa_cons (pv 0) (pa_cons (pe_bltn (v := .ty "str") rfl T.T.b_str PyProof.Rows.boot_str rfl) pa_nil))) (pe_one (pe_cmpR op_eq (pv 0) (pv 1) (nomark _)))))) pss_nil)
    (pss_cons (ps_if (pt_cmpR op_isN (pv 1) pe_non (nomark _))
      (pss_one (ps_ret (pe_cmpR op_isN (pv 0) pe_non (nomark _)))) pss_nil)
    (pss_one (ps_ret (pe_and (pe_callB (r := rIsi K "int") call_isi rfl T.T.b_isinstance PyProof.Rows.boot_isinstance (pa_cons (pv 0) (pa_cons (pe_bltn (v := .ty "int") rfl T.T.b_int PyProof.Rows.boot_int rfl) pa_nil))) (pe_and (pe_not (pe_callB (r := rIsi K "bool") call_isi rfl T.T.b_isinstance PyProof.Rows.boot_isinstance (pa_cons (pv 0) (pa_cons (pe_bltn (v := .ty "bool") rfl T.T.b_bool PyProof.Rows.boot_bool rfl) pa_nil)))) (pe_one (pe_cmpR op_eq (pv 0) (pv 1) (nomark _)))))))))), ?_⟩
  cases hx with
  | str z =>
    cases hy
    refine ⟨_, rfl, (by show 2 ≤ sizeLine; decide), fun tp htp => ⟨_, .str z, tp, _, rfl, DA.str z, upd_same, k2_s K, _, rfl, iteF ?_⟩⟩
    refine ⟨_, rfl, _, _, _, rfl, .str _, k_ss K, _, rfl, iteT ?_⟩
    refine ⟨_, rfl, _, _, _, rfl, .str _, k_ss K, _, rfl, iteT ⟨_, rfl, _, rfl, rfl, ?_⟩⟩
    rw [decide_eq_true rfl]
    exact q _ (same_new htp _)
  | int z =>
    cases hy
    refine ⟨_, rfl, (by show 2 ≤ sizeLine; decide), fun tp htp => ⟨_, .int z, tp, _, rfl, DA.int z, upd_same, k2_i K, _, rfl, iteF ?_⟩⟩
    refine ⟨_, rfl, _, _, _, rfl, .int _, k_is' K, _, rfl, iteF ?_⟩
    refine ⟨_, rfl, rfl, _, rfl, iteF ?_⟩
    refine ⟨_, rfl, _, _, _, rfl, .int _, kit_int K, _, rfl, iteT ⟨_, rfl, _, _, _, rfl, .int _, kit_int_bool K, _, rfl, _, rfl, iteT ⟨_, rfl, _, rfl, rfl, ?_⟩⟩⟩
    rw [decide_eq_true rfl]
    exact q _ (same_new htp _)
  | non =>
    cases hy
    refine ⟨_, rfl, (by show 2 ≤ sizeLine; decide), fun tp htp => ⟨_, .none, tp, _, rfl, DA.non, upd_same, k2_n K, _, rfl, iteF ?_⟩⟩
    refine ⟨_, rfl, _, _, _, rfl, .non, k_ns K, _, rfl, iteF ?_⟩
    refine ⟨_, rfl, rfl, _, rfl, iteT ?_⟩
    exact ⟨_, rfl, rfl, q _ (same_new htp _)⟩
  | lst h t => rw [dDep] at hd; omega
  | tup h t => rw [dDep] at hd; omega
theorem ok_lsameS {f : Addr} {fd : FuncData} (F : Fun K "_law_same" "_law_same" s_lsame f fd) (T : Txt0 mg K w C aN aC aF aG) {k n : Nat} (LSA : Cal P w K mg base "_law_same" ["_law_found", "_law_due"] k (spSame n)) : FnOk P w K mg base CX0 (k + 1) f fd ["_law_found", "_law_due"] (spSame (n + 1)) := by
  refine F.ok sc_lsame (fun vs H Q E h => ?_) (fun cdv A outer s H vs Q E hr h => ?_)
  · obtain ⟨x, y, d, rfl, _⟩ := h
    rfl
  obtain ⟨x, y, d, rfl, hx, hy, hd, hw, q⟩ := h
  refine ⟨_, (pss_cons (ps_if (pt_val (pe_callB call_isi2 rfl T.T.b_isinstance PyProof.Rows.boot_isinstance (pa_cons (pv 1) (pa_cons (pe_tup (pa_cons (pe_bltn (v := .ty "list") rfl T.T.b_list PyProof.Rows.boot_list rfl) (pa_cons (pe_bltn (v := .ty "tuple") rfl T.T.b_tuple PyProof.Rows.boot_tuple rfl) pa_nil))) pa_nil))))
      (pss_cons (ps_if (PW.pt (pw_or (pt_cmpR op_ne (pe_callB (r := rIsi K "list") call_isi rfl T.T.b_isinstance PyProof.Rows.boot_isinstance (pa_cons (pv 0) (pa_cons (pe_bltn (v := .ty "list") rfl T.T.b_list PyProof.Rows.boot_list rfl) pa_nil))) (pe_callB (r := rIsi K "list") call_isi rfl T.T.b_isinstance PyProof.Rows.boot_isinstance (pa_cons (pv 1) (pa_cons (pe_bltn (v := .ty "list") rfl T.T.b_list PyProof.Rows.boot_list rfl) pa_nil))) (nomark _)) (pw_or1 (pt_not (pt_val (pe_callB call_isi2 rfl T.T.b_isinstance PyProof.Rows.boot_isinstance (pa_cons (pv 0) (pa_cons (pe_tup (pa_cons (pe_bltn (v := .ty "list") rfl T.T.b_list PyProof.Rows.boot_list rfl) (pa_cons (pe_bltn (v := .ty "tuple") rfl T.T.b_tuple PyProof.Rows.boot_tuple rfl) pa_nil))) pa_nil))))))))
      (pss_one (ps_ret pe_bl)) pss_nil)
    (pss_one (ps_ret (pe_and (pe_cmpR op_eq (pe_callB call_len_seq rfl T.T.b_len PySem.boot_len (pa_cons (pv 0) pa_nil)) (pe_callB call_len_seq rfl T.T.b_len PySem.boot_len (pa_cons (pv 1) pa_nil)) (nomark _)) (pe_one (pe_callB (call_allB rfl) rfl T.T.b_all PyProof.Rows.boot_all (pa_cons (pe_lc [none, none] ["_law_one", "_law_other"] rfl cap2 (pi_zip rfl T.T.b_zip (pa_cons (pv 0) (pa_cons (pv 1) pa_nil))) (fun _ _ _ _ _ _ => (pg_tupK (K := K) rfl (n := 2) rfl (pgs_cons (pg_name (i := 0) (by decide +kernel : (["_law_one", "_law_other"] : List Str).Nodup) rfl (Or.inl rfl)) (pgs_cons (pg_name (i := 1) (by decide +kernel : (["_law_one", "_law_other"] : List Str).Nodup) rfl (Or.inl rfl)) pgs_nil)))) (fun _ _ _ _ _ _ => pifs_nil) (fun _ _ _ _ _ _ => (pe_cal LSA hr rfl (pa_cons (pv 0) (pa_cons (pv 1) pa_nil)) (Nat.le_refl _)))) pa_nil))))))) pss_nil)
    (pss_cons (ps_if (pt_val (pe_callB (r := rIsi K "str") call_isi rfl T.T.b_isinstance PyProof.Rows.boot_isinstance (pa_cons (pv 1) (pa_cons (pe_bltn (v := .ty "str") rfl T.T.b_str PyProof.Rows.boot_str rfl) pa_nil))))
      (pss_one (ps_ret (pe_and (pe_callB (r := rIsi K "str") call_isi rfl T.T.b_isinstance PyProof.Rows.boot_isinstance (pa_cons (pv 0) (pa_cons (pe_bltn (v := .ty "str") rfl T.T.b_str PyProof.Rows.boot_str rfl) pa_nil))) (pe_one (pe_cmpR op_eq (pv 0) (pv 1) (nomark _)))))) pss_nil)
    (pss_cons (ps_if (pt_cmpR op_isN (pv 1) pe_non (nomark _))
      (pss_one (ps_ret (pe_cmpR op_isN (pv 0) pe_non (nomark _)))) pss_nil)
    (pss_one (ps_ret (pe_and (pe_callB (r := rIsi K "int") call_isi rfl T.T.b_isinstance PyProof.Rows.boot_isinstance (pa_cons (pv 0) (pa_cons (pe_bltn (v := .ty "int") rfl T.T.b_int PyProof.Rows.boot_int rfl) pa_nil))) (pe_and (pe_not (pe_callB (r := rIsi K "bool") call_isi rfl T.T.b_isinstance PyProof.Rows.boot_isinstance (pa_cons (pv 0) (pa_cons (pe_bltn (v := .ty "bool") rfl T.T.b_bool PyProof.Rows.boot_bool rfl) pa_nil)))) (pe_one (pe_cmpR op_eq (pv 0) (pv 1) (nomark _)))))))))), ?_⟩
  cases hx with
  | str z =>
    cases hy
    refine ⟨_, rfl, (by show 2 ≤ sizeLine; decide), fun tp htp => ⟨_, .str z, tp, _, rfl, DA.str z, upd_same, k2_s K, _, rfl, iteF ?_⟩⟩
    refine ⟨_, rfl, _, _, _, rfl, .str _, k_ss K, _, rfl, iteT ?_⟩
    refine ⟨_, rfl, _, _, _, rfl, .str _, k_ss K, _, rfl, iteT ⟨_, rfl, _, rfl, rfl, ?_⟩⟩
    rw [decide_eq_true rfl]
    exact q _ (same_new htp _)
  | int z =>
    cases hy
    refine ⟨_, rfl, (by show 2 ≤ sizeLine; decide), fun tp htp => ⟨_, .int z, tp, _, rfl, DA.int z, upd_same, k2_i K, _, rfl, iteF ?_⟩⟩
    refine ⟨_, rfl, _, _, _, rfl, .int _, k_is' K, _, rfl, iteF ?_⟩
    refine ⟨_, rfl, rfl, _, rfl, iteF ?_⟩
    refine ⟨_, rfl, _, _, _, rfl, .int _, kit_int K, _, rfl, iteT ⟨_, rfl, _, _, _, rfl, .int _, kit_int_bool K, _, rfl, _, rfl, iteT ⟨_, rfl, _, rfl, rfl, ?_⟩⟩⟩
    rw [decide_eq_true rfl]
    exact q _ (same_new htp _)
  | non =>
    cases hy
    refine ⟨_, rfl, (by show 2 ≤ sizeLine; decide), fun tp htp => ⟨_, .none, tp, _, rfl, DA.non, upd_same, k2_n K, _, rfl, iteF ?_⟩⟩
    refine ⟨_, rfl, _, _, _, rfl, .non, k_ns K, _, rfl, iteF ?_⟩
    refine ⟨_, rfl, rfl, _, rfl, iteT ?_⟩
    exact ⟨_, rfl, rfl, q _ (same_new htp _)⟩
  | @lst a xs ds hxs dxs =>
    cases hy with
    | @lst b ys _ hys dys =>
    have lx := dxs.len
    have ly := dys.len
    refine ⟨_, rfl, (by show 2 ≤ sizeLine; decide), fun tp htp => ⟨_, _, tp, _, rfl, DA.lst ((same_new htp _) _ _ hys) (dys.same (same_new htp _)), upd_same, k2_l K, _, rfl, iteT ?_⟩⟩
    have s1 := same_new htp (.tup [.ty "list", .ty "tuple"])
    have hxs1 := s1 _ _ hxs
    have hys1 := s1 _ _ hys
    refine ⟨_, rfl, _, _, _, rfl, .lst hxs1, kit_list K, _, rfl, _, _, _, rfl, .lst hys1, kit_list K, rfl, _, rfl, iteF ?_⟩
    refine ⟨_, rfl, (by show 2 ≤ sizeLine; decide), fun tp2 htp2 => ⟨_, _, tp2, _, rfl, DA.lst ((same_new htp2 _) _ _ hxs1) ((dxs.same s1).same (same_new htp2 _)), upd_same, k2_l K, _, rfl, iteF ?_⟩⟩
    have s2 := same_new htp2 (.tup [.ty "list", .ty "tuple"])
    have ss := s1.trans s2
    have hxs2 := s2 _ _ hxs1
    have hys2 := s2 _ _ hys1
    refine ⟨_, rfl, a, xs, rfl, .inl (SqL.of hxs2), _, rfl, b, ys, rfl, .inl (SqL.of hys2), rfl, _, rfl, ?_⟩
    have elen : xs.length = ys.length := by omega
    rw [show decide (V.int (xs.length : Int) = V.int (ys.length : Int)) = true from decide_eq_true (by rw [elen])]
    refine iteT ⟨_, rfl, _, rfl, false, a, b, xs, ys, rfl, SqL.of hxs2, SqL.of hys2, ?_⟩
    have dxs2 := dxs.same ss
    have dys2 := dys.same ss
    have hsz : sizeLine = 16777216 := sizeLine_eq
    refine lc_zip (K := K) (t := false) (xs := xs) (ys := ys) elen (fun i σ zs Hx => Same _ Hx ∧ zs = (List.replicate i true).map V.bl ∧ ∃ v1 v2 : Option V, σ = [v1, v2]) ⟨Same.refl _, rfl, _, _, rfl⟩ (fun i σ zs Hx hi hh => ⟨SqL.of (hh.1 _ _ hxs2), SqL.of (hh.1 _ _ hys2)⟩) (fun i σ zs Hx hi hh => ?_) ?_ ?_
    · rw [hh.2.1, List.length_map, List.length_replicate]
      rw [dWid] at hw
      omega
    · rintro i x1 y1 σ zs Hx T1 ex ey ⟨sx, rfl, v1, v2, rfl⟩ hT1
      obtain ⟨d1, ed1, da1⟩ := dxs2.get ex
      obtain ⟨d2, ed2, da2⟩ := dys2.get ey
      rw [ed1] at ed2
      cases ed2
      have s3 := sx.trans (same_new hT1 (.tup [x1, y1]))
      refine ⟨T1, [x1, y1], rfl, SqT.of upd_same, rfl, x1, [y1], rfl, y1, [], rfl, rfl, _, rfl, _, rfl, x1, y1, d1, rfl, da1.same s3, da2.same s3, ?_, ?_, fun H' s' => ⟨s3.trans s', ?_, _, _, rfl⟩⟩
      · have := dDep_at ed1
        rw [dDep] at hd
        omega
      · have := dWid_at ed1
        rw [dWid] at hw
        omega
      · rw [show List.replicate (i + 1) true = List.replicate i true ++ [true] from List.replicate_succ', List.map_append]
        rfl
    · rintro σ zs Hx ⟨sx, rfl, v1, v2, rfl⟩ D hD
      refine ⟨D, List.replicate xs.length true, rfl, SqL.of upd_same, ?_⟩
      rw [show (List.replicate xs.length true).all id = true by simp]
      exact q _ (ss.trans (sx.trans (same_new hD _)))
  | @tup a xs ds hxs dxs =>
    cases hy with
    | @tup b ys _ hys dys =>
    have lx := dxs.len
    have ly := dys.len
    refine ⟨_, rfl, (by show 2 ≤ sizeLine; decide), fun tp htp => ⟨_, _, tp, _, rfl, DA.tup ((same_new htp _) _ _ hys) (dys.same (same_new htp _)), upd_same, k2_t K, _, rfl, iteT ?_⟩⟩
    have s1 := same_new htp (.tup [.ty "list", .ty "tuple"])
    have hxs1 := s1 _ _ hxs
    have hys1 := s1 _ _ hys
    refine ⟨_, rfl, _, _, _, rfl, .tup hxs1, k_tl K, _, rfl, _, _, _, rfl, .tup hys1, k_tl K, rfl, _, rfl, iteF ?_⟩
    refine ⟨_, rfl, (by show 2 ≤ sizeLine; decide), fun tp2 htp2 => ⟨_, _, tp2, _, rfl, DA.tup ((same_new htp2 _) _ _ hxs1) ((dxs.same s1).same (same_new htp2 _)), upd_same, k2_t K, _, rfl, iteF ?_⟩⟩
    have s2 := same_new htp2 (.tup [.ty "list", .ty "tuple"])
    have ss := s1.trans s2
    have hxs2 := s2 _ _ hxs1
    have hys2 := s2 _ _ hys1
    refine ⟨_, rfl, a, xs, rfl, .inr (SqT.of hxs2), _, rfl, b, ys, rfl, .inr (SqT.of hys2), rfl, _, rfl, ?_⟩
    have elen : xs.length = ys.length := by omega
    rw [show decide (V.int (xs.length : Int) = V.int (ys.length : Int)) = true from decide_eq_true (by rw [elen])]
    refine iteT ⟨_, rfl, _, rfl, true, a, b, xs, ys, rfl, SqT.of hxs2, SqT.of hys2, ?_⟩
    have dxs2 := dxs.same ss
    have dys2 := dys.same ss
    have hsz : sizeLine = 16777216 := sizeLine_eq
    refine lc_zip (K := K) (t := true) (xs := xs) (ys := ys) elen (fun i σ zs Hx => Same _ Hx ∧ zs = (List.replicate i true).map V.bl ∧ ∃ v1 v2 : Option V, σ = [v1, v2]) ⟨Same.refl _, rfl, _, _, rfl⟩ (fun i σ zs Hx hi hh => ⟨SqT.of (hh.1 _ _ hxs2), SqT.of (hh.1 _ _ hys2)⟩) (fun i σ zs Hx hi hh => ?_) ?_ ?_
    · rw [hh.2.1, List.length_map, List.length_replicate]
      rw [dWid] at hw
      omega
    · rintro i x1 y1 σ zs Hx T1 ex ey ⟨sx, rfl, v1, v2, rfl⟩ hT1
      obtain ⟨d1, ed1, da1⟩ := dxs2.get ex
      obtain ⟨d2, ed2, da2⟩ := dys2.get ey
      rw [ed1] at ed2
      cases ed2
      have s3 := sx.trans (same_new hT1 (.tup [x1, y1]))
      refine ⟨T1, [x1, y1], rfl, SqT.of upd_same, rfl, x1, [y1], rfl, y1, [], rfl, rfl, _, rfl, _, rfl, x1, y1, d1, rfl, da1.same s3, da2.same s3, ?_, ?_, fun H' s' => ⟨s3.trans s', ?_, _, _, rfl⟩⟩
      · have := dDep_at ed1
        rw [dDep] at hd
        omega
      · have := dWid_at ed1
        rw [dWid] at hw
        omega
      · rw [show List.replicate (i + 1) true = List.replicate i true ++ [true] from List.replicate_succ', List.map_append]
        rfl
    · rintro σ zs Hx ⟨sx, rfl, v1, v2, rfl⟩ D hD
      refine ⟨D, List.replicate xs.length true, rfl, SqL.of upd_same, ?_⟩
      rw [show (List.replicate xs.length true).all id = true by simp]
      exact q _ (ss.trans (sx.trans (same_new hD _)))
end
end K32
set_option Elab.async false
set_option linter.all false
set_option maxRecDepth 100000
set_option maxHeartbeats 4000000
namespace K32
open PySem L2
noncomputable def rtL : Rt := fun df dg l => .dK [(Sum.inr "folders", .ref df), (Sum.inr "files", .ref dg), (Sum.inr "last", .int l)]
theorem nrL : ∀ a b n, Still (rtL a b n) = false := fun _ _ _ => rfl
theorem n1 : ¬ ("folders" : Str) = "files" := by decide +kernel
theorem n2 : ¬ ("folders" : Str) = "last" := by decide +kernel
theorem n3 : ¬ ("files" : Str) = "last" := by decide +kernel
section
variable {H : Hp} {m df dg : Addr} {l : Int}
theorem mF (h : H m = some (rtL df dg l)) : DGet H m (.str "folders") (some (.ref df)) := by
  have := DGet.k (k := Sum.inr "folders") h
  rw [valV_pos rfl] at this
  exact this
theorem mG (h : H m = some (rtL df dg l)) : DGet H m (.str "files") (some (.ref dg)) := by
  have := DGet.k (k := Sum.inr "files") h
  rw [valV_neg (fun z => n1 (Sum.inr.inj z)), valV_pos rfl] at this
  exact this
theorem mL (h : H m = some (rtL df dg l)) : DGet H m (.str "last") (some (.int l)) := by
  have := DGet.k (k := Sum.inr "last") h
  rw [valV_neg (fun z => n2 (Sum.inr.inj z)), valV_neg (fun z => n3 (Sum.inr.inj z)), valV_pos rfl] at this
  exact this
theorem mP (h : H m = some (rtL df dg l)) (k : Int) : DPut H m (.str "last") (.int k) (upd H m (rtL df dg k)) := by
  have := DPut.k (k := Sum.inr "last") (v := .int k) h (by show 3 < sizeLine; decide)
  have e : putK ([((Sum.inr "folders" : Key), V.ref df), (Sum.inr "files", .ref dg), (Sum.inr "last", .int l)] : List (Key × V)) (Sum.inr "last") (.int k) = ([(Sum.inr "folders", .ref df), (Sum.inr "files", .ref dg), (Sum.inr "last", .int k)] : List (Key × V)) := by
    unfold putK
    have a1 : ¬ (Sum.inr ("folders" : Str) : Key) = (Sum.inr ("last" : Str) : Key) := fun z => n2 (Sum.inr.inj z)
    have a2 : ¬ (Sum.inr ("files" : Str) : Key) = (Sum.inr ("last" : Str) : Key) := fun z => n3 (Sum.inr.inj z)
    simp [a1, a2]
  rw [e] at this
  exact this
end
theorem addA_keys (fa : List (Int × Addr × Ent)) (w : Int) (x : Str) (n : Int) : (addA fa w x n).map (·.1) = fa.map (·.1) := by
  unfold addA
  rw [List.map_map]
  apply List.map_congr_left
  intro p _
  show (if p.1 = w then (p.1, p.2.1, p.2.2 ++ [(x, n)]) else p).1 = p.1
  split <;> rfl
theorem addE_snoc (fo : List (Int × Ent)) (w : Int) (x : Str) (n : Int) (h : n ≠ w) : addE (fo ++ [(n, [])]) w x n = addE fo w x n ++ [(n, [])] := by
  unfold addE
  rw [List.map_append]
  simp [h]
noncomputable def newS (S : Sh) (w : Int) (x : Str) : Option Str → Sh
  | some c => S.file w x c
  | none => S.fold w x
theorem mkd_some {S : Sh} {w : Int} {x : Str} {c : Option Str} {es : Ent} (h : lkp S.fo w = some es) : S.mkd w x c = if (lkp es x).isSome then (S, .no "there") else (newS S w x c, .made (S.last + 1)) := by
  unfold Sh.mkd
  rw [h]
  cases c <;> rfl
noncomputable def mkR (S : Sh) (w : Int) (x : Str) (c : Option Str) : Sh × Ans := if nameB x then S.mkd w x c else (S, .no "name")
noncomputable def spLmade : Sp := fun vs H Q _ => ∃ (m : Addr) (fp : List Addr) (S : Sh) (w : Int) (x : Str) (c : Option Str), vs = [.ref m, .int w, .str x, oV c] ∧ ShE rtL H m fp S ∧ Good S ∧ x.length ≤ 1000000 ∧
  ∀ u H' fp', ShE rtL H' m fp' (mkR S w x c).1 → Aft H fp H' fp' → H u = none → H' u = some (.tup (mkR S w x c).2.v) → Q (.ref u) H'
noncomputable def spLput : Sp := fun vs H Q _ => ∃ (m : Addr) (fp : List Addr) (S : Sh) (n v : Int) (c : Str), vs = [.ref m, .int n, .int v, .str c] ∧ ShE rtL H m fp S ∧ Good S ∧
  ∀ u H' fp', ShE rtL H' m fp' (S.pt n v c).1 → Aft H fp H' fp' → H u = none → H' u = some (.tup (S.pt n v c).2.v) → Q (.ref u) H'
inductive GD where
  | pt (b : Bool) (n v : Int) (c : Str)
  | fold (w : Int) (a : Str)
  | make (w : Int) (a c : Str)
noncomputable def ptW (b : Bool) : Str := if b then "shut" else "put"
noncomputable def gV : GD → List V
  | .pt b n v c => [.str (ptW b), .int n, .int v, .str c]
  | .fold w a => [.str "fold", .int w, .str a]
  | .make w a c => [.str "make", .int w, .str a, .str c]
noncomputable def GD.deed : GD → Deed
  | .pt _ n v c => .put n v c
  | .fold w a => .fold w a
  | .make w a c => .make w a c
noncomputable def gOk : GD → Prop
  | .pt _ _ _ c => contB c = true ∧ c.length ≤ 1000
  | .fold _ a => a.length ≤ 1000
  | .make _ a c => a.length ≤ 1000 ∧ contB c = true ∧ c.length ≤ 1000
noncomputable def spLdone : Sp := fun vs H Q _ => ∃ (m t : Addr) (fp : List Addr) (S : Sh) (d : GD), vs = [.ref m, .ref t] ∧ ShE rtL H m fp S ∧ Good S ∧ H t = some (.tup (gV d)) ∧ gOk d ∧
  ∀ u H' fp', ShE rtL H' m fp' (S.do nameB d.deed).1 → Aft H fp H' fp' → H u = none → H' u = some (.tup (S.do nameB d.deed).2.v) → Q (.ref u) H'
theorem gk_at (b : Bool) : atI [V.str "gone", V.str "kind"] (if b then 1 else 0) = some (.str (if b then "kind" else "gone")) := by cases b <;> rfl
section
variable {P : Program} {w : World} {K : PySem.W.Frag} {mg : Str → Option Value} {base : Heap} {C aN aC aF aG : Addr}
theorem sc_lmade : FnScope ["_law_kept", "_law_where", "_law_name_here", "_law_thing"] ["_law_kept", "_law_where", "_law_name_here", "_law_thing"] (defScope s_lmade) := ⟨rfl, rfl, rfl, by decide +kernel, rfl, by decide +kernel, by decide +kernel⟩
theorem ok_lmade {f : Addr} {fd : FuncData} (F : Fun K "_law_made" "_law_made" s_lmade f fd) (T : Txt0 mg K w C aN aC aF aG) (LIN : Cal P w K mg base "_law_is_name" ["_law_name_here"] 1 (spB nameB)) : FnOk P w K mg base CX0 2 f fd ["_law_kept", "_law_where", "_law_name_here", "_law_thing"] spLmade := by
  refine F.ok sc_lmade (fun vs H Q E h => ?_) (fun cdv A outer s H vs Q E hr h => ?_)
  · obtain ⟨m, fp, S, w', x, c, rfl, _⟩ := h
    rfl
  obtain ⟨m, fp, S, w', x, c, rfl, A0, g, hx, q⟩ := h
  refine ⟨_, (pss_cons (ps_if (pt_not (pt_val (pe_cal LIN hr rfl (pa_cons (pv 2) pa_nil))))
      (pss_one (ps_ret (pe_tup (pa_cons pe_str (pa_cons pe_str pa_nil))))) pss_nil)
    (pss_cons (ps_if (pt_cmp (pc_dnotin (hu_of hr) (pv 1) (pe_dget (hu_of hr) (pv 0) pe_str (fun _ _ => rfl))) rfl)
      (pss_one (ps_ret (pe_tup (pa_cons pe_str (pa_cons (pe_ix ix_list (pe_lst (pa_cons pe_str (pa_cons pe_str pa_nil))) (pe_callTy call_int1 rfl T.T.b_int PyProof.Rows.boot_int (pa_cons (pe_cmp (pc_din (hu_of hr) (pv 1) (pe_dget (hu_of hr) (pv 0) pe_str (fun _ _ => rfl))) rfl) pa_nil)) (fun _ _ => rfl)) pa_nil))))) pss_nil)
    (pss_cons (ps_if (pt_cmp (pc_din (hu_of hr) (pv 2) (pe_dget (hu_of hr) (pe_dget (hu_of hr) (pv 0) pe_str (fun _ _ => rfl)) (pv 1) (fun _ _ => rfl))) rfl)
      (pss_one (ps_ret (pe_tup (pa_cons pe_str (pa_cons pe_str pa_nil))))) pss_nil)
    (pss_cons (ps_dput (hu_of hr) (pv 0) pe_str (pe_op op_add (pe_dget (hu_of hr) (pv 0) pe_str (fun _ _ => rfl)) pe_int) rfl)
    (pss_cons (ps_dput (hu_of hr) (pe_dget (hu_of hr) (pe_dget (hu_of hr) (pv 0) pe_str (fun _ _ => rfl)) (pv 1) (fun _ _ => rfl)) (pv 2) (pe_dget (hu_of hr) (pv 0) pe_str (fun _ _ => rfl)) rfl)
    (pss_cons (ps_if (pt_cmpR op_isN (pv 3) pe_non (nomark _))
      (pss_one (ps_dput (hu_of hr) (pe_dget (hu_of hr) (pv 0) pe_str (fun _ _ => rfl)) (pe_dget (hu_of hr) (pv 0) pe_str (fun _ _ => rfl)) pe_dnewK rfl)) (pss_one (ps_dput (hu_of hr) (pe_dget (hu_of hr) (pv 0) pe_str (fun _ _ => rfl)) (pe_dget (hu_of hr) (pv 0) pe_str (fun _ _ => rfl)) (pe_tup (pa_cons pe_int (pa_cons (pv 3) pa_nil))) rfl)))
    (pss_one (ps_ret (pe_tup (pa_cons pe_str (pa_cons (pe_dget (hu_of hr) (pv 0) pe_str (fun _ _ => rfl)) pa_nil))))))))))), ?_⟩
  obtain ⟨df, dg, fa, ft, A0⟩ := A0
  have hs : sizeLine = 16777216 := sizeLine_eq
  have lf := A0.foldLen g
  have lg := A0.fileLen g
  refine ⟨_, rfl, x, rfl, hx, fun H1 s1 => ⟨_, rfl, ?_⟩⟩
  have A1 := A0.same s1
  have af1 : Aft H fp H1 fp := (Aft.refl H fp).same s1
  refine ite2 (fun e => ?_) (fun e => ?_)
  · have e' : nameB x = false := by simpa using e
    have er : mkR S w' x c = (S, .no "name") := by unfold mkR; rw [e']; rfl
    rw [er] at q
    exact ⟨(by show 2 ≤ sizeLine; decide), fun u hu => q u _ fp ⟨_, _, _, _, A1.same (same_new hu _)⟩ (af1.same (same_new hu _)) (Same.free s1 hu) upd_same⟩
  have e' : nameB x = true := by simpa using e
  have er : mkR S w' x c = S.mkd w' x c := by unfold mkR; rw [e']; rfl
  rw [er] at q
  refine ⟨_, rfl, _, rfl, m, .ref df, rfl, mF A1.root, df, _, rfl, A1.tab.getF w', _, rfl, ?_⟩
  rw [some_map]
  have fo_eq : lkp S.fo w' = (lkp fa w').map (·.2) := by rw [A0.sfo, lkp_fo]
  have fi_eq : lkp S.fi w' = (lkp ft w').map (·.2) := by rw [A0.sfi, lkp_fi]
  refine ite2 (fun e => ?_) (fun e => ?_)
  · have ef : lkp fa w' = none := by
      cases z : lkp fa w' with
      | none => rfl
      | some y => rw [z] at e; cases e
    have em : S.mkd w' x c = (S, .no (if (lkp ft w').isSome then "kind" else "gone")) := by
      unfold Sh.mkd
      rw [fo_eq, ef, fi_eq, some_map]
      rfl
    rw [em] at q
    refine ⟨(by show 2 ≤ sizeLine; decide), fun l hl => ?_⟩
    have A2 := A1.same (same_new hl (.lst [.str "gone", .str "kind"]))
    refine ⟨_, rfl, _, rfl, m, .ref dg, rfl, mG A2.root, dg, _, rfl, A2.tab.getG w', .inr ⟨_, rfl, l, _, _, _, rfl, rfl, SqL.of upd_same, gk_at _, ?_⟩⟩
    rw [some_map]
    have s2 := s1.trans (same_new hl (.lst [.str "gone", .str "kind"]))
    exact ⟨(by show 2 ≤ sizeLine; decide), fun u hu => q u _ fp ⟨_, _, _, _, A2.same (same_new hu _)⟩ ((af1.same (same_new hl _)).same (same_new hu _)) (Same.free s2 hu) upd_same⟩
  obtain ⟨a, es, e1⟩ : ∃ a es, lkp fa w' = some (a, es) := by
    cases z : lkp fa w' with
    | none => rw [z] at e; exact absurd rfl e
    | some y => exact ⟨y.1, y.2, rfl⟩
  have le := A0.entLen g e1
  have em := mkd_some (S := S) (x := x) (c := c) (show lkp S.fo w' = some es by rw [fo_eq, e1]; rfl)
  refine ⟨_, rfl, _, rfl, m, .ref df, rfl, mF A1.root, _, rfl, df, .ref a, rfl, (by have := A1.tab.getF w'; rw [e1] at this; exact this), a, _, rfl, A1.tab.getE e1 x, _, rfl, ?_⟩
  rw [some_map]
  refine ite2 (fun e => ?_) (fun e => ?_)
  · rw [em, if_pos e] at q
    exact ⟨(by show 2 ≤ sizeLine; decide), fun u hu => q u _ fp ⟨_, _, _, _, A1.same (same_new hu _)⟩ (af1.same (same_new hu _)) (Same.free s1 hu) upd_same⟩
  rw [em, if_neg e] at q
  have e2 : lkp es x = none := by
    cases z : lkp es x with
    | none => rfl
    | some y => rw [z] at e; exact absurd rfl e
  -- the number
  refine ⟨_, rfl, m, .int S.last, rfl, mL A1.root, _, _, rfl, rfl, _, rfl, m, _, rfl, mP A1.root (S.last + 1), ?_⟩
  have A2 := A1.setRoot nrL (S.last + 1)
  have k2 : Kp fp H (upd H1 m (rtL df dg (S.last + 1))) := af1.kp.put A0.memL
  -- the entry
  refine ⟨_, rfl, m, .int (S.last + 1), rfl, mL A2.root, _, rfl, m, .ref df, rfl, mF A2.root, _, rfl, df, .ref a, rfl, (by have := A2.tab.getF w'; rw [e1] at this; exact this), _, rfl, a, _, rfl, DPut.k (k := Sum.inr x) (A2.tab.he _ (lkp_mem e1)) (by rw [List.length_map]; show es.length < _; omega), ?_⟩
  have ep : putK (es.map eKV) (Sum.inr x) (.int (S.last + 1)) = (es ++ [(x, S.last + 1)]).map eKV := by
    rw [putK_new _ (by rw [val_str, e2]; rfl), List.map_append]
    rfl
  rw [show (((w', a, es) : Int × Addr × Ent).2.2) = es from rfl, ep]
  have A3 := A2.addEntry g.kf e1 x (S.last + 1)
  have k3 := k2.put (o := .dK ((es ++ [(x, S.last + 1)]).map eKV)) (A0.memE e1)
  cases c with
  | none =>
    refine ⟨_, rfl, rfl, _, rfl, iteT ?_⟩
    refine fun u hu => ?_
    have A4 := A3.same (same_new hu (.dK []))
    have k4 := k3.new (o := .dK []) hu
    have huf : u ∉ fp := fun z => by
      obtain ⟨o, ho, _⟩ := A3.there z
      rw [ho] at hu; cases hu
    have nf : lkp (addA fa w' x (S.last + 1)) (S.last + 1) = none := lkp_none.mpr (by rw [addA_keys]; exact lkp_none.mp (A0.newF g))
    refine ⟨_, rfl, m, .ref df, rfl, mF A4.root, _, rfl, m, .int (S.last + 1), rfl, mL A4.root, df, _, rfl, DPut.k (k := Sum.inl (S.last + 1)) A4.tab.hf (by rw [List.length_map]; unfold addA; rw [List.length_map]; omega), ?_⟩
    rw [kv_snoc (fun q : Addr × Ent => V.ref q.1) (addA fa w' x (S.last + 1)) (S.last + 1) (u, ([] : Ent)) nf]
    have A5 := A4.addFolder nrL (n := S.last + 1) upd_same huf
    have k5 := k4.put (o := .dK ((addA fa w' x (S.last + 1) ++ [(S.last + 1, u, ([] : Ent))]).map fun p : Int × Addr × Ent => ((Sum.inl p.1 : Key), V.ref p.2.1))) A0.memF
    have hne : S.last + 1 ≠ w' := fun z => by rw [← z, A0.newF g] at e1; cases e1
    have eS : (⟨addE S.fo w' x (S.last + 1) ++ [(S.last + 1, [])], S.fi, S.last + 1⟩ : Sh) = S.fold w' x := by unfold Sh.fold; rw [addE_snoc _ _ _ _ hne]
    refine ⟨_, rfl, m, .int (S.last + 1), rfl, mL A5.root, (by show 2 ≤ sizeLine; decide), fun v hv => ?_⟩
    have hu0 : u ∈ fp ∨ H u = none := by
      by_cases z : u ∈ fp
      · exact .inl z
      · exact .inr (k3.free z hu)
    have af : Aft H fp _ (fp ++ [u]) := ⟨k5, fun b hb => by
      rcases List.mem_append.mp hb with hb | hb
      · exact .inl hb
      · rw [List.mem_singleton.mp hb]; exact hu0, fun b hb => List.mem_append_left _ hb⟩
    rw [eS] at A5
    have A5' : ShE rtL _ m (fp ++ [u]) (S.fold w' x) := ⟨_, _, _, _, A5⟩
    exact q v _ (fp ++ [u]) (A5'.same (same_new hv _)) (af.same (same_new hv _)) (af.fresh A5' hv) upd_same
  | some c =>
    refine ⟨_, rfl, rfl, _, rfl, iteF ?_⟩
    refine ⟨_, rfl, (by show 2 ≤ sizeLine; decide), fun u hu => ?_⟩
    have A4 := A3.same (same_new hu (.tup [.int 0, .str c]))
    have k4 := k3.new (o := .tup [.int 0, .str c]) hu
    refine ⟨_, rfl, m, .ref dg, rfl, mG A4.root, _, rfl, m, .int (S.last + 1), rfl, mL A4.root, dg, _, rfl, DPut.k (k := Sum.inl (S.last + 1)) A4.tab.hg (by rw [List.length_map]; omega), ?_⟩
    rw [show putK (ft.map fun p => ((Sum.inl p.1 : Key), V.ref p.2.1)) (Sum.inl (S.last + 1)) (.ref u) = _ from kv_snoc (fun q : Addr × Int × Str => V.ref q.1) ft (S.last + 1) (u, 0, c) (A0.newG g)]
    have A5 := A4.addFile (c := c) (v := 0) (A0.newG g) upd_same
    have k5 := k4.put (o := .dK ((ft ++ [(S.last + 1, u, 0, c)]).map fun p : Int × Addr × Int × Str => ((Sum.inl p.1 : Key), V.ref p.2.1))) A0.memG
    refine ⟨_, rfl, m, .int (S.last + 1), rfl, mL A5.root, (by show 2 ≤ sizeLine; decide), fun v hv => ?_⟩
    have af : Aft H fp _ fp := ⟨k5, fun b hb => .inl hb, fun b hb => hb⟩
    have A5' : ShE rtL _ m fp (S.file w' x c) := ⟨_, _, _, _, A5⟩
    exact q v _ fp (A5'.same (same_new hv _)) (af.same (same_new hv _)) (af.fresh A5' hv) upd_same
theorem sc_lput : FnScope ["_law_kept", "_law_file", "_law_version", "_law_content_here"] ["_law_kept", "_law_file", "_law_version", "_law_content_here"] (defScope s_lput) := ⟨rfl, rfl, rfl, by decide +kernel, rfl, by decide +kernel, by decide +kernel⟩
theorem ok_lput {f : Addr} {fd : FuncData} (F : Fun K "_law_put" "_law_put" s_lput f fd) (T : Txt0 mg K w C aN aC aF aG) : FnOk P w K mg base CX0 1 f fd ["_law_kept", "_law_file", "_law_version", "_law_content_here"] spLput := by
  refine F.ok sc_lput (fun vs H Q E h => ?_) (fun cdv A outer s H vs Q E hr h => ?_)
  · obtain ⟨m, fp, S, n, v, c, rfl, _⟩ := h
    rfl
  obtain ⟨m, fp, S, n, v, c, rfl, A0, g, q⟩ := h
  refine ⟨_, (pss_cons (ps_if (pt_cmp (pc_dnotin (hu_of hr) (pv 1) (pe_dget (hu_of hr) (pv 0) pe_str (fun _ _ => rfl))) rfl)
      (pss_one (ps_ret (pe_tup (pa_cons pe_str (pa_cons (pe_ix ix_list (pe_lst (pa_cons pe_str (pa_cons pe_str pa_nil))) (pe_callTy call_int1 rfl T.T.b_int PyProof.Rows.boot_int (pa_cons (pe_cmp (pc_din (hu_of hr) (pv 1) (pe_dget (hu_of hr) (pv 0) pe_str (fun _ _ => rfl))) rfl) pa_nil)) (fun _ _ => rfl)) pa_nil))))) pss_nil)
    (pss_cons (ps_if (pt_cmpR op_ne (pe_ix ix_tup (pe_dget (hu_of hr) (pe_dget (hu_of hr) (pv 0) pe_str (fun _ _ => rfl)) (pv 1) (fun _ _ => rfl)) pe_int (fun _ _ => rfl)) (pv 2) (nomark _))
      (pss_one (ps_ret (pe_tup (pa_cons pe_str (pa_cons pe_str pa_nil))))) pss_nil)
    (pss_cons (ps_dput (hu_of hr) (pe_dget (hu_of hr) (pv 0) pe_str (fun _ _ => rfl)) (pv 1) (pe_tup (pa_cons (pe_op op_add (pv 2) pe_int) (pa_cons (pv 3) pa_nil))) rfl)
    (pss_one (ps_ret (pe_tup (pa_cons pe_str (pa_cons (pe_op op_add (pv 2) pe_int) pa_nil)))))))), ?_⟩
  obtain ⟨df, dg, fa, ft, A0⟩ := A0
  have hs : sizeLine = 16777216 := sizeLine_eq
  have lg := A0.fileLen g
  have fo_eq : lkp S.fo n = (lkp fa n).map (·.2) := by rw [A0.sfo, lkp_fo]
  have fi_eq : lkp S.fi n = (lkp ft n).map (·.2) := by rw [A0.sfi, lkp_fi]
  refine ⟨_, rfl, _, rfl, m, .ref dg, rfl, mG A0.root, dg, _, rfl, A0.tab.getG n, _, rfl, ?_⟩
  rw [some_map]
  refine ite2 (fun e => ?_) (fun e => ?_)
  · have ef : lkp ft n = none := by
      cases z : lkp ft n with
      | none => rfl
      | some y => rw [z] at e; cases e
    have em : S.pt n v c = (S, .no (if (lkp fa n).isSome then "kind" else "gone")) := by
      unfold Sh.pt
      rw [fi_eq, ef, fo_eq, some_map]
      rfl
    rw [em] at q
    refine ⟨(by show 2 ≤ sizeLine; decide), fun l hl => ?_⟩
    have A2 := A0.same (same_new hl (.lst [.str "gone", .str "kind"]))
    refine ⟨_, rfl, _, rfl, m, .ref df, rfl, mF A2.root, df, _, rfl, A2.tab.getF n, .inr ⟨_, rfl, l, _, _, _, rfl, rfl, SqL.of upd_same, gk_at _, ?_⟩⟩
    rw [some_map]
    exact ⟨(by show 2 ≤ sizeLine; decide), fun u hu => q u _ fp ⟨_, _, _, _, A2.same (same_new hu _)⟩ (((Aft.refl H fp).same (same_new hl _)).same (same_new hu _)) (Same.free (same_new hl _) hu) upd_same⟩
  obtain ⟨a, v', c', e1⟩ : ∃ a v' c', lkp ft n = some (a, v', c') := by
    cases z : lkp ft n with
    | none => rw [z] at e; exact absurd rfl e
    | some y => exact ⟨y.1, y.2.1, y.2.2, rfl⟩
  have em : S.pt n v c = if v' = v then (S.put n (v + 1) c, .put (v + 1)) else (S, .no "stale") := by
    unfold Sh.pt
    rw [fi_eq, e1]
    rfl
  rw [em] at q
  refine ⟨_, rfl, m, .ref dg, rfl, mG A0.root, _, rfl, dg, .ref a, rfl, (by have := A0.tab.getG n; rw [e1] at this; exact this), a, _, _, _, rfl, rfl, SqT.of (A0.tab.ht _ (lkp_mem e1)), rfl, _, rfl, rfl, _, rfl, ?_⟩
  refine ite2 (fun e => ?_) (fun e => ?_)
  · have hne : ¬ v' = v := fun z => by
      subst z
      simp at e
    rw [if_neg hne] at q
    exact ⟨(by show 2 ≤ sizeLine; decide), fun u hu => q u _ fp ⟨_, _, _, _, A0.same (same_new hu _)⟩ ((Aft.refl H fp).same (same_new hu _)) hu upd_same⟩
  have hv : v' = v := by
    have : (!decide (V.int v' = V.int v)) = false := Bool.eq_false_iff.mpr e
    simpa using this
  rw [if_pos hv] at q
  refine ⟨_, rfl, _, _, rfl, rfl, _, rfl, (by show 2 ≤ sizeLine; decide), fun u hu => ?_⟩
  have A2 := A0.same (same_new hu (.tup [.int (v + 1), .str c]))
  refine ⟨_, rfl, m, .ref dg, rfl, mG A2.root, _, rfl, dg, _, rfl, DPut.k (k := Sum.inl n) A2.tab.hg (by rw [List.length_map]; omega), ?_⟩
  rw [show putK (ft.map fun p => ((Sum.inl p.1 : Key), V.ref p.2.1)) (Sum.inl n) (.ref u) = _ from kv_put (fun q : Addr × Int × Str => V.ref q.1) ft n (u, v + 1, c) (by rw [e1]; rfl)]
  have A3 := A2.putFile (n := n) (v := v + 1) (c := c) upd_same
  have af : Aft H fp _ fp := ⟨((Kp.refl fp H).new (o := .tup [.int (v + 1), .str c]) hu).put (o := .dK ((putA ft n (u, v + 1, c)).map fun p : Int × Addr × Int × Str => ((Sum.inl p.1 : Key), V.ref p.2.1))) A0.memG, fun b hb => .inl hb, fun b hb => hb⟩
  have A3' : ShE rtL _ m fp (S.put n (v + 1) c) := ⟨_, _, _, _, A3⟩
  exact ⟨_, rfl, _, _, rfl, rfl, (by show 2 ≤ sizeLine; decide), fun x hx => q x _ fp (A3'.same (same_new hx _)) (af.same (same_new hx _)) (af.fresh A3' hx) upd_same⟩
theorem sc_ldone : FnScope ["_law_kept", "_law_deed_here"] ["_law_kept", "_law_deed_here"] (defScope s_ldone) := ⟨rfl, rfl, rfl, by decide +kernel, rfl, by decide +kernel, by decide +kernel⟩
theorem ok_ldone {f : Addr} {fd : FuncData} (F : Fun K "_law_done" "_law_done" s_ldone f fd) (T : Txt0 mg K w C aN aC aF aG) (LPU : Cal P w K mg base "_law_put" ["_law_kept", "_law_file", "_law_version", "_law_content_here"] 1 spLput) (LMA : Cal P w K mg base "_law_made" ["_law_kept", "_law_where", "_law_name_here", "_law_thing"] 2 spLmade) : FnOk P w K mg base CX0 3 f fd ["_law_kept", "_law_deed_here"] spLdone := by
  refine F.ok sc_ldone (fun vs H Q E h => ?_) (fun cdv A outer s H vs Q E hr h => ?_)
  · obtain ⟨m, t, fp, S, d, rfl, _⟩ := h
    rfl
  obtain ⟨m, t, fp, S, d, rfl, A0, g, ht, hd, q⟩ := h
  refine ⟨_, (pss_cons (ps_if (PW.pt (pw_or (pt_cmpR op_eq (pe_ix ix_tup (pv 1) pe_int (fun _ _ => rfl)) pe_str (nomark _)) (pw_or1 (pt_cmpR op_eq (pe_ix ix_tup (pv 1) pe_int (fun _ _ => rfl)) pe_str (nomark _)))))
      (pss_one (ps_ret (pe_cal LPU hr rfl (pa_cons (pv 0) (pa_cons (pe_ix ix_tup (pv 1) pe_int (fun _ _ => rfl)) (pa_cons (pe_ix ix_tup (pv 1) pe_int (fun _ _ => rfl)) (pa_cons (pe_ix ix_tup (pv 1) pe_int (fun _ _ => rfl)) pa_nil))))))) pss_nil)
    (pss_one (ps_ret (pe_cal LMA hr rfl (pa_cons (pv 0) (pa_cons (pe_ix ix_tup (pv 1) pe_int (fun _ _ => rfl)) (pa_cons (pe_ix ix_tup (pv 1) pe_int (fun _ _ => rfl)) (pa_cons (pe_ifExp (pt_cmpR op_eq (pe_ix ix_tup (pv 1) pe_int (fun _ _ => rfl)) pe_str (nomark _)) (pe_ix ix_tup (pv 1) pe_int (fun _ _ => rfl)) pe_non) pa_nil)))))))), ?_⟩
  cases d with
  | pt b n v c =>
    refine ⟨_, rfl, t, _, _, _, rfl, rfl, SqT.of ht, rfl, rfl, _, rfl, ?_⟩
    cases b with
    | false =>
      refine ite2 (fun _ => ?_) (fun e => absurd rfl e)
      exact iteT ⟨_, rfl, _, rfl, t, _, _, _, rfl, rfl, SqT.of ht, rfl, _, rfl, t, _, _, _, rfl, rfl, SqT.of ht, rfl, _, rfl, t, _, _, _, rfl, rfl, SqT.of ht, rfl, m, fp, S, n, v, c, rfl, A0, g, q⟩
    | true =>
      refine ite2 (fun e => absurd e (by decide +kernel)) (fun _ => ?_)
      refine ⟨_, rfl, t, _, _, _, rfl, rfl, SqT.of ht, rfl, rfl, _, rfl, ite2 (fun _ => ?_) (fun e => absurd rfl e)⟩
      exact ⟨_, rfl, _, rfl, t, _, _, _, rfl, rfl, SqT.of ht, rfl, _, rfl, t, _, _, _, rfl, rfl, SqT.of ht, rfl, _, rfl, t, _, _, _, rfl, rfl, SqT.of ht, rfl, m, fp, S, n, v, c, rfl, A0, g, q⟩
  | fold w' a =>
    refine ⟨_, rfl, t, _, _, _, rfl, rfl, SqT.of ht, rfl, rfl, _, rfl, ite2 (fun e => absurd e (by decide +kernel)) (fun _ => ?_)⟩
    refine ⟨_, rfl, t, _, _, _, rfl, rfl, SqT.of ht, rfl, rfl, _, rfl, ite2 (fun e => absurd e (by decide +kernel)) (fun _ => ?_)⟩
    refine ⟨_, rfl, _, rfl, t, _, _, _, rfl, rfl, SqT.of ht, rfl, _, rfl, t, _, _, _, rfl, rfl, SqT.of ht, rfl, _, rfl, t, _, _, _, rfl, rfl, SqT.of ht, rfl, rfl, _, rfl, ite2 (fun e => absurd e (by decide +kernel)) (fun _ => ?_)⟩
    exact ⟨m, fp, S, w', a, none, rfl, A0, g, Nat.le_trans hd (by decide), q⟩
  | make w' a c =>
    refine ⟨_, rfl, t, _, _, _, rfl, rfl, SqT.of ht, rfl, rfl, _, rfl, ite2 (fun e => absurd e (by decide +kernel)) (fun _ => ?_)⟩
    refine ⟨_, rfl, t, _, _, _, rfl, rfl, SqT.of ht, rfl, rfl, _, rfl, ite2 (fun e => absurd e (by decide +kernel)) (fun _ => ?_)⟩
    refine ⟨_, rfl, _, rfl, t, _, _, _, rfl, rfl, SqT.of ht, rfl, _, rfl, t, _, _, _, rfl, rfl, SqT.of ht, rfl, _, rfl, t, _, _, _, rfl, rfl, SqT.of ht, rfl, rfl, _, rfl, ite2 (fun _ => ?_) (fun e => absurd rfl e)⟩
    exact ⟨_, rfl, t, _, _, _, rfl, rfl, SqT.of ht, rfl, m, fp, S, w', a, some c, rfl, A0, g, Nat.le_trans hd.1 (by decide), q⟩
end
end K32
set_option Elab.async false
set_option linter.all false
set_option maxRecDepth 100000
set_option maxHeartbeats 4000000
namespace K32
open PySem L2
theorem for_str {x : Str} {g : TG} {tb : TS} {D : Ends} {σ : St} {H : Hp} (Pv : Nat → St → Hp → Prop) (h0 : Pv 0 σ H)
    (hs : ∀ i c σ H, x.cps[i]? = some c → Pv i σ H → g (.str ⟨#[c]⟩) σ H fun σ2 H2 => tb { D with nx := Pv (i + 1), ct := Pv (i + 1), bk := D.nx } σ2 H2) (hd : ∀ σ H, Pv x.cps.size σ H → D.nx σ H) :
    ∃ W : Nat → Nat → St → Hp → Prop, (∃ m, W 0 m σ H) ∧ ∀ i m σ H, W i m σ H →
      ((Its x).stop i H ∧ D.nx σ H) ∨ ((Its x).go i H ∧ ∃ N : St → Hp → Prop, (∀ σ' H', N σ' H' → ∃ m', m' < m ∧ W (i + 1) m' σ' H') ∧ ∀ y H', (Its x).yld i H y H' → g y σ H' fun σ2 H2 => tb { D with nx := N, ct := N, bk := D.nx } σ2 H2) := by
  refine ⟨fun i m σ H => m = x.cps.size - i ∧ i ≤ x.cps.size ∧ Pv i σ H, ⟨x.cps.size, by simp, Nat.zero_le _, h0⟩, ?_⟩
  rintro i m σ H ⟨rfl, hi, p⟩
  by_cases hlt : i < x.cps.size
  · refine .inr ⟨hlt, Pv (i + 1), fun σ' H' p' => ⟨x.cps.size - (i + 1), by omega, rfl, hlt, p'⟩, fun y H' z => ?_⟩
    obtain ⟨rfl, c, hc, rfl⟩ := z
    exact hs i c σ _ hc p
  · have e : i = x.cps.size := by omega
    subst e
    exact .inl ⟨Nat.le_refl _, hd σ H p⟩
theorem call_listS {X : Cx} (hc : X.calm = true) : CallR X (.type "list") (fun xs H Q => ∃ z : Str, xs = [.str z] ∧ z.length ≤ sizeLine ∧ ∀ l, H l = none → Q (.ref l) (upd H l (.lst (z.cps.toList.map fun c => .str ⟨#[c]⟩)))) := by
  intro pins s σ H xs us Q I r h
  obtain ⟨z, rfl, hz, q⟩ := h
  obtain ⟨u, rfl, rx⟩ := vals1 r
  obtain ⟨t, rfl⟩ := rx
  refine call_list_str (I.ok.hd hc) z t (fun h' tk acc c kp hg hacc => ?_) hz
  have hv : Vals (z.cps.toList.map fun c => V.str ⟨#[c]⟩) acc.toList := by
    refine vals_of (by rw [Array.length_toList, hacc.1, List.length_map, Array.length_toList]) fun j x u e1 e2 => ?_
    obtain ⟨c', u', e3, rfl⟩ := hacc.2 j u (by rw [← Array.getElem?_toList]; exact e2)
    rw [List.getElem?_map, Array.getElem?_toList, e3] at e1
    cases e1
    exact ⟨u', rfl⟩
  refine ⟨.ref s.heap.objs.size, _, I.laid (t' := tk) kp (Nat.le_refl _) (show ObjOk X.prog X.w _ h' _ (.lst (z.cps.toList.map fun c => .str ⟨#[c]⟩)) from ⟨by rw [List.length_map, Array.length_toList]; exact hz, acc.toList, c, hv, ?_⟩), rfl, q _ I.fresh⟩
  rw [Array.toArray_toList]
  exact hg
noncomputable abbrev Ls : List Nat := LT.cps.toList
noncomputable def one1 (c : Nat) : Str := ⟨#[c]⟩
noncomputable def two2 (a b : Nat) : Str := (⟨#[a]⟩ : Str) ++ ⟨#[b]⟩
noncomputable def tl (i : Nat) : List Str := ((Str.empty :: Ls.map one1)) ++ ((Ls.take i).map fun a => Ls.map fun b => two2 a b).flatten
noncomputable def tailC (i : Nat) : List Nat := if i = 0 then [] else if i ≤ 26 then [96 + i] else [96 + (i - 1) / 26, 97 + (i - 1) % 26]
theorem tailL_C {i : Nat} (h : i ≤ 702) : tailL i = tailC i := by
  unfold tailC
  split
  · rename_i e; rw [e, tailL]
  split
  · rename_i e1 e2
    rw [tailL_pos (by omega), show (i - 1) / 26 = 0 by omega, tailL, show (i - 1) % 26 = i - 1 by omega]
    simp
    omega
  · rename_i e1 e2
    have hj : 0 < (i - 1) / 26 := by omega
    rw [tailL_pos (by omega), tailL_pos hj, show ((i - 1) / 26 - 1) / 26 = 0 by omega, tailL, show ((i - 1) / 26 - 1) % 26 = (i - 1) / 26 - 1 by omega]
    simp
    omega
theorem tl_eq : tl 26 = (List.range 703).map tailS := by
  have h : tl 26 = (List.range 703).map fun i => (⟨(tailC i).toArray⟩ : Str) := by decide +kernel
  rw [h]
  apply List.map_congr_left
  intro i hi
  have := List.mem_range.mp hi
  unfold tailS
  rw [tailL_C (by omega)]
theorem num_ok {n : Int} (h0 : 0 ≤ n) (h1 : n < 100) : (∀ c ∈ (toString n : Str).cps.toList, c ∈ NS.cps.toList) ∧ (toString n : Str).length ≤ 2 := by
  have h : ∀ k : Fin 100, ((toString (k.val : Int) : Str).cps.toList.all fun c => decide (c ∈ NS.cps.toList)) = true ∧ (toString (k.val : Int) : Str).length ≤ 2 := by decide +kernel
  have := h ⟨n.toNat, by omega⟩
  rw [show (((⟨n.toNat, by omega⟩ : Fin 100).val : Nat) : Int) = n by simp; omega] at this
  refine ⟨fun c hc => ?_, this.2⟩
  exact of_decide_eq_true (List.all_eq_true.mp this.1 c hc)
theorem cname_ok {n : Int} {i : Nat} (h0 : 0 ≤ n) (h1 : n < 100) (hi : i ≤ 702) : nameB (cnameS n i) = true ∧ (cnameS n i).length ≤ 8 := by
  obtain ⟨a1, a2⟩ := num_ok h0 h1
  have ht : (tailS i).cps.toList = tailC i := by unfold tailS; rw [tailL_C hi]
  have hl : (tailS i).length ≤ 2 := by
    have : (tailS i).length = (tailC i).length := by rw [← ht]; simp [Str.length]
    rw [this]
    unfold tailC
    split
    · simp
    split <;> simp
  have hlen : (cnameS n i).length = 1 + (toString n : Str).length + (tailS i).length := by
    unfold cnameS
    rw [Str.length_append, Str.length_append]
    rfl
  refine ⟨?_, by omega⟩
  unfold nameB
  rw [Bool.and_eq_true, Bool.and_eq_true]
  refine ⟨⟨decide_eq_true (by omega), decide_eq_true (by omega)⟩, (all_mem _ _).mpr fun c hc => ?_⟩
  unfold cnameS at hc
  rw [str_app, str_app] at hc
  have az : ∀ k : Fin 26, (97 + k.val) ∈ NS.cps.toList := by decide +kernel
  rcases List.mem_append.mp hc with hc | hc
  · rcases List.mem_append.mp hc with hc | hc
    · have : c = 99 := by
        have : ("c" : Str).cps.toList = [99] := by decide +kernel
        rw [this] at hc
        simpa using hc
      rw [this]
      decide +kernel
    · exact a1 c hc
  · rw [ht] at hc
    unfold tailC at hc
    split at hc
    · cases hc
    split at hc
    · rename_i e1 e2
      have : c = 96 + i := by simpa using hc
      have z := az ⟨i - 1, by omega⟩
      rw [this, show 96 + i = 97 + (i - 1) by omega]
      exact z
    · rename_i e1 e2
      have : c = 96 + (i - 1) / 26 ∨ c = 97 + (i - 1) % 26 := by simpa using hc
      rcases this with z | z
      · rw [z, show 96 + (i - 1) / 26 = 97 + ((i - 1) / 26 - 1) by omega]
        exact az ⟨(i - 1) / 26 - 1, by omega⟩
      · rw [z]
        exact az ⟨(i - 1) % 26, by omega⟩
noncomputable def spLclash : Sp := fun vs H Q _ => ∃ (m : Addr) (fp : List Addr) (S : Sh) (c w : Str), vs = [.ref m, .str c, .str w] ∧ ShE rtL H m fp S ∧ Good S ∧
  ∀ u H' fp', ShE rtL H' m fp' (clashA S c w).1 → Aft H fp H' fp' → H u = none → H' u = some (.tup (clashA S c w).2.v) → Q (.ref u) H'
theorem filt_first {p : Nat → Bool} {f : Nat → V} : ∀ (l : List Nat) (i : Nat), l.find? p = some i → atI ((l.filter p).map f) 0 = some (f i)
  | [], i, h => by cases h
  | a :: l, i, h => by
    rw [List.find?_cons] at h
    rw [List.filter_cons]
    cases e : p a with
    | true =>
      rw [e] at h
      cases h
      rw [if_pos rfl]
      exact atI_nat (j := 0) rfl
    | false =>
      rw [e] at h
      rw [if_neg (by simp)]
      exact filt_first l i h
theorem tl_len (i : Nat) (h : i ≤ 26) : (tl i).length ≤ 1000 := by
  have : ∀ k : Fin 27, (tl k.val).length ≤ 1000 := by decide +kernel
  exact this ⟨i, by omega⟩
theorem tl_wid (i : Nat) (h : i ≤ 26) : ∀ x ∈ tl i, x.length ≤ 2 := by
  have : ∀ k : Fin 27, ((tl k.val).all fun x => decide (x.length ≤ 2)) = true := by decide +kernel
  intro x hx
  exact of_decide_eq_true (List.all_eq_true.mp (this ⟨i, by omega⟩) x hx)
theorem tl_step (i : Nat) {c : Nat} (h : LT.cps[i]? = some c) : tl (i + 1) = tl i ++ Ls.map fun b => two2 c b := by
  unfold tl
  have e : Ls[i]? = some c := by rw [Array.getElem?_toList]; exact h
  rw [List.take_add_one, e, List.map_append, List.flatten_append, List.append_assoc]
  simp
section
variable {P : Program} {w : World} {K : PySem.W.Frag} {mg : Str → Option Value} {base : Heap} {C aN aC aF aG : Addr}
theorem sc_lclash : FnScope ["_law_kept", "_law_content_here", "_law_word", "_law_letters", "_law_plain", "_law_tails", "_law_one", "_law_name_here"] ["_law_kept", "_law_content_here", "_law_word"] (defScope s_lclash) := ⟨rfl, rfl, rfl, by decide +kernel, rfl, by decide +kernel, by decide +kernel⟩
theorem ok_lclash {f : Addr} {fd : FuncData} (F : Fun K "_law_clash" "_law_clash" s_lclash f fd) (T : Txt0 mg K w C aN aC aF aG) (LMA : Cal P w K mg base "_law_made" ["_law_kept", "_law_where", "_law_name_here", "_law_thing"] 2 spLmade) : FnOk P w K mg base CX0 3 f fd ["_law_kept", "_law_content_here", "_law_word"] spLclash := by
  refine F.ok sc_lclash (fun vs H Q E h => ?_) (fun cdv A outer s H vs Q E hr h => ?_)
  · obtain ⟨m, fp, S, c, w', rfl, _⟩ := h
    rfl
  obtain ⟨m, fp, S, c, w', rfl, A0, g, q⟩ := h
  refine ⟨_, (pss_cons (ps_set (i := 3) sc_lclash.nd rfl (Or.inl rfl) pe_str)
    (pss_cons (ps_set (i := 4) sc_lclash.nd rfl (Or.inr rfl) (pe_op op_add_str pe_str (pe_callTy call_str_int rfl T.T.b_str PyProof.Rows.boot_str (pa_cons (pe_op op_add (pe_dget (hu_of hr) (pv 0) pe_str (fun _ _ => rfl)) pe_int) pa_nil))))
    (pss_cons (ps_set (i := 5) sc_lclash.nd rfl (Or.inl rfl) (pe_op op_cat (pe_lst (pa_cons pe_str pa_nil)) (pe_callTy (call_listS rfl) rfl T.T.b_list PyProof.Rows.boot_list (pa_cons (pv 3) pa_nil))))
    (pss_cons (ps_for PassesOwn.never rfl (pi_str (pv 3)) (pg_name (i := 6) sc_lclash.nd rfl (Or.inr rfl))
      (pss_one (ps_set (i := 5) sc_lclash.nd rfl (Or.inl rfl) (pe_op op_cat (pv 5) (pe_lc [none, some 6] ["_law_other", "_law_one"] rfl cap01 (pi_str (pv 3)) (fun _ _ _ _ _ _ => (pg_name (i := 0) (by decide +kernel : (["_law_other", "_law_one"] : List Str).Nodup) rfl (Or.inl rfl))) (fun _ _ _ _ _ _ => pifs_nil) (fun _ _ _ _ _ _ => (pe_op op_add_str (pv 1) (pv 0))))))))
    (pss_cons (ps_set (i := 7) sc_lclash.nd rfl (Or.inl rfl) (pe_ix ix_list (pe_lc [none, some 4, some 0] ["_law_tail", "_law_plain", "_law_kept"] rfl cap012 (pi_list (pv 5)) (fun _ _ _ _ _ _ => (pg_name (i := 0) (by decide +kernel : (["_law_tail", "_law_plain", "_law_kept"] : List Str).Nodup) rfl (Or.inl rfl))) (fun _ _ _ _ _ _ => (pifs_one (pt_cmp (pc_dnotin (hu_of hr) (pe_op op_add_str (pv 1) (pv 0)) (pe_dget (hu_of hr) (pe_dget (hu_of hr) (pv 2) pe_str (fun _ _ => rfl)) pe_int (fun _ _ => rfl))) rfl))) (fun _ _ _ _ _ _ => (pe_op op_add_str (pv 1) (pv 0)))) pe_int (fun _ _ => rfl)))
    (pss_one (ps_ret (pe_tup (pa_cons pe_str (pa_cons (pe_ix ix_tup (pe_cal LMA hr rfl (pa_cons (pv 0) (pa_cons pe_int (pa_cons (pv 7) (pa_cons (pv 1) pa_nil))))) pe_int (fun _ _ => rfl)) (pa_cons (pv 2) pa_nil))))))))))), ?_⟩
  obtain ⟨df, dg, fa, ft, A0⟩ := A0
  have hs : sizeLine = 16777216 := sizeLine_eq
  have lo := g.low
  have tp := g.top
  have hlog := log_small (n := S.last + 1) (by omega) (by omega)
  have hnum := num_len (n := S.last + 1) (by omega) (by omega)
  obtain ⟨a, es, e1, e2⟩ := A0.fo_some g.one
  have le := A0.entLen g e1
  have hplain : ("c" ++ (toString (S.last + 1) : Str)).length ≤ 100 := by rw [Str.length_append]; show 1 + _ ≤ 100; omega
  refine ⟨_, rfl, m, .int S.last, rfl, mL A0.root, _, _, rfl, rfl, _, rfl, hlog, _, _, rfl, rfl, (by show 1 + _ ≤ sizeLine; omega), ?_⟩
  refine ⟨(by show 1 ≤ sizeLine; decide), fun l1 h1 => ⟨_, rfl, LT, rfl, by decide, fun l2 h2 => ?_⟩⟩
  have s1 := same_new h1 (.lst [.str ""])
  have s2 := same_new h2 (.lst (LT.cps.toList.map fun c => .str ⟨#[c]⟩))
  refine ⟨l1, l2, _, _, rfl, rfl, s2 _ _ upd_same, upd_same, by rw [List.length_map]; show 1 + Ls.length ≤ _; rw [show Ls.length = 26 by decide]; omega, fun l3 h3 => ?_⟩
  have s3 := same_new h3 (.lst ([.str ""] ++ LT.cps.toList.map fun c => .str ⟨#[c]⟩))
  have e0 : [V.str ""] ++ LT.cps.toList.map (fun c => V.str ⟨#[c]⟩) = (tl 0).map V.str := by
    unfold tl
    simp [one1]
    rfl
  rw [e0]
  rw [e0] at s3
  have ss := s1.trans (s2.trans s3)
  refine ⟨_, rfl, LT, rfl, for_str (x := LT) (fun i σ Hx => ∃ (lx : Addr) (v6 v7 : Option V), σ = [some (.ref m), some (.str c), some (.str w'), some (.str LT), some (.str ("c" ++ (toString (S.last + 1) : Str))), some (.ref lx), v6, v7] ∧ Same H Hx ∧ Hx lx = some (.lst ((tl i).map V.str)) ∧ i ≤ 26) ⟨l3, none, none, rfl, ss, upd_same, by omega⟩ ?_ ?_⟩
  · rintro i cc σ Hx hc ⟨lx, v6, v7, rfl, sx, hx, hi⟩
    have hi' : i < 26 := by
      have : i < LT.cps.size := by
        rcases Nat.lt_or_ge i LT.cps.size with z | z
        · exact z
        · rw [Array.getElem?_eq_none z] at hc; cases hc
      have e26 : LT.cps.size = 26 := by decide
      omega
    refine ⟨_, rfl, _, rfl, LT, rfl, ?_⟩
    refine lc_str (fun j σ ys Hy => Hy = Hx ∧ ys = ((Ls.take j).map fun b => two2 cc b).map V.str ∧ ∃ v : Option V, σ = [v, some (.str ⟨#[cc]⟩)]) ⟨rfl, rfl, _, rfl⟩ (fun j σ ys Hy hj ⟨_, e, _⟩ => ?_) ?_ ?_
    · rw [e, List.length_map, List.length_map, List.length_take]
      have e26 : LT.cps.size = 26 := by decide
      omega
    · rintro j d σ ys Hy hd ⟨rfl, rfl, v, rfl⟩
      refine ⟨_, rfl, _, rfl, _, _, rfl, rfl, (by show 1 + 1 ≤ sizeLine; decide), rfl, ?_, _, rfl⟩
      have hd' : Ls[j]? = some d := by rw [Array.getElem?_toList]; exact hd
      rw [List.take_add_one, hd', List.map_append, List.map_append]
      rfl
    · rintro σ ys Hy ⟨rfl, rfl, v, rfl⟩ D hD
      have e26 : Ls.take LT.cps.size = Ls := List.take_of_length_le (by simp)
      rw [e26]
      have sD := same_new hD (.lst ((Ls.map fun b => two2 cc b).map V.str))
      have ll := tl_len i (by omega)
      refine ⟨lx, D, _, _, rfl, rfl, sD _ _ hx, upd_same, by rw [List.length_map, List.length_map, List.length_map]; show _ + Ls.length ≤ _; rw [show Ls.length = 26 by decide]; omega, fun l4 h4 => ?_⟩
      have s4 := same_new h4 (.lst ((tl i).map V.str ++ (Ls.map fun b => two2 cc b).map V.str))
      exact ⟨l4, _, _, rfl, sx.trans (sD.trans s4), by rw [upd_same, tl_step i hc, List.map_append], by omega⟩
  · rintro σ Hx ⟨lx, v6, v7, rfl, sx, hx, hi⟩
    have e26 : LT.cps.size = 26 := by decide
    rw [e26] at hx
    have A1 := A0.same sx
    have hcl : clashN S = cnameS (S.last + 1) (free es (S.last + 1)) := by unfold clashN; rw [e2]; rfl
    obtain ⟨f1, f2, f3⟩ := free_spec (es := es) (n := S.last + 1) (by omega)
    have hfind : (List.range 703).find? (fun i => (lkp es (cnameS (S.last + 1) i)).isNone) = some (free es (S.last + 1)) := by
      cases e : (List.range 703).find? fun i => (lkp es (cnameS (S.last + 1) i)).isNone with
      | some i => unfold free; rw [e]; rfl
      | none =>
        have := List.find?_eq_none.mp e (free es (S.last + 1)) (List.mem_range.mpr f1)
        rw [f2] at this
        exact absurd rfl this
    refine ⟨_, rfl, lx, rfl, ⟨_, SqL.of hx⟩, ?_⟩
    refine lc_list (K := K) (a := lx) (xs := (tl 26).map V.str) (fun i σ ys Hy => Hy = Hx ∧ ys = (((List.range 703).take i).filter fun k => (lkp es (cnameS (S.last + 1) k)).isNone).map (fun k => V.str (cnameS (S.last + 1) k)) ∧ ∃ v : Option V, σ = [v, some (.str ("c" ++ (toString (S.last + 1) : Str))), some (.ref m)]) ⟨rfl, rfl, _, rfl⟩ (fun i σ ys Hy hi hh => by rw [hh.1]; exact SqL.of hx) (fun i σ ys Hy hi hh => ?_) ?_ ?_
    · rw [hh.2.1, List.length_map]
      refine Nat.le_trans (List.length_filter_le _ _) ?_
      rw [List.length_take, List.length_range]
      omega
    · rintro i x σ ys Hy hx' ⟨rfl, rfl, v, rfl⟩
      rw [tl_eq, List.map_map, List.getElem?_map] at hx'
      cases er : (List.range 703)[i]? with
      | none => rw [er] at hx'; cases hx'
      | some k =>
        rw [er] at hx'
        obtain rfl : V.str (tailS k) = x := Option.some.inj hx'
        have hk : k < 703 := List.mem_range.mp (List.mem_of_getElem? er)
        have hwid : (tailS k).length ≤ 2 := tl_wid 26 (by omega) _ (by rw [tl_eq]; exact List.mem_map.mpr ⟨k, List.mem_range.mpr hk, rfl⟩)
        refine ⟨_, rfl, _, rfl, _, _, rfl, rfl, by omega, _, rfl, m, .ref df, rfl, mF A1.root, df, .ref a, rfl, (by have := A1.tab.getF 1; rw [e1] at this; exact this), a, _, rfl, A1.tab.getE e1 _, _, rfl, ?_⟩
        rw [some_map]
        have et : (List.range 703).take (i + 1) = (List.range 703).take i ++ [k] := by rw [List.take_add_one, er]; rfl
        rw [et, List.filter_append, List.map_append]
        have ek : ("c" ++ (toString (S.last + 1) : Str)) ++ tailS k = cnameS (S.last + 1) k := rfl
        rw [ek]
        refine ite2 (fun e => ?_) (fun e => ?_)
        · have en : (lkp es (cnameS (S.last + 1) k)).isNone = true := by
            cases z : lkp es (cnameS (S.last + 1) k) with
            | none => rfl
            | some y => rw [z] at e; cases e
          refine ⟨_, rfl, _, rfl, _, _, rfl, rfl, by omega, rfl, ?_, _, rfl⟩
          rw [List.filter_cons, if_pos en]
          rfl
        · have en : ¬ (lkp es (cnameS (S.last + 1) k)).isNone = true := fun z => e (by
            cases y : lkp es (cnameS (S.last + 1) k) with
            | none => rfl
            | some y' => rw [y] at z; cases z)
          refine ⟨rfl, ?_, _, rfl⟩
          rw [List.filter_cons, if_neg en]
          simp
    · rintro σ ys Hy ⟨rfl, rfl, v, rfl⟩ D hD
      have e703 : (List.range 703).take ((tl 26).map V.str).length = List.range 703 := by
        rw [tl_eq, List.length_map, List.length_map, List.length_range]
        exact List.take_of_length_le (by rw [List.length_range]; omega)
      rw [e703]
      have sD := same_new hD (.lst (((List.range 703).filter fun k => (lkp es (cnameS (S.last + 1) k)).isNone).map fun k => V.str (cnameS (S.last + 1) k)))
      have hat := filt_first (f := fun k => V.str (cnameS (S.last + 1) k)) (List.range 703) (free es (S.last + 1)) hfind
      refine ⟨D, _, _, _, rfl, rfl, SqL.of upd_same, hat, ?_⟩
      rw [← hcl]
      have A2 := A1.same sD
      have nb := cname_ok (n := S.last + 1) (i := free es (S.last + 1)) (by omega) (by omega) (by omega)
      rw [← hcl] at nb
      have er : mkR S 1 (clashN S) (some c) = (S.file 1 (clashN S) c, .made (S.last + 1)) := by
        unfold mkR
        rw [nb.1]
        show S.mkd 1 (clashN S) (some c) = _
        rw [mkd_some e2, hcl, f2]
        rfl
      refine ⟨_, rfl, _, rfl, _, rfl, m, fp, S, 1, clashN S, some c, rfl, ⟨_, _, _, _, A2⟩, g, by omega, fun u H2 fp2 A3 af hu hu' => ?_⟩
      rw [er] at A3 hu'
      refine ⟨u, _, _, _, rfl, rfl, SqT.of hu', rfl, _, rfl, (by show 3 ≤ sizeLine; decide), fun x hx2 => ?_⟩
      have af' := ((Aft.refl H fp).same (sx.trans sD)).trans af
      exact q x _ fp2 (A3.same (same_new hx2 _)) (af'.same (same_new hx2 _)) (af'.fresh A3 hx2) upd_same
end
end K32
set_option Elab.async false
set_option linter.all false
set_option maxRecDepth 100000
set_option maxHeartbeats 4000000
namespace K32
open PySem L2
theorem doP_make {S : Sh} {w : Int} {a c : Str} (h : contB c = true) : doP S (.make w a c) = S.do nameB (.make w a c) := by
  unfold doP refW partsW Sh.do Sh.mkd
  dsimp only
  rw [h, Bool.and_true]
  rcases hn : nameB a with _ | _
  · rfl
  rcases hf : lkp S.fo w with _ | es
  · rcases hg : lkp S.fi w with _ | y <;> rfl
  · simp only [Option.isSome_some, Option.getD_some, Bool.true_or, Bool.not_true, Bool.false_eq_true, if_false, if_true]
    by_cases he : (lkp es a).isSome = true
    · rw [if_pos he, if_pos he]
    · rw [if_neg he, if_neg he]
theorem doP_fold {S : Sh} {w : Int} {a : Str} : doP S (.fold w a) = S.do nameB (.fold w a) := by
  unfold doP refW partsW Sh.do Sh.mkd
  dsimp only
  rcases hn : nameB a with _ | _
  · rfl
  rcases hf : lkp S.fo w with _ | es
  · rcases hg : lkp S.fi w with _ | y <;> rfl
  · simp only [Option.isSome_some, Option.getD_some, Bool.true_or, Bool.not_true, Bool.false_eq_true, if_false, if_true]
    by_cases he : (lkp es a).isSome = true
    · rw [if_pos he, if_pos he]
    · rw [if_neg he, if_neg he]
theorem doP_put {S : Sh} {n v : Int} {c : Str} (g : Good S) (h : contB c = true) : doP S (.put n v c) = S.do nameB (.put n v c) := by
  unfold doP refW partsW Sh.do Sh.pt
  dsimp only
  rw [h]
  rcases hg : lkp S.fi n with _ | f
  · rcases hf : lkp S.fo n with _ | y <;> rfl
  · dsimp only [Option.isSome, Option.getD, Bool.or_true, Bool.not_true]
    simp only [Bool.not_true, Bool.false_eq_true, if_false, Bool.or_true, if_true]
    by_cases e : f.1 = v
    · rw [if_pos e, if_pos e]
      dsimp only
      rw [e]
    · rw [if_neg e, if_neg e]
theorem doP_do {S : Sh} (g : Good S) {d : GD} (h : gOk d) : doP S d.deed = S.do nameB d.deed := by
  cases d with
  | pt b n v c => exact doP_put g h.1
  | fold w a => exact doP_fold
  | make w a c => exact doP_make h.2.1
noncomputable def Lone.gd : Lone → GD
  | .make w a c => .make w a c
  | .shut n v c => .pt true n v c
theorem lV_gd (l : Lone) : lV l = gV l.gd := by cases l <;> rfl
noncomputable def LonG (H : Hp) (ts : List Addr) (ls : List Lone) : Prop := Paired (fun t l => H t = some (.tup (lV l)) ∧ gOk l.gd) ts ls
theorem gOk_len {l : Lone} (h : gOk l.gd) : lLen l := by
  cases l with
  | make w a c => exact ⟨h.1, h.2.2⟩
  | shut n v c => exact h.2
theorem LonG.at {H : Hp} {ts : List Addr} {ls : List Lone} (h : LonG H ts ls) : LonAt H ts ls := Paired.mapP h fun _ _ z => ⟨z.1, gOk_len z.2⟩
noncomputable def spLjoined (K : PySem.W.Frag) : Sp := fun vs H Q _ => ∃ (m ds : Addr) (fp : List Addr) (S : Sh) (ts : List Addr) (ls : List Lone), vs = [.ref m, .ref ds] ∧ ShE rtL H m fp S ∧ Good S ∧ S.last + ls.length ≤ 62 ∧ H ds = some (.lst (ts.map V.ref)) ∧ LonG H ts ls ∧
  ∀ u p H' fp' ps, ShE rtL H' m fp' (joinS S ls).s → Aft H fp H' fp' → H u = none → H p = none → H' u = some (.tup [.str "joined", .ref p]) → H' p = some (.lst (ps.map V.ref)) → AnsAt H' ps (joinS S ls).as → Q (.ref u) H'
theorem in_ints (n : Int) (rs : List Int) : inV (.int n) (rs.map V.int) = decide (n ∈ rs) := by
  unfold inV
  rw [Bool.eq_iff_iff, List.any_map, List.any_eq_true, decide_eq_true_iff]
  constructor
  · rintro ⟨x, hx, e⟩
    have : x = n := by
      have : (x == n) = true := e
      simpa using this
    exact this ▸ hx
  · intro h
    exact ⟨n, h, by show (n == n) = true; simp⟩
theorem flat_ints (rs : List Int) : (rs.map V.int).all flatV = true := by
  rw [List.all_map, List.all_eq_true]
  intro x _
  rfl
section
variable {P : Program} {w : World} {K : PySem.W.Frag} {mg : Str → Option Value} {base : Heap} {C aN aC aF aG : Addr}
theorem sc_ljoined : FnScope ["_law_kept", "_law_deeds", "_law_rows_here", "_law_lost", "_law_deed_here", "_law_told"] ["_law_kept", "_law_deeds"] (defScope s_ljoined) := ⟨rfl, rfl, rfl, by decide +kernel, rfl, by decide +kernel, by decide +kernel⟩
theorem ok_ljoined {f : Addr} {fd : FuncData} (F : Fun K "_law_joined" "_law_joined" s_ljoined f fd) (T : Txt0 mg K w C aN aC aF aG) (LDO : Cal P w K mg base "_law_done" ["_law_kept", "_law_deed_here"] 3 spLdone) (LCL : Cal P w K mg base "_law_clash" ["_law_kept", "_law_content_here", "_law_word"] 3 spLclash) : FnOk P w K mg base CX0 4 f fd ["_law_kept", "_law_deeds"] (spLjoined K) := by
  refine F.ok sc_ljoined (fun vs H Q E h => ?_) (fun cdv A outer s H vs Q E hr h => ?_)
  · obtain ⟨m, ds, fp, S, ts, ls, rfl, _⟩ := h
    rfl
  obtain ⟨m, ds, fp, S, ts, ls, rfl, A0, g, h62, hds, hl, q⟩ := h
  refine ⟨_, (pss_cons (ps_set (i := 2) sc_ljoined.nd rfl (Or.inl rfl) (pe_lst pa_nil))
    (pss_cons (ps_set (i := 3) sc_ljoined.nd rfl (Or.inl rfl) (pe_lst pa_nil))
    (pss_cons (ps_for PassesOwn.never rfl (pi_list (pv 1)) (pg_name (i := 4) sc_ljoined.nd rfl (Or.inl rfl))
      (pss_one (ps_if (PW.pt (pw_and (pt_cmpR op_eq (pe_ix ix_tup (pv 4) pe_int (fun _ _ => rfl)) pe_str (nomark _)) (pw_and1 (pt_cmpR op_in_seq (pe_ix ix_tup (pv 4) pe_int (fun _ _ => rfl)) (pv 3) (by with_unfolding_all rfl)))))
      (pss_one (ps_expr (pe_bm PySem.F.plainAttrs_list PySem.F.slot_list_append PySem.F.type_list_append mt_append (pv 2) (pa_cons (pe_cal LCL hr rfl (pa_cons (pv 0) (pa_cons (pe_ix ix_tup (pv 4) pe_int (fun _ _ => rfl)) (pa_cons pe_str pa_nil)))) pa_nil)))) (pss_cons (ps_set (i := 5) sc_ljoined.nd rfl (Or.inl rfl) (pe_cal LDO hr rfl (pa_cons (pv 0) (pa_cons (pv 4) pa_nil))))
    (pss_cons (ps_if (pt_cmpR op_eq (pe_ix ix_tup (pv 5) pe_int (fun _ _ => rfl)) pe_str (nomark _))
      (pss_cons (ps_set (i := 3) sc_ljoined.nd rfl (Or.inl rfl) (pe_op op_cat (pv 3) (pe_op op_rep (pe_lst (pa_cons (pe_ix ix_tup (pv 4) pe_int (fun _ _ => rfl)) pa_nil)) (pe_callTy call_int1 rfl T.T.b_int PyProof.Rows.boot_int (pa_cons (pe_cmpR op_eq (pe_ix ix_tup (pv 4) pe_int (fun _ _ => rfl)) pe_str (nomark _)) pa_nil)))))
    (pss_one (ps_set (i := 5) sc_ljoined.nd rfl (Or.inl rfl) (pe_cal LCL hr rfl (pa_cons (pv 0) (pa_cons (pe_ix ix_tup (pv 4) pe_int (fun _ _ => rfl)) (pa_cons (pe_ix ix_tup (pv 5) pe_int (fun _ _ => rfl)) pa_nil))))))) pss_nil)
    (pss_one (ps_expr (pe_bm PySem.F.plainAttrs_list PySem.F.slot_list_append PySem.F.type_list_append mt_append (pv 2) (pa_cons (pv 5) pa_nil)))))))))
    (pss_one (ps_ret (pe_tup (pa_cons pe_str (pa_cons (pv 2) pa_nil)))))))), ?_⟩
  have hs : sizeLine = 16777216 := sizeLine_eq
  have hlen := paired_len hl
  have lo := g.low
  refine ⟨(by show 0 ≤ sizeLine; omega), fun p hp => ?_⟩
  refine ⟨(by show 0 ≤ sizeLine; omega), fun l0 hl0 => ?_⟩
  have s1 := same_new hp (.lst [])
  have s2 := same_new hl0 (.lst [])
  have hds1 := s2 _ _ (s1 _ _ hds)
  have rp : l0 ≠ p := fun e => by rw [e, upd_same] at hl0; cases hl0
  have J : ∀ i l, ls[i]? = some l → joinS S (ls.take (i + 1)) = stepJ (joinS S (ls.take i)) l := fun i l e => by
    unfold joinS
    rw [List.take_add_one, e, List.foldl_append]
    rfl
  refine ⟨_, rfl, ds, rfl, ⟨_, SqL.of hds1⟩, for_list (K := K) (a := ds) (xs := ts.map V.ref) (fun i σ Hx => ∃ (fpx : List Addr) (ps : List Addr) (r : Addr) (v4 v5 : Option V), σ = [some (.ref m), some (.ref ds), some (.ref p), some (.ref r), v4, v5] ∧ ShE rtL Hx m fpx (joinS S (ls.take i)).s ∧ Aft H fp Hx fpx ∧ Hx p = some (.lst (ps.map V.ref)) ∧ AnsAt Hx ps (joinS S (ls.take i)).as ∧ Hx r = some (.lst ((joinS S (ls.take i)).rs.map V.int)) ∧ r ≠ p ∧ Good (joinS S (ls.take i)).s ∧ (joinS S (ls.take i)).s.last ≤ S.last + i ∧ ps.length ≤ i ∧ (joinS S (ls.take i)).rs.length ≤ i) ?_ ?_ ?_ ?_⟩
  · refine ⟨fp, [], l0, none, none, rfl, A0.same (s1.trans s2), (Aft.refl H fp).same (s1.trans s2), ?_, .nil, upd_same, rp, g, by show S.last ≤ S.last + 0; omega, Nat.le_refl _, Nat.le_refl _⟩
    rw [upd_ne (Ne.symm rp)]; exact upd_same
  · rintro i σ Hx hi ⟨fpx, ps, r, v4, v5, rfl, Ax, af, _⟩
    exact SqL.of (still_keep nrL A0 af.kp hds rfl)
  · rintro i x σ Hx hx ⟨fpx, ps, r, v4, v5, rfl, Ax, af, hpx, ans, hrx, rne, gx, lx, n1, n2⟩
    rw [List.getElem?_map] at hx
    cases et : ts[i]? with
    | none => rw [et] at hx; cases hx
    | some t =>
      rw [et] at hx
      cases hx
      obtain ⟨l, el, ht, hlL⟩ := paired_at hl et
      have hti : i < ls.length := by
        rcases Nat.lt_or_ge i ls.length with z | z
        · exact z
        · rw [List.getElem?_eq_none z] at el; cases el
      have htx : Hx t = some (.tup (lV l)) := still_keep nrL A0 af.kp ht rfl
      have gs := stepJ_good gx l (by omega)
      have hll : ((joinS S (ls.take i)).s.last : Int) < 62 := by omega
      have fin : ∀ (y : Ans) (H2 : Hp) (fp2 : List Addr) (u2 r2 : Addr) (v5 : Option V) (rs2 : List Int) (S2 : Sh), stepJ (joinS S (ls.take i)) l = ⟨S2, rs2, (joinS S (ls.take i)).as ++ [y]⟩ → ShE rtL H2 m fp2 S2 → Aft H fp H2 fp2 → H2 p = some (.lst (ps.map V.ref)) → AnsAt H2 ps (joinS S (ls.take i)).as → H2 r2 = some (.lst (rs2.map V.int)) → r2 ≠ p → H2 u2 = some (.tup y.v) → rs2.length ≤ i + 1 →
            ∃ (fpx : List Addr) (ps' : List Addr) (r : Addr) (v4 v5' : Option V), [some (.ref m), some (.ref ds), some (.ref p), some (.ref r2), some (.ref t), v5] = [some (.ref m), some (.ref ds), some (.ref p), some (.ref r), v4, v5'] ∧ ShE rtL (upd H2 p (.lst (ps.map V.ref ++ [.ref u2]))) m fpx (joinS S (ls.take (i + 1))).s ∧ Aft H fp (upd H2 p (.lst (ps.map V.ref ++ [.ref u2]))) fpx ∧ upd H2 p (.lst (ps.map V.ref ++ [.ref u2])) p = some (.lst (ps'.map V.ref)) ∧ AnsAt (upd H2 p (.lst (ps.map V.ref ++ [.ref u2]))) ps' (joinS S (ls.take (i + 1))).as ∧ upd H2 p (.lst (ps.map V.ref ++ [.ref u2])) r = some (.lst ((joinS S (ls.take (i + 1))).rs.map V.int)) ∧ r ≠ p ∧ Good (joinS S (ls.take (i + 1))).s ∧ (joinS S (ls.take (i + 1))).s.last ≤ S.last + ((i + 1 : Nat) : Int) ∧ ps'.length ≤ i + 1 ∧ (joinS S (ls.take (i + 1))).rs.length ≤ i + 1 := by
          intro y H2 fp2 u2 r2 v5 rs2 S2 es A2 af2 hp2 ans2 hr2 rne2 hu2 hrl
          have pn2 : p ∉ fp2 := fun z => by
            obtain ⟨_, _, _, _, A2⟩ := A2
            exact A2.still nrL hp2 rfl z
          rw [J i l el]
          have kpp : Kp [p] H2 (upd H2 p (.lst (ps.map V.ref ++ [.ref u2]))) := (Kp.refl _ H2).put (.head _)
          refine ⟨fp2, ps ++ [u2], r2, _, _, rfl, ?_, ⟨fun b o n e => ?_, af2.sub, af2.gr⟩, by rw [upd_same, List.map_append]; rfl, ?_, ?_, rne2, gs.1, ?_, by simp; omega, by rw [es]; exact hrl⟩
          · rw [es]
            obtain ⟨_, _, _, _, A2⟩ := A2
            refine ⟨_, _, _, _, kpp _ _ (fun z => pn2 (by rw [← List.mem_singleton.mp z]; exact A2.memL)) A2.root, A2.tab.frame kpp (fun b hb z => pn2 (by rw [← List.mem_singleton.mp z, A2.fp_]; exact .tail _ hb)) (fun b hb xs e => ?_), A2.fp_, A2.nl, A2.sfo, A2.sfi⟩
            rw [List.mem_singleton.mp hb, hp2] at e
            cases e
          · have h2 := af2.kp b o n e
            by_cases z : b = p
            · subst z; rw [hp] at e; cases e
            · rw [upd_ne z]; exact h2
          · rw [es]
            refine paired_snoc (Paired.mapP ans2 fun a b h => ?_) ?_
            · rw [upd_ne (ne_of h hp2 (by intro z; cases z))]; exact h
            · rw [upd_ne (ne_of hu2 hp2 (by intro z; cases z))]; exact hu2
          · rw [es, upd_ne rne2]; exact hr2
          · have := gs.2.2
            push_cast
            omega
      cases l with
      | make w0 a0 c0 =>
        have ef : firstA (joinS S (ls.take i)).s (joinS S (ls.take i)).rs (.make w0 a0 c0) = (joinS S (ls.take i)).s.do nameB (.make w0 a0 c0) := doP_make hlL.2.1
        refine ⟨_, rfl, t, _, _, _, rfl, rfl, SqT.of htx, rfl, rfl, _, rfl, ite2 (fun e => absurd e (by decide +kernel)) (fun _ => iteF ?_)⟩
        refine ⟨_, rfl, _, rfl, m, t, fpx, _, .make w0 a0 c0, rfl, Ax, gx, htx, hlL, fun u H1 fp1 A1 af1 hu hu1 => ?_⟩
        have hp1 := still_keep nrL Ax af1.kp hpx rfl
        have hr1 := still_keep nrL Ax af1.kp hrx rfl
        have ht1 := still_keep nrL Ax af1.kp htx rfl
        have ans1 : AnsAt H1 ps (joinS S (ls.take i)).as := Paired.mapP ans fun a b h => still_keep nrL Ax af1.kp h rfl
        have afx := af.trans af1
        have g1 := (firstA_good gx (joinS S (ls.take i)).rs (.make w0 a0 c0) hll)
        rw [ef] at g1
        rw [show (GD.make w0 a0 c0).deed = .make w0 a0 c0 from rfl] at A1 hu1
        cases ed : (joinS S (ls.take i)).s.do nameB (.make w0 a0 c0) with
        | mk S1 x =>
          rw [ed] at hu1 A1 g1 ef
          refine ⟨_, rfl, u, _, _, _, rfl, rfl, SqT.of hu1, (by cases x <;> rfl : atI x.v 0 = some (x.v.getD 0 .non)), (by cases x <;> rfl), _, rfl, ?_⟩
          cases x with
          | no w' =>
            have es : stepJ (joinS S (ls.take i)) (.make w0 a0 c0) = ⟨(clashA S1 c0 w').1, (joinS S (ls.take i)).rs, (joinS S (ls.take i)).as ++ [(clashA S1 c0 w').2]⟩ := by unfold stepJ; rw [ef]; rfl
            refine ite2 (fun _ => ?_) (fun e => absurd rfl e)
            refine ⟨_, rfl, _, rfl, t, _, _, _, rfl, rfl, SqT.of ht1, rfl, (by show 1 ≤ sizeLine; decide), fun l1 h1 => ?_⟩
            have t1 := same_new h1 (.lst [.int w0])
            refine ⟨_, rfl, t, _, _, _, rfl, rfl, SqT.of (t1 _ _ ht1), rfl, rfl, .inr ⟨_, rfl, ?_⟩⟩
            rw [show (decide (V.str "make" = V.str "shut")) = false by decide +kernel]
            refine ⟨l1, _, _, rfl, rfl, upd_same, by decide, by decide, (by show 1 * 0 ≤ sizeLine; decide), fun l2 h2 => ?_⟩
            have t2 := same_new h2 (.lst (List.replicate (if false = true then (1 : Int) else 0).toNat [V.int w0]).flatten)
            refine ⟨r, l2, _, _, rfl, rfl, t2 _ _ (t1 _ _ hr1), upd_same, (by rw [List.length_map]; show _ + 0 ≤ sizeLine; omega), fun l3 h3 => ?_⟩
            have t3 := same_new h3 (.lst ((joinS S (ls.take i)).rs.map V.int ++ (List.replicate (if false = true then (1 : Int) else 0).toNat [V.int w0]).flatten))
            have tt := t1.trans (t2.trans t3)
            have l3p : l3 ≠ p := fun e => by rw [e, t2 _ _ (t1 _ _ hp1)] at h3; cases h3
            have hr3 : ∀ Hz : Hp, (upd Hz l3 (HO.lst ((joinS S (ls.take i)).rs.map V.int ++ (List.replicate (if false = true then (1 : Int) else 0).toNat [V.int w0]).flatten))) l3 = some (.lst ((joinS S (ls.take i)).rs.map V.int)) := fun Hz => by
              rw [upd_same]
              show some (HO.lst (_ ++ [])) = _
              rw [List.append_nil]
            refine ⟨_, rfl, _, rfl, t, _, _, _, rfl, rfl, SqT.of (tt _ _ ht1), rfl, _, rfl, u, _, _, _, rfl, rfl, SqT.of (tt _ _ hu1), rfl, m, fp1, S1, c0, w', rfl, A1.same tt, g1.1, fun u2 H2 fp2 A2 af2 hu2 hu2' => ?_⟩
            have A1t := A1.same tt
            have hp2 := still_keep nrL A1t af2.kp (tt _ _ hp1) rfl
            have hr2 := still_keep nrL A1t af2.kp (hr3 _) rfl
            exact ⟨_, rfl, .inl ⟨rfl, _, SqL.of hp2⟩, _, rfl, p, _, _, rfl, rfl, hp2, by rw [List.length_map]; omega, fin _ H2 fp2 u2 l3 _ _ _ es A2 ((afx.same tt).trans af2) hp2 (Paired.mapP ans1 fun a b h => still_keep nrL A1t af2.kp (tt _ _ h) rfl) hr2 l3p hu2' (by omega)⟩
          | made n =>
            refine ite2 (fun e => absurd e (by first | decide +kernel | (show ¬ decide (V.str _ = V.str "refused") = true; decide +kernel))) (fun _ => ?_)
            exact ⟨_, rfl, .inl ⟨rfl, _, SqL.of hp1⟩, _, rfl, p, _, _, rfl, rfl, hp1, by rw [List.length_map]; omega, fin _ H1 fp1 u r _ _ _ (by unfold stepJ; rw [ef]; rfl) A1 afx hp1 ans1 hr1 rne hu1 (by omega)⟩
          | put v =>
            refine ite2 (fun e => absurd e (by first | decide +kernel | (show ¬ decide (V.str _ = V.str "refused") = true; decide +kernel))) (fun _ => ?_)
            exact ⟨_, rfl, .inl ⟨rfl, _, SqL.of hp1⟩, _, rfl, p, _, _, rfl, rfl, hp1, by rw [List.length_map]; omega, fin _ H1 fp1 u r _ _ _ (by unfold stepJ; rw [ef]; rfl) A1 afx hp1 ans1 hr1 rne hu1 (by omega)⟩
          | clash n w' =>
            refine ite2 (fun e => absurd e (by first | decide +kernel | (show ¬ decide (V.str _ = V.str "refused") = true; decide +kernel))) (fun _ => ?_)
            exact ⟨_, rfl, .inl ⟨rfl, _, SqL.of hp1⟩, _, rfl, p, _, _, rfl, rfl, hp1, by rw [List.length_map]; omega, fin _ H1 fp1 u r _ _ _ (by unfold stepJ; rw [ef]; rfl) A1 afx hp1 ans1 hr1 rne hu1 (by omega)⟩
      | shut n0 v0 c0 =>
        refine ⟨_, rfl, t, _, _, _, rfl, rfl, SqT.of htx, rfl, rfl, _, rfl, ite2 (fun _ => ?_) (fun e => absurd rfl e)⟩
        refine ⟨_, rfl, t, _, _, _, rfl, rfl, SqT.of htx, rfl, _, rfl, r, _, rfl, .inl (SqL.of hrx), rfl, flat_ints _, _, rfl, ?_⟩
        rw [show (if false = true then !inV (.int n0) ((joinS S (ls.take i)).rs.map V.int) else inV (.int n0) ((joinS S (ls.take i)).rs.map V.int)) = inV (.int n0) ((joinS S (ls.take i)).rs.map V.int) from rfl, in_ints]
        refine ite2 (fun e => ?_) (fun e => ?_)
        · have hm := of_decide_eq_true e
          have ef : firstA (joinS S (ls.take i)).s (joinS S (ls.take i)).rs (.shut n0 v0 c0) = ((joinS S (ls.take i)).s, .no "stale") := if_pos hm
          have es : stepJ (joinS S (ls.take i)) (.shut n0 v0 c0) = ⟨(clashA (joinS S (ls.take i)).s c0 "stale").1, (joinS S (ls.take i)).rs, (joinS S (ls.take i)).as ++ [(clashA (joinS S (ls.take i)).s c0 "stale").2]⟩ := by
            unfold stepJ
            rw [ef]
            show (⟨_, stepRs _ _, _⟩ : Jn) = _
            unfold stepRs
            dsimp only
            rw [if_pos hm]
            rfl
          refine ⟨_, rfl, .inl ⟨rfl, _, SqL.of hpx⟩, _, rfl, _, rfl, t, _, _, _, rfl, rfl, SqT.of htx, rfl, m, fpx, _, c0, "stale", rfl, Ax, gx, fun u2 H2 fp2 A2 af2 hu2 hu2' => ?_⟩
          have hp2 := still_keep nrL Ax af2.kp hpx rfl
          have hr2 := still_keep nrL Ax af2.kp hrx rfl
          exact ⟨p, _, _, rfl, rfl, hp2, by rw [List.length_map]; omega, fin _ H2 fp2 u2 r _ _ _ es A2 (af.trans af2) hp2 (Paired.mapP ans fun a b h => still_keep nrL Ax af2.kp h rfl) hr2 rne hu2' (by omega)⟩
        have hm := of_decide_eq_false (Bool.eq_false_iff.mpr e)
        have ef : firstA (joinS S (ls.take i)).s (joinS S (ls.take i)).rs (.shut n0 v0 c0) = (joinS S (ls.take i)).s.do nameB (.put n0 v0 c0) := (if_neg hm).trans (doP_put gx hlL.1)
        refine ⟨_, rfl, _, rfl, m, t, fpx, _, .pt true n0 v0 c0, rfl, Ax, gx, htx, hlL, fun u H1 fp1 A1 af1 hu hu1 => ?_⟩
        have hp1 := still_keep nrL Ax af1.kp hpx rfl
        have hr1 := still_keep nrL Ax af1.kp hrx rfl
        have ht1 := still_keep nrL Ax af1.kp htx rfl
        have ans1 : AnsAt H1 ps (joinS S (ls.take i)).as := Paired.mapP ans fun a b h => still_keep nrL Ax af1.kp h rfl
        have afx := af.trans af1
        have g1 := (firstA_good gx (joinS S (ls.take i)).rs (.shut n0 v0 c0) hll)
        rw [ef] at g1
        rw [show (GD.pt true n0 v0 c0).deed = .put n0 v0 c0 from rfl] at A1 hu1
        cases ed : (joinS S (ls.take i)).s.do nameB (.put n0 v0 c0) with
        | mk S1 x =>
          rw [ed] at hu1 A1 g1 ef
          refine ⟨_, rfl, u, _, _, _, rfl, rfl, SqT.of hu1, (by cases x <;> rfl : atI x.v 0 = some (x.v.getD 0 .non)), (by cases x <;> rfl), _, rfl, ?_⟩
          cases x with
          | no w' =>
            have es : stepJ (joinS S (ls.take i)) (.shut n0 v0 c0) = ⟨(clashA S1 c0 w').1, (joinS S (ls.take i)).rs ++ [n0], (joinS S (ls.take i)).as ++ [(clashA S1 c0 w').2]⟩ := by
              unfold stepJ
              rw [ef]
              show (⟨_, stepRs _ _, _⟩ : Jn) = _
              unfold stepRs
              dsimp only
              rw [if_neg hm]
              rfl
            refine ite2 (fun _ => ?_) (fun e => absurd rfl e)
            refine ⟨_, rfl, _, rfl, t, _, _, _, rfl, rfl, SqT.of ht1, rfl, (by show 1 ≤ sizeLine; decide), fun l1 h1 => ?_⟩
            have t1 := same_new h1 (.lst [.int n0])
            refine ⟨_, rfl, t, _, _, _, rfl, rfl, SqT.of (t1 _ _ ht1), rfl, rfl, .inr ⟨_, rfl, ?_⟩⟩
            rw [show (decide (V.str "shut" = V.str "shut")) = true by decide +kernel]
            refine ⟨l1, _, _, rfl, rfl, upd_same, by decide, by decide, (by show 1 * 1 ≤ sizeLine; decide), fun l2 h2 => ?_⟩
            have t2 := same_new h2 (.lst (List.replicate (if true = true then (1 : Int) else 0).toNat [V.int n0]).flatten)
            refine ⟨r, l2, _, _, rfl, rfl, t2 _ _ (t1 _ _ hr1), upd_same, (by rw [List.length_map]; show _ + 1 ≤ sizeLine; omega), fun l3 h3 => ?_⟩
            have t3 := same_new h3 (.lst ((joinS S (ls.take i)).rs.map V.int ++ (List.replicate (if true = true then (1 : Int) else 0).toNat [V.int n0]).flatten))
            have tt := t1.trans (t2.trans t3)
            have l3p : l3 ≠ p := fun e => by rw [e, t2 _ _ (t1 _ _ hp1)] at h3; cases h3
            have hr3 : ∀ Hz : Hp, (upd Hz l3 (HO.lst ((joinS S (ls.take i)).rs.map V.int ++ (List.replicate (if true = true then (1 : Int) else 0).toNat [V.int n0]).flatten))) l3 = some (.lst (((joinS S (ls.take i)).rs ++ [n0]).map V.int)) := fun Hz => by
              rw [upd_same, List.map_append]
              rfl
            refine ⟨_, rfl, _, rfl, t, _, _, _, rfl, rfl, SqT.of (tt _ _ ht1), rfl, _, rfl, u, _, _, _, rfl, rfl, SqT.of (tt _ _ hu1), rfl, m, fp1, S1, c0, w', rfl, A1.same tt, g1.1, fun u2 H2 fp2 A2 af2 hu2 hu2' => ?_⟩
            have A1t := A1.same tt
            have hp2 := still_keep nrL A1t af2.kp (tt _ _ hp1) rfl
            have hr2 := still_keep nrL A1t af2.kp (hr3 _) rfl
            exact ⟨_, rfl, .inl ⟨rfl, _, SqL.of hp2⟩, _, rfl, p, _, _, rfl, rfl, hp2, by rw [List.length_map]; omega, fin _ H2 fp2 u2 l3 _ _ _ es A2 ((afx.same tt).trans af2) hp2 (Paired.mapP ans1 fun a b h => still_keep nrL A1t af2.kp (tt _ _ h) rfl) hr2 l3p hu2' (by rw [List.length_append, List.length_singleton]; omega)⟩
          | made n =>
            refine ite2 (fun e => absurd e (by first | decide +kernel | (show ¬ decide (V.str _ = V.str "refused") = true; decide +kernel))) (fun _ => ?_)
            exact ⟨_, rfl, .inl ⟨rfl, _, SqL.of hp1⟩, _, rfl, p, _, _, rfl, rfl, hp1, by rw [List.length_map]; omega, fin _ H1 fp1 u r _ _ _ (by unfold stepJ; rw [ef]; rfl) A1 afx hp1 ans1 hr1 rne hu1 (by omega)⟩
          | put v =>
            refine ite2 (fun e => absurd e (by first | decide +kernel | (show ¬ decide (V.str _ = V.str "refused") = true; decide +kernel))) (fun _ => ?_)
            exact ⟨_, rfl, .inl ⟨rfl, _, SqL.of hp1⟩, _, rfl, p, _, _, rfl, rfl, hp1, by rw [List.length_map]; omega, fin _ H1 fp1 u r _ _ _ (by unfold stepJ; rw [ef]; rfl) A1 afx hp1 ans1 hr1 rne hu1 (by omega)⟩
          | clash n w' =>
            refine ite2 (fun e => absurd e (by first | decide +kernel | (show ¬ decide (V.str _ = V.str "refused") = true; decide +kernel))) (fun _ => ?_)
            exact ⟨_, rfl, .inl ⟨rfl, _, SqL.of hp1⟩, _, rfl, p, _, _, rfl, rfl, hp1, by rw [List.length_map]; omega, fin _ H1 fp1 u r _ _ _ (by unfold stepJ; rw [ef]; rfl) A1 afx hp1 ans1 hr1 rne hu1 (by omega)⟩
  · rintro σ Hx ⟨fpx, ps, r, v4, v5, rfl, Ax, af, hpx, ans, hrx, nr, gx, lx, n1, n2⟩
    have el : ls.take (ts.map V.ref).length = ls := by rw [List.length_map, hlen]; exact List.take_length
    rw [el] at Ax ans
    refine ⟨_, rfl, (by show 2 ≤ sizeLine; decide), fun u hu => ?_⟩
    exact q u p _ fpx ps (Ax.same (same_new hu _)) (af.same (same_new hu _)) (af.fresh Ax hu) hp upd_same ((same_new hu _) _ _ hpx) (Paired.mapP ans fun a b h => (same_new hu _) _ _ h)
end
end K32
set_option Elab.async false
set_option linter.all false
set_option maxRecDepth 100000
set_option maxHeartbeats 4000000
namespace K32
open PySem L2
theorem _root_.L2.ShAt.lst {rt : Rt} (nr : ∀ a b n, Still (rt a b n) = false) {H : Hp} {L df dg : Addr} {fp : List Addr} {S : Sh} {fa : List (Int × Addr × Ent)} {ft : List (Int × Addr × Int × Str)} (A : ShAt rt H L fp S df dg fa ft) {p : Addr} {xs ys : List V} (hp : H p = some (.lst xs)) : ShAt rt (upd H p (.lst ys)) L fp S df dg fa ft := by
  have pn : p ∉ fp := fun z => A.still nr hp rfl z
  have k : Kp [p] H (upd H p (.lst ys)) := (Kp.refl _ H).put (.head _)
  refine ⟨k _ _ (fun z => pn (by rw [← List.mem_singleton.mp z]; exact A.memL)) A.root, A.tab.frame k (fun b hb z => pn (by rw [← List.mem_singleton.mp z, A.fp_]; exact .tail _ hb)) (fun b hb xs e => ?_), A.fp_, A.nl, A.sfo, A.sfi⟩
  rw [List.mem_singleton.mp hb, hp] at e
  cases e
theorem _root_.L2.ShAt.keep {rt : Rt} (nr : ∀ a b n, Still (rt a b n) = false) {H H' : Hp} {L df dg : Addr} {fp : List Addr} {S : Sh} {fa : List (Int × Addr × Ent)} {ft : List (Int × Addr × Int × Str)} (A : ShAt rt H L fp S df dg fa ft) {p : Addr} (hp : D4 H p) (k0 : Keep p H H') : ShAt rt H' L fp S df dg fa ft := by
  obtain ⟨_, _, _, _, hp⟩ := hp
  have pn : p ∉ fp := fun z => A.still nr hp rfl z
  have k : Kp [p] H H' := fun b o n e => k0 b o (fun z => n (by rw [z]; exact .head _)) e
  refine ⟨k _ _ (fun z => pn (by rw [← List.mem_singleton.mp z]; exact A.memL)) A.root, A.tab.frame k (fun b hb z => pn (by rw [← List.mem_singleton.mp z, A.fp_]; exact .tail _ hb)) (fun b hb xs e => ?_), A.fp_, A.nl, A.sfo, A.sfi⟩
  rw [List.mem_singleton.mp hb, hp] at e
  cases e
theorem _root_.L2.ShE.keep {rt : Rt} (nr : ∀ a b n, Still (rt a b n) = false) {H H' : Hp} {L : Addr} {fp : List Addr} {S : Sh} (A : ShE rt H L fp S) {p : Addr} (hp : D4 H p) (k0 : Keep p H H') : ShE rt H' L fp S := by
  obtain ⟨_, _, _, _, A⟩ := A
  exact ⟨_, _, _, _, A.keep nr hp k0⟩
noncomputable def hide (p : Addr) (H : Hp) : Hp := fun b => if b = p then none else H b
theorem hide_ne {p b : Addr} {H : Hp} (h : b ≠ p) : hide p H b = H b := if_neg h
theorem hide_at {p b : Addr} {H : Hp} {o : HO} (h : H b = some o) (n : b ≠ p) : hide p H b = some o := by rw [hide_ne n]; exact h
theorem hide_same {p : Addr} {H H' : Hp} (s : Same H H') : Same (hide p H) (hide p H') := fun b o h => by
  unfold hide at h ⊢
  split at h
  · cases h
  · rename_i e
    rw [if_neg e]
    exact s b o h
theorem hide_upd {p : Addr} {H : Hp} {o : HO} : hide p (upd H p o) = hide p H := by
  funext b
  unfold hide
  split
  · rfl
  · rename_i e
    exact upd_ne e
theorem same_hide {p : Addr} {H : Hp} : Same (hide p H) H := fun b o h => by
  unfold hide at h
  split at h
  · cases h
  · exact h
noncomputable def spLrows : Sp := fun vs H Q _ => ∃ (m : Addr) (fp : List Addr) (S : Sh), vs = [.ref m] ∧ ShE rtL H m fp S ∧ Good S ∧ ∀ u H', H u = none → Same H H' → DA H' (.ref u) (.list (rowsD S)) → Q (.ref u) H'
section
variable {P : Program} {w : World} {K : PySem.W.Frag} {mg : Str → Option Value} {base : Heap} {C aN aC aF aG : Addr}
theorem sc_lrows : FnScope ["_law_kept", "_law_rows_here", "_law_number"] ["_law_kept"] (defScope s_lrows) := ⟨rfl, rfl, rfl, by decide +kernel, rfl, by decide +kernel, by decide +kernel⟩
theorem ok_lrows {f : Addr} {fd : FuncData} (F : Fun K "_law_rows" "_law_rows" s_lrows f fd) (T : Txt0 mg K w C aN aC aF aG) : FnOk P w K mg base CX0 1 f fd ["_law_kept"] spLrows := by
  refine F.ok sc_lrows (fun vs H Q E h => ?_) (fun cdv A outer s H vs Q E hr h => ?_)
  · obtain ⟨m, fp, S, rfl, _⟩ := h
    rfl
  obtain ⟨m, fp, S, rfl, A0, g, q⟩ := h
  refine ⟨_, (pss_cons (ps_set (i := 1) sc_lrows.nd rfl (Or.inl rfl) (pe_lst pa_nil))
    (pss_cons (ps_for PassesOwn.never rfl (pi_range1 rfl T.T.b_range (pa_cons (pe_op op_add (pe_dget (hu_of hr) (pv 0) pe_str (fun _ _ => rfl)) pe_int) pa_nil)) (pg_name (i := 2) sc_lrows.nd rfl (Or.inl rfl))
      (pss_cons (ps_if (pt_cmp (pc_din (hu_of hr) (pv 2) (pe_dget (hu_of hr) (pv 0) pe_str (fun _ _ => rfl))) rfl)
      (pss_one (ps_expr (pe_bm PySem.F.plainAttrs_list PySem.F.slot_list_append PySem.F.type_list_append mt_append (pv 1) (pa_cons (pe_tup (pa_cons pe_str (pa_cons (pv 2) (pa_cons (pe_callB (call_sortedItems rfl) rfl T.T.b_sorted PyProof.Rows.boot_sorted (pa_cons (pe_bm0 PySem.F.plainAttrs_dict PySem.F.slot_dict_items PySem.F.type_dict_items mt_items (pe_dget (hu_of hr) (pe_dget (hu_of hr) (pv 0) pe_str (fun _ _ => rfl)) (pv 2) (fun _ _ => rfl))) pa_nil)) pa_nil)))) pa_nil)))) pss_nil)
    (pss_one (ps_if (pt_cmp (pc_din (hu_of hr) (pv 2) (pe_dget (hu_of hr) (pv 0) pe_str (fun _ _ => rfl))) rfl)
      (pss_one (ps_expr (pe_bm PySem.F.plainAttrs_list PySem.F.slot_list_append PySem.F.type_list_append mt_append (pv 1) (pa_cons (pe_op op_catT (pe_tup (pa_cons pe_str (pa_cons (pv 2) pa_nil))) (pe_dget (hu_of hr) (pe_dget (hu_of hr) (pv 0) pe_str (fun _ _ => rfl)) (pv 2) (fun _ _ => rfl))) pa_nil)))) pss_nil))))
    (pss_one (ps_ret (pv 1))))), ?_⟩
  obtain ⟨df, dg, fa, ft, A0⟩ := A0
  have hs : sizeLine = 16777216 := sizeLine_eq
  have lo := g.low
  have tp := g.top
  refine ⟨(by show 0 ≤ sizeLine; omega), fun p hp => ?_⟩
  have s1 := same_new hp (.lst [])
  have A1 := A0.same s1
  have en : (S.last + 1) = ((S.last.toNat + 1 : Nat) : Int) := by omega
  refine ⟨_, rfl, m, .int S.last, rfl, mL A1.root, _, _, rfl, rfl, S.last.toNat + 1, by show [V.int (S.last + 1)] = _; rw [en]; rfl, by omega, by omega, for_range (lo := 0) (n := S.last.toNat + 1) (fun i σ Hx => ∃ (ps : List V) (v2 : Option V), σ = [some (.ref m), some (.ref p), v2] ∧ Same H Hx ∧ Hx p = some (.lst ps) ∧ DAs (hide p Hx) ps ((List.range i).map fun n : Nat => rowD S n) ∧ ps.length ≤ i) ?_ ?_ ?_⟩
  · exact ⟨[], none, rfl, s1, upd_same, .nil, Nat.le_refl _⟩
  · rintro i σ Hx hi ⟨ps, v2, rfl, sx, hpx, da, hlen⟩
    rw [Int.zero_add]
    have A2 := A0.same sx
    have fin : ∀ (H2 : Hp) (u : Addr), Same Hx H2 → H2 p = some (.lst ps) → DA (hide p H2) (.ref u) (rowD S i) → ∃ (ps' : List V) (v2 : Option V), [some (.ref m), some (.ref p), some (.int i)] = [some (.ref m), some (.ref p), v2] ∧ Same H (upd H2 p (.lst (ps ++ [.ref u]))) ∧ upd H2 p (.lst (ps ++ [.ref u])) p = some (.lst ps') ∧ DAs (hide p (upd H2 p (.lst (ps ++ [.ref u])))) ps' ((List.range (i + 1)).map fun n : Nat => rowD S n) ∧ ps'.length ≤ i + 1 := by
      intro H2 u s2 hp2 du
      refine ⟨ps ++ [.ref u], _, rfl, fun b o h => ?_, upd_same, ?_, by simp; omega⟩
      · rw [upd_ne (ne_of_none h hp)]
        exact s2 _ _ (sx _ _ h)
      · rw [hide_upd, List.range_succ, List.map_append]
        exact (da.same (hide_same s2)).snoc du
    refine ⟨_, rfl, _, rfl, m, .ref df, rfl, mF A2.root, df, _, rfl, A2.tab.getF i, _, rfl, ?_⟩
    rw [some_map]
    refine ite2 (fun e => ?_) (fun e => ?_)
    · have e' : (lkp S.fo (i : Int)).isSome = true := by rw [A0.sfo, lkp_fo, some_map]; exact e
      obtain ⟨a, es, e1, e2⟩ := A0.fo_some e'
      have le := A0.entLen g e1
      have efi : lkp ft (i : Int) = none := by
        have := g.apart (i : Int) e'
        rw [A0.sfi, lkp_fi] at this
        cases z : lkp ft (i : Int) with
        | none => rfl
        | some y => rw [z] at this; cases this
      refine ⟨_, rfl, .inl ⟨rfl, _, SqL.of hpx⟩, _, rfl, _, rfl, m, .ref df, rfl, mF A2.root, _, rfl, df, .ref a, rfl, (by have := A2.tab.getF i; rw [e1] at this; exact this), .inr (.inr (.inl ⟨rfl, .inl ⟨_, A2.tab.he _ (lkp_mem e1)⟩⟩)), a, _, rfl, rfl, A2.tab.he _ (lkp_mem e1), fun v hv => ?_⟩
      refine ⟨v, a, es, rfl, upd_same, (same_new hv _) _ _ (A2.tab.he _ (lkp_mem e1)), by omega, fun H' l ts s' hl hl' hlen' hat => ?_⟩
      refine ⟨(by show 3 ≤ sizeLine; decide), fun u hu => ?_⟩
      have s2 := same_new hu (.tup [.str "folder", .int i, .ref l])
      have hl0 := same_new hv (viewI v a)
      have ss : Same Hx _ := hl0.trans (s'.trans s2)
      have hp2 := ss _ _ hpx
      have lp : l ≠ p := fun z => by rw [z, hl0 _ _ hpx] at hl; cases hl
      have up : u ≠ p := fun z => by rw [z, s' _ _ (hl0 _ _ hpx)] at hu; cases hu
      refine ⟨p, _, _, rfl, rfl, hp2, by omega, ?_⟩
      have A3 := (A2.same ss).lst nrL (ys := ps ++ [.ref u]) hp2
      refine ⟨_, rfl, _, rfl, m, .ref dg, rfl, mG A3.root, dg, _, rfl, A3.tab.getG i, _, rfl, ?_⟩
      rw [some_map, efi]
      refine ite2 (fun e => nomatch e) (fun _ => ?_)
      refine fin _ u ss hp2 ?_
      have er : rowD S (i : Int) = .tuple [.str "folder", .int i, .list ((sortE es).map fun e => .tuple [.str e.1, .int e.2])] := by unfold rowD; rw [e2]
      rw [er]
      refine .tup (hide_at upd_same up) (.cons (.str _) (.cons (.int _) (.cons (.lst (hide_at (s2 _ _ hl') lp) ?_) .nil)))
      refine ent_da hlen' fun j b e e3 e4 => ?_
      have hb := s2 _ _ (hat j b e e3 e4)
      exact hide_at hb (ne_of hb hp2 (by intro z; cases z))
    · have e' : (lkp S.fo (i : Int)).isSome = false := by rw [A0.sfo, lkp_fo, some_map]; exact Bool.eq_false_iff.mpr e
      have hfi : (lkp S.fi (i : Int)).isSome = true := by
        rcases (g.cover (i : Int)).mpr ⟨by omega, by omega⟩ with h | h
        · rw [e'] at h; cases h
        · exact h
      obtain ⟨a, v, c, e1, e2⟩ := A0.fi_some hfi
      refine ⟨_, rfl, _, rfl, m, .ref dg, rfl, mG A2.root, dg, _, rfl, A2.tab.getG i, _, rfl, ?_⟩
      rw [some_map, e1]
      refine ite2 (fun _ => ?_) (fun e => absurd rfl e)
      refine ⟨_, rfl, .inl ⟨rfl, _, SqL.of hpx⟩, _, rfl, (by show 2 ≤ sizeLine; decide), fun t ht => ?_⟩
      have s1 := same_new ht (.tup [.str "file", .int i])
      have A3 := A2.same s1
      refine ⟨_, rfl, m, .ref dg, rfl, mG A3.root, _, rfl, dg, .ref a, rfl, (by have := A3.tab.getG i; rw [e1] at this; exact this), t, a, _, _, rfl, rfl, SqT.of upd_same, SqT.of (A3.tab.ht _ (lkp_mem e1)), by simp, by simp; decide, (fun z => nomatch z), fun _ u hu => ?_⟩
      have s2 := same_new hu (.tup ([.str "file", .int i] ++ [.int v, .str c]))
      have er : rowD S (i : Int) = .tuple [.str "file", .int i, .int v, .str c] := by
        unfold rowD
        cases z : lkp S.fo (i : Int) with
        | some x => rw [z] at e'; cases e'
        | none => dsimp only; rw [e2]; rfl
      have hp2 := s2 _ _ (s1 _ _ hpx)
      have up : u ≠ p := fun z => by rw [z, s1 _ _ hpx] at hu; cases hu
      refine ⟨p, _, _, rfl, rfl, hp2, by omega, fin _ u (s1.trans s2) hp2 ?_⟩
      rw [er]
      exact .tup (hide_at upd_same up) (.cons (.str _) (.cons (.int _) (.cons (.int _) (.cons (.str _) .nil))))
  · rintro σ Hx ⟨ps, v2, rfl, sx, hpx, da, hlen⟩
    exact ⟨_, rfl, q p Hx hp sx (.lst hpx (da.same same_hide))⟩
end
end K32
set_option Elab.async false
set_option linter.all false
set_option maxRecDepth 100000
set_option maxHeartbeats 4000000
namespace K32
open PySem L2
theorem at_mem {α : Type} {f : α → V} {xs : List α} {r : Int} (h0 : 0 ≤ r) (h1 : r < xs.length) : ∃ x, x ∈ xs ∧ atI (xs.map f) r = some (f x) := by
  have hz : r.toNat < xs.length := by omega
  have e : ((r.toNat : Nat) : Int) = r := by omega
  have q := atI_nat (xs := xs.map f) (j := r.toNat) (v := f xs[r.toNat]) (by rw [List.getElem?_map, List.getElem?_eq_getElem hz]; rfl)
  rw [e] at q
  exact ⟨_, List.getElem_mem hz, q⟩
structure NmAt (H : Hp) (l p : Addr) (xs : List Str) : Prop where
  at_ : H l = some (.lst (xs.map V.str))
  ne : l ≠ p
  len : xs.length = 9
  le : ∀ x ∈ xs, x.length ≤ 1000
theorem NmAt.keep {H H' : Hp} {l p : Addr} {xs : List Str} (h : NmAt H l p xs) (k : Keep p H H') : NmAt H' l p xs := ⟨k _ _ h.ne h.at_, h.ne, h.len, h.le⟩
noncomputable def spLname : Sp := fun vs H Q _ => ∃ (m p l : Addr) (fp : List Addr) (S : Sh) (xs : List Str), vs = [.ref m, .ref p, .ref l] ∧ ShE rtL H m fp S ∧ Good S ∧ D4 H p ∧ NmAt H l p xs ∧
  ∀ (x : Str) (H' : Hp), x.length ≤ 1000 → D4 H' p → Keep p H H' → Q (.str x) H'
noncomputable def wordsL : Bool → List Str
  | false => ["make", "make", "fold", "put"]
  | true => ["shut", "shut", "shut", "make"]
noncomputable def gFits : Bool → GD → Prop
  | false, d => gV d = dV d.deed
  | true, d => ∃ l : Lone, d = l.gd
noncomputable def spLdeed : Sp := fun vs H Q _ => ∃ (m p l wl : Addr) (fp : List Addr) (S : Sh) (xs : List Str) (b : Bool), vs = [.ref m, .ref p, .ref l, .ref wl] ∧ ShE rtL H m fp S ∧ Good S ∧ D4 H p ∧ NmAt H l p xs ∧ H wl = some (.lst ((wordsL b).map V.str)) ∧ wl ≠ p ∧
  ∀ (u : Addr) (d : GD) (H' : Hp), gOk d → gFits b d → H u = none → H' u = some (.tup (gV d)) → D4 H' p → Keep p H H' → Q (.ref u) H'
section
variable {P : Program} {w : World} {K : PySem.W.Frag} {mg : Str → Option Value} {base : Heap} {C aN aC aF aG : Addr}
theorem sc_lname : FnScope ["_law_kept", "_law_d", "_law_names_here", "_law_some", "_law_way"] ["_law_kept", "_law_d", "_law_names_here"] (defScope s_lname) := ⟨rfl, rfl, rfl, by decide +kernel, rfl, by decide +kernel, by decide +kernel⟩
theorem ok_lname {f : Addr} {fd : FuncData} (F : Fun K "_law_name" "_law_name" s_lname f fd) (T : Txt0 mg K w C aN aC aF aG) (LPI : Cal P w K mg base "_law_pick" ["_law_d", "_law_many"] 1 spPk4) : FnOk P w K mg base CX0 2 f fd ["_law_kept", "_law_d", "_law_names_here"] spLname := by
  refine F.ok sc_lname (fun vs H Q E h => ?_) (fun cdv A outer s H vs Q E hr h => ?_)
  · obtain ⟨m, p, l, fp, S, xs, rfl, _⟩ := h
    rfl
  obtain ⟨m, p, l, fp, S, xs, rfl, A0, g, hd, hn, q⟩ := h
  refine ⟨_, (pss_cons (ps_set (i := 3) sc_lname.nd rfl (Or.inl rfl) (pe_lst (pa_cons (pe_op op_add_str pe_str (pe_callTy call_str_int rfl T.T.b_str PyProof.Rows.boot_str (pa_cons (pe_cal LPI hr rfl (pa_cons (pv 1) (pa_cons pe_int pa_nil))) pa_nil))) (pa_cons (pe_op op_add_str pe_str (pe_callTy call_str_int rfl T.T.b_str PyProof.Rows.boot_str (pa_cons (pe_op op_add (pe_op op_add (pe_dget (hu_of hr) (pv 0) pe_str (fun _ _ => rfl)) pe_int) (pe_cal LPI hr rfl (pa_cons (pv 1) (pa_cons pe_int pa_nil)))) pa_nil))) (pa_cons pe_str (pa_cons pe_str (pa_cons pe_str (pa_cons pe_str pa_nil))))))))
    (pss_cons (ps_set (i := 4) sc_lname.nd rfl (Or.inl rfl) (pe_cal LPI hr rfl (pa_cons (pv 1) (pa_cons pe_int pa_nil))))
    (pss_cons (ps_if (PW.pt (pw_and (pt_cmpR op_gt (pv 4) pe_int (nomark _)) (pw_and1 (pt_cmpR op_lt (pv 4) pe_int (nomark _)))))
      (pss_one (ps_ret (pe_ix ix_list (pv 3) (pe_ix ix_list (pe_lst (pa_cons pe_int (pa_cons pe_int (pa_cons pe_int (pa_cons pe_int pa_nil))))) (pe_op op_sub (pv 4) pe_int) (fun _ _ => rfl)) (fun _ _ => rfl)))) pss_nil)
    (pss_cons (ps_if (pt_cmpR op_eq (pv 4) pe_int (nomark _))
      (pss_one (ps_ret (pe_ix ix_list (pv 3) (pe_op op_add pe_int (pe_cal LPI hr rfl (pa_cons (pv 1) (pa_cons pe_int pa_nil)))) (fun _ _ => rfl)))) pss_nil)
    (pss_one (ps_ret (pe_ix ix_list (pv 2) (pe_cal LPI hr rfl (pa_cons (pv 1) (pa_cons (pe_callB call_len_seq rfl T.T.b_len PySem.boot_len (pa_cons (pv 2) pa_nil)) pa_nil))) (fun _ _ => rfl)))))))), ?_⟩
  obtain ⟨df, dg, fa, ft, A0⟩ := A0
  have hs : sizeLine = 16777216 := sizeLine_eq
  have lo := g.low
  have tp := g.top
  refine ⟨_, rfl, p, 40, rfl, hd, (by decide), (by decide), fun r1 H1 a0 a1 d1 k1 => ?_⟩
  have hn1 := num_len (n := r1) a0 (by omega)
  refine ⟨_, rfl, log_small (n := r1) a0 (by omega), _, _, rfl, rfl, (by show 1 + _ ≤ sizeLine; omega), ?_⟩
  have A1 := A0.keep nrL hd k1
  refine ⟨_, rfl, m, .int S.last, rfl, mL A1.root, _, _, rfl, rfl, _, rfl, p, 4, rfl, d1, (by decide), (by decide), fun r2 H2 b0 b1 d2 k2 => ?_⟩
  have hn2 := num_len (n := S.last + 1 + r2) (by omega) (by omega)
  refine ⟨_, _, rfl, rfl, _, rfl, log_small (n := S.last + 1 + r2) (by omega) (by omega), _, _, rfl, rfl, (by show 1 + _ ≤ sizeLine; omega), ?_⟩
  refine ⟨(by show 6 ≤ sizeLine; decide), fun l1 h1 => ?_⟩
  have k12 := k1.trans k2
  have l1p : l1 ≠ p := Ne.symm (d2.ne h1)
  refine ⟨_, rfl, p, 12, rfl, d2.laid h1, (by decide), (by decide), fun r3 H3 c0 c1 d3 k3 => ?_⟩
  have k13 : Keep p H H3 := (k12.laid h1).trans k3
  have hl3 := k3 _ _ l1p upd_same
  have lens : ∀ x ∈ [("c" ++ (toString r1 : Str)), ("c" ++ (toString (S.last + 1 + r2) : Str)), "c5a", "A", "", "ninesigns"], (x : Str).length ≤ 1000 := by
    intro x hx
    simp only [List.mem_cons, List.not_mem_nil, or_false] at hx
    rcases hx with rfl | rfl | rfl | rfl | rfl | rfl
    · rw [Str.length_append]; show 1 + _ ≤ 1000; omega
    · rw [Str.length_append]; show 1 + _ ≤ 1000; omega
    all_goals decide
  have got : ∀ (z : Int), 0 ≤ z → z < 6 → ∃ x : Str, x.length ≤ 1000 ∧ atI [V.str ("c" ++ (toString r1 : Str)), V.str ("c" ++ (toString (S.last + 1 + r2) : Str)), V.str "c5a", V.str "A", V.str "", V.str "ninesigns"] z = some (.str x) := by
    intro z z0 z1
    obtain ⟨x, hx, e⟩ := at_mem (f := V.str) (xs := [("c" ++ (toString r1 : Str)), ("c" ++ (toString (S.last + 1 + r2) : Str)), "c5a", "A", "", "ninesigns"]) z0 z1
    exact ⟨x, lens x hx, e⟩
  refine ⟨_, rfl, _, _, rfl, rfl, _, rfl, ite2 (fun e => ?_) (fun _ => iteF ?_)⟩
  · refine ⟨_, rfl, _, _, rfl, rfl, _, rfl, ite2 (fun e2 => ?_) (fun _ => ?_)⟩
    · have q1 := of_decide_eq_true e
      have q2 := of_decide_eq_true e2
      obtain ⟨z, ez, z0, z1⟩ : ∃ z : Int, atI [V.int 0, V.int 1, V.int 1, V.int 2] (r3 - 2) = some (.int z) ∧ 0 ≤ z ∧ z < 6 := by
        rcases (show r3 = 2 ∨ r3 = 3 ∨ r3 = 4 ∨ r3 = 5 by omega) with rfl | rfl | rfl | rfl
        · exact ⟨0, rfl, by decide, by decide⟩
        · exact ⟨1, rfl, by decide, by decide⟩
        · exact ⟨1, rfl, by decide, by decide⟩
        · exact ⟨2, rfl, by decide, by decide⟩
      obtain ⟨x, hx, ex⟩ := got z z0 z1
      refine ⟨_, rfl, (by show 4 ≤ sizeLine; decide), fun l2 h2 => ?_⟩
      exact ⟨_, rfl, _, _, rfl, rfl, l2, _, _, _, rfl, rfl, SqL.of upd_same, ez, l1, _, _, _, rfl, rfl, SqL.of ((same_new h2 _) _ _ hl3), ex, q x _ hx (d3.laid h2) (k13.laid h2)⟩
    · refine ⟨_, rfl, rfl, _, rfl, ite2 (fun e3 => ?_) (fun _ => ?_)⟩
      · refine ⟨_, rfl, _, rfl, p, 3, rfl, d3, (by decide), (by decide), fun r4 H4 f0 f1 d4 k4 => ?_⟩
        obtain ⟨x, hx, ex⟩ := got (3 + r4) (by omega) (by omega)
        exact ⟨_, _, rfl, rfl, l1, _, _, _, rfl, rfl, SqL.of (k4 _ _ l1p hl3), ex, q x _ hx d4 (k13.trans k4)⟩
      · have hn3 := hn.keep k13
        refine ⟨_, rfl, _, rfl, _, rfl, l, _, rfl, .inl (SqL.of hn3.at_), p, _, rfl, d3, (by rw [List.length_map, hn.len]; decide), (by rw [List.length_map, hn.len]; decide), fun r4 H4 f0 f1 d4 k4 => ?_⟩
        rw [List.length_map] at f1
        obtain ⟨x, hx, ex⟩ := at_mem (f := V.str) f0 f1
        exact ⟨l, _, _, _, rfl, rfl, SqL.of (hn3.keep k4).at_, ex, q x _ (hn.le x hx) d4 (k13.trans k4)⟩
  · refine ⟨_, rfl, rfl, _, rfl, ite2 (fun e3 => ?_) (fun _ => ?_)⟩
    · refine ⟨_, rfl, _, rfl, p, 3, rfl, d3, (by decide), (by decide), fun r4 H4 f0 f1 d4 k4 => ?_⟩
      obtain ⟨x, hx, ex⟩ := got (3 + r4) (by omega) (by omega)
      exact ⟨_, _, rfl, rfl, l1, _, _, _, rfl, rfl, SqL.of (k4 _ _ l1p hl3), ex, q x _ hx d4 (k13.trans k4)⟩
    · have hn3 := hn.keep k13
      refine ⟨_, rfl, _, rfl, _, rfl, l, _, rfl, .inl (SqL.of hn3.at_), p, _, rfl, d3, (by rw [List.length_map, hn.len]; decide), (by rw [List.length_map, hn.len]; decide), fun r4 H4 f0 f1 d4 k4 => ?_⟩
      rw [List.length_map] at f1
      obtain ⟨x, hx, ex⟩ := at_mem (f := V.str) f0 f1
      exact ⟨l, _, _, _, rfl, rfl, SqL.of (hn3.keep k4).at_, ex, q x _ (hn.le x hx) d4 (k13.trans k4)⟩
end
end K32
set_option Elab.async false
set_option linter.all false
set_option maxRecDepth 100000
set_option maxHeartbeats 4000000
namespace K32
open PySem L2
theorem small200 {n : Nat} (h : n ≤ 1000000) : (n : Int) < 2 ^ 200 := by
  have : (2 : Int) ^ 200 = 1606938044258990275541962092341162602522202993782792835301376 := by decide
  omega
theorem five_at (a b c d e : Int) {r : Int} (h0 : 0 ≤ r) (h1 : r < 5) : ∃ z : Int, atI [V.int a, V.int b, V.int c, V.int d, V.int e] r = some (.int z) ∧ z ∈ [a, b, c, d, e] := by
  obtain ⟨z, hz, ez⟩ := at_mem (f := V.int) (xs := [a, b, c, d, e]) h0 (by simpa using h1)
  exact ⟨z, ez, hz⟩
section
variable {P : Program} {w : World} {K : PySem.W.Frag} {mg : Str → Option Value} {base : Heap} {C aN aC aF aG : Addr}
theorem sc_ldeed : FnScope ["_law_kept", "_law_d", "_law_names_here", "_law_words", "_law_word", "_law_some", "_law_file", "_law_version", "_law_where"] ["_law_kept", "_law_d", "_law_names_here", "_law_words"] (defScope s_ldeed) := ⟨rfl, rfl, rfl, by decide +kernel, rfl, by decide +kernel, by decide +kernel⟩
theorem ok_ldeed {f : Addr} {fd : FuncData} (F : Fun K "_law_deed" "_law_deed" s_ldeed f fd) (T : Txt0 mg K w C aN aC aF aG) (LPI : Cal P w K mg base "_law_pick" ["_law_d", "_law_many"] 1 spPk4) (LCO : Cal P w K mg base "_law_content" ["_law_d"] 2 spCont) (LNA : Cal P w K mg base "_law_name" ["_law_kept", "_law_d", "_law_names_here"] 2 spLname) : FnOk P w K mg base CX0 3 f fd ["_law_kept", "_law_d", "_law_names_here", "_law_words"] spLdeed := by
  refine F.ok sc_ldeed (fun vs H Q E h => ?_) (fun cdv A outer s H vs Q E hr h => ?_)
  · obtain ⟨m, p, l, wl, fp, S, xs, b, rfl, _⟩ := h
    rfl
  obtain ⟨m, p, l, wl, fp, S, xs, b, rfl, A0, g, hd, hn, hw, wp, q⟩ := h
  refine ⟨_, (pss_cons (ps_set (i := 4) sc_ldeed.nd rfl (Or.inl rfl) (pe_ix ix_list (pv 3) (pe_cal LPI hr rfl (pa_cons (pv 1) (pa_cons (pe_callB call_len_seq rfl T.T.b_len PySem.boot_len (pa_cons (pv 3) pa_nil)) pa_nil))) (fun _ _ => rfl)))
    (pss_cons (ps_set (i := 5) sc_ldeed.nd rfl (Or.inl rfl) (pe_op op_cat (pe_callB (call_sortedD rfl) rfl T.T.b_sorted PyProof.Rows.boot_sorted (pa_cons (pe_dget (hu_of hr) (pv 0) pe_str (fun _ _ => rfl)) pa_nil)) (pe_lst (pa_cons (pe_cal LPI hr rfl (pa_cons (pv 1) (pa_cons pe_int pa_nil))) pa_nil))))
    (pss_cons (ps_set (i := 6) sc_ldeed.nd rfl (Or.inl rfl) (pe_ix ix_list (pv 5) (pe_cal LPI hr rfl (pa_cons (pv 1) (pa_cons (pe_callB call_len_seq rfl T.T.b_len PySem.boot_len (pa_cons (pv 5) pa_nil)) pa_nil))) (fun _ _ => rfl)))
    (pss_cons (ps_if (PW.pt (pw_or (pt_cmpR op_eq (pv 4) pe_str (nomark _)) (pw_or1 (pt_cmpR op_eq (pv 4) pe_str (nomark _)))))
      (pss_cons (ps_set (i := 7) sc_ldeed.nd rfl (Or.inl rfl) (pe_op op_add (pe_ix ix_tup (pe_dget2 (hu_of hr) (pe_dget (hu_of hr) (pv 0) pe_str (fun _ _ => rfl)) (pv 6) (pe_tup (pa_cons pe_int (pa_cons pe_str pa_nil))) ⟨rfl, rfl, rfl, rfl⟩) pe_int (fun _ _ => rfl)) (pe_ix ix_list (pe_lst (pa_cons pe_int (pa_cons pe_int (pa_cons pe_int (pa_cons pe_int (pa_cons pe_int pa_nil)))))) (pe_cal LPI hr rfl (pa_cons (pv 1) (pa_cons pe_int pa_nil))) (fun _ _ => rfl))))
    (pss_one (ps_ret (pe_tup (pa_cons (pv 4) (pa_cons (pv 6) (pa_cons (pv 7) (pa_cons (pe_cal LCO hr rfl (pa_cons (pv 1) pa_nil)) pa_nil)))))))) pss_nil)
    (pss_cons (ps_set (i := 8) sc_ldeed.nd rfl (Or.inl rfl) (pe_ix ix_list (pe_lst (pa_cons pe_int (pa_cons (pe_ix ix_list (pe_callB (call_sortedD rfl) rfl T.T.b_sorted PyProof.Rows.boot_sorted (pa_cons (pe_dget (hu_of hr) (pv 0) pe_str (fun _ _ => rfl)) pa_nil)) (pe_cal LPI hr rfl (pa_cons (pv 1) (pa_cons (pe_callB call_lenD rfl T.T.b_len PySem.boot_len (pa_cons (pe_dget (hu_of hr) (pv 0) pe_str (fun _ _ => rfl)) pa_nil)) pa_nil))) (fun _ _ => rfl)) (pa_cons (pv 6) pa_nil)))) (pe_ix ix_list (pe_lst (pa_cons pe_int (pa_cons pe_int (pa_cons pe_int (pa_cons pe_int (pa_cons pe_int pa_nil)))))) (pe_cal LPI hr rfl (pa_cons (pv 1) (pa_cons pe_int pa_nil))) (fun _ _ => rfl)) (fun _ _ => rfl)))
    (pss_cons (ps_if (pt_cmpR op_eq (pv 4) pe_str (nomark _))
      (pss_one (ps_ret (pe_tup (pa_cons pe_str (pa_cons (pv 8) (pa_cons (pe_cal LNA hr rfl (pa_cons (pv 0) (pa_cons (pv 1) (pa_cons (pv 2) pa_nil)))) pa_nil)))))) pss_nil)
    (pss_one (ps_ret (pe_tup (pa_cons pe_str (pa_cons (pv 8) (pa_cons (pe_cal LNA hr rfl (pa_cons (pv 0) (pa_cons (pv 1) (pa_cons (pv 2) pa_nil)))) (pa_cons (pe_cal LCO hr rfl (pa_cons (pv 1) pa_nil)) pa_nil))))))))))))), ?_⟩
  obtain ⟨df, dg, fa, ft, A0⟩ := A0
  have hs : sizeLine = 16777216 := sizeLine_eq
  have l1' := A0.foldLen g
  have l2' := A0.fileLen g
  have pm := keys_perm g
  have lo := g.low
  have tp := g.top
  have ln2 := pm.length_eq
  rw [List.length_map, List.length_range, List.length_append, List.length_map, List.length_map] at ln2
  have kk1 : (fa.map fun p => ((Sum.inl p.1 : Key), V.ref p.2.1)).map (fun p => kV p.1) = (S.fo.map (·.1)).map V.int := by
    rw [A0.sfo, fo_keys, List.map_map, List.map_map]; rfl
  have kk2 : (ft.map fun p => ((Sum.inl p.1 : Key), V.ref p.2.1)).map (fun p => kV p.1) = (S.fi.map (·.1)).map V.int := by
    rw [A0.sfi, fi_keys, List.map_map, List.map_map]; rfl
  have hfo1 : 0 < S.fo.length := by
    cases e : S.fo with
    | nil => have := g.one; rw [e] at this; cases this
    | cons a b => simp
  have hfol : fa.length = S.fo.length := by rw [A0.sfo]; unfold foOf; rw [List.length_map]
  have wlen : (wordsL b).length = 4 := by cases b <;> rfl
  -- the word
  refine ⟨_, rfl, _, rfl, _, rfl, wl, _, rfl, .inl (SqL.of hw), p, _, rfl, hd, (by rw [List.length_map, wlen]; decide), (by rw [List.length_map, wlen]; decide), fun r1 H1 a0 a1 d1 k1 => ?_⟩
  rw [List.length_map] at a1
  obtain ⟨x, hx, ex⟩ := at_mem (f := V.str) a0 a1
  refine ⟨wl, _, _, _, rfl, rfl, SqL.of (k1 _ _ wp hw), ex, ?_⟩
  -- files and one more
  have A1 := A0.keep nrL hd k1
  refine ⟨_, rfl, m, .ref dg, rfl, mG A1.root, dg, _, S.fi.map (·.1), rfl, .inl A1.tab.hg, kk2, (by rw [List.length_map]; omega), fun l1 ns' h1 hp1 _ => ?_⟩
  have hns : ns'.length ≤ 100 := by have := hp1.length_eq; rw [List.length_map] at this; omega
  refine ⟨_, rfl, p, 9, rfl, d1.laid h1, (by decide), (by decide), fun r2 H2 b0 b1 d2 k2 => ?_⟩
  have l1p : l1 ≠ p := Ne.symm (d1.ne h1)
  refine ⟨(by show 1 ≤ sizeLine; decide), fun l2 h2 => ?_⟩
  have K2 : Keep p H H2 := (k1.laid h1).trans k2
  refine ⟨l1, l2, _, _, rfl, rfl, (same_new h2 _) _ _ (k2 _ _ l1p upd_same), upd_same, (by rw [List.length_map]; show _ + 1 ≤ _; omega), fun l3 h3 => ?_⟩
  have d3 := (d2.laid (o := .lst [.int r2]) h2).laid (o := .lst (ns'.map V.int ++ [.int r2])) h3
  have K3 := (K2.laid (o := .lst [.int r2]) h2).laid (o := .lst (ns'.map V.int ++ [.int r2])) h3
  have l3p : l3 ≠ p := Ne.symm ((d2.laid (o := .lst [.int r2]) h2).ne h3)
  have e3 : ns'.map V.int ++ [V.int r2] = (ns' ++ [r2]).map V.int := by rw [List.map_append]; rfl
  rw [e3] at d3 K3 ⊢
  -- the file
  refine ⟨_, rfl, _, rfl, _, rfl, l3, _, rfl, .inl (SqL.of upd_same), p, _, rfl, d3, (by rw [List.length_map, List.length_append]; show (0 : Int) < ((_ + 1 : Nat) : Int); omega), (by rw [List.length_map, List.length_append]; exact small200 (by show _ + 1 ≤ 1000000; omega)), fun r4 H4 c0 c1 d4 k4 => ?_⟩
  rw [List.length_map] at c1
  obtain ⟨n, hn', en⟩ := at_mem (f := V.int) c0 c1
  refine ⟨l3, _, _, _, rfl, rfl, SqL.of (k4 _ _ l3p upd_same), en, ?_⟩
  have K4 := K3.trans k4
  have A4 := A0.keep nrL hd K4
  have hx4 : (x = "put" ∧ b = false) ∨ (x = "shut" ∧ b = true) ∨ (x = "fold" ∧ b = false) ∨ x = "make" := by
    cases b with
    | false =>
      have hx' : x ∈ (["make", "make", "fold", "put"] : List Str) := hx
      simp only [List.mem_cons, List.not_mem_nil, or_false] at hx'
      rcases hx' with h | h | h | h
      · exact .inr (.inr (.inr h))
      · exact .inr (.inr (.inr h))
      · exact .inr (.inr (.inl ⟨h, rfl⟩))
      · exact .inl ⟨h, rfl⟩
    | true =>
      have hx' : x ∈ (["shut", "shut", "shut", "make"] : List Str) := hx
      simp only [List.mem_cons, List.not_mem_nil, or_false] at hx'
      rcases hx' with h | h | h | h
      · exact .inr (.inl ⟨h, rfl⟩)
      · exact .inr (.inl ⟨h, rfl⟩)
      · exact .inr (.inl ⟨h, rfl⟩)
      · exact .inr (.inr (.inr h))
  rcases hx4 with ⟨rfl, rfl⟩ | ⟨rfl, rfl⟩ | ⟨rfl, rfl⟩ | rfl
  · refine ⟨_, rfl, rfl, _, rfl, ite2 (fun _ => iteT ?_) (fun e => absurd rfl e)⟩
    refine ⟨_, rfl, m, .ref dg, rfl, mG A4.root, dg, rfl, .inl ⟨_, .inl A4.tab.hg⟩, _, rfl, (by show 2 ≤ sizeLine; decide), fun t0 h0 => ?_⟩
    have A5 := A4.same (same_new h0 (.tup [.int 0, .str ""]))
    refine ⟨_, A5.tab.getG n, ?_⟩
    obtain ⟨ad, v0, c0', ead, had⟩ : ∃ (ad : Addr) (v0 : Int) (c0 : Str), (((lkp ft n).map fun q => V.ref q.1).getD (.ref t0)) = .ref ad ∧ upd H4 t0 (.tup [.int 0, .str ""]) ad = some (.tup [.int v0, .str c0]) := by
      cases z : lkp ft n with
      | none => exact ⟨t0, 0, "", rfl, upd_same⟩
      | some y => exact ⟨y.1, y.2.1, y.2.2, rfl, A5.tab.ht (n, y) (lkp_mem z)⟩
    refine ⟨ad, _, _, _, ead, rfl, SqT.of had, rfl, ?_⟩
    have d5 := d4.laid (o := .tup [.int 0, .str ""]) h0
    have K5 := K4.laid (o := .tup [.int 0, .str ""]) h0
    refine ⟨(by show 5 ≤ sizeLine; decide), fun l5 h5 => ?_⟩
    have l5p : l5 ≠ p := Ne.symm (d5.ne h5)
    refine ⟨_, rfl, p, 5, rfl, d5.laid h5, (by decide), (by decide), fun r5 H6 f0 f1 d6 k6 => ?_⟩
    obtain ⟨z, ez, _⟩ := five_at 0 0 0 1 2 f0 f1
    refine ⟨l5, _, _, _, rfl, rfl, SqL.of (k6 _ _ l5p upd_same), ez, _, _, rfl, rfl, ?_⟩
    have K6 := (K5.laid (o := .lst [.int 0, .int 0, .int 0, .int 1, .int 2]) h5).trans k6
    refine ⟨_, rfl, _, rfl, _, rfl, _, rfl, p, rfl, d6, fun c H7 hc hcl d7 k7 => ?_⟩
    refine ⟨(by show 4 ≤ sizeLine; decide), fun u hu => ?_⟩
    have K7 := K6.trans k7
    exact q u (.pt false n (v0 + z) c) _ ⟨hc, by omega⟩ rfl (K7.free (Ne.symm (d7.ne hu)) hu) upd_same (d7.laid hu) (K7.laid hu)
  · refine ⟨_, rfl, rfl, _, rfl, ite2 (fun e => absurd e (by decide +kernel)) (fun _ => ?_)⟩
    refine ⟨_, rfl, rfl, _, rfl, ite2 (fun _ => ?_) (fun e => absurd rfl e)⟩
    refine ⟨_, rfl, m, .ref dg, rfl, mG A4.root, dg, rfl, .inl ⟨_, .inl A4.tab.hg⟩, _, rfl, (by show 2 ≤ sizeLine; decide), fun t0 h0 => ?_⟩
    have A5 := A4.same (same_new h0 (.tup [.int 0, .str ""]))
    refine ⟨_, A5.tab.getG n, ?_⟩
    obtain ⟨ad, v0, c0', ead, had⟩ : ∃ (ad : Addr) (v0 : Int) (c0 : Str), (((lkp ft n).map fun q => V.ref q.1).getD (.ref t0)) = .ref ad ∧ upd H4 t0 (.tup [.int 0, .str ""]) ad = some (.tup [.int v0, .str c0]) := by
      cases z : lkp ft n with
      | none => exact ⟨t0, 0, "", rfl, upd_same⟩
      | some y => exact ⟨y.1, y.2.1, y.2.2, rfl, A5.tab.ht (n, y) (lkp_mem z)⟩
    refine ⟨ad, _, _, _, ead, rfl, SqT.of had, rfl, ?_⟩
    have d5 := d4.laid (o := .tup [.int 0, .str ""]) h0
    have K5 := K4.laid (o := .tup [.int 0, .str ""]) h0
    refine ⟨(by show 5 ≤ sizeLine; decide), fun l5 h5 => ?_⟩
    have l5p : l5 ≠ p := Ne.symm (d5.ne h5)
    refine ⟨_, rfl, p, 5, rfl, d5.laid h5, (by decide), (by decide), fun r5 H6 f0 f1 d6 k6 => ?_⟩
    obtain ⟨z, ez, _⟩ := five_at 0 0 0 1 2 f0 f1
    refine ⟨l5, _, _, _, rfl, rfl, SqL.of (k6 _ _ l5p upd_same), ez, _, _, rfl, rfl, ?_⟩
    have K6 := (K5.laid (o := .lst [.int 0, .int 0, .int 0, .int 1, .int 2]) h5).trans k6
    refine ⟨_, rfl, _, rfl, _, rfl, _, rfl, p, rfl, d6, fun c H7 hc hcl d7 k7 => ?_⟩
    refine ⟨(by show 4 ≤ sizeLine; decide), fun u hu => ?_⟩
    have K7 := K6.trans k7
    exact q u (.pt true n (v0 + z) c) _ ⟨hc, by omega⟩ ⟨.shut n (v0 + z) c, rfl⟩ (K7.free (Ne.symm (d7.ne hu)) hu) upd_same (d7.laid hu) (K7.laid hu)
  · refine ⟨_, rfl, rfl, _, rfl, ite2 (fun e => absurd e (by decide +kernel)) (fun _ => ?_)⟩
    refine ⟨_, rfl, rfl, _, rfl, ite2 (fun e => absurd e (by decide +kernel)) (fun _ => ?_)⟩
    refine ⟨_, rfl, m, .ref df, rfl, mF A4.root, df, _, S.fo.map (·.1), rfl, .inl A4.tab.hf, kk1, (by rw [List.length_map]; omega), fun l5 ms' h5 hp5 _ => ?_⟩
    have hms : ms'.length = S.fo.length := by have := hp5.length_eq; rw [List.length_map] at this; exact this
    have A5 := A4.same (same_new h5 (.lst (ms'.map V.int)))
    have l5p : l5 ≠ p := Ne.symm (d4.ne h5)
    refine ⟨_, rfl, _, rfl, m, .ref df, rfl, mF A5.root, df, _, rfl, A5.tab.hf, p, _, rfl, d4.laid h5, (by rw [List.length_map]; omega), (by rw [List.length_map]; exact small200 (by omega)), fun r5 H6 f0 f1 d6 k6 => ?_⟩
    rw [List.length_map] at f1
    obtain ⟨n5, _, e5⟩ := at_mem (f := V.int) (xs := ms') f0 (by omega)
    refine ⟨l5, _, _, _, rfl, rfl, SqL.of (k6 _ _ l5p upd_same), e5, _, rfl, (by show 3 ≤ sizeLine; decide), fun l6 h6 => ?_⟩
    have K6 := (K4.laid (o := .lst (ms'.map V.int)) h5).trans k6
    have l6p : l6 ≠ p := Ne.symm (d6.ne h6)
    refine ⟨(by show 5 ≤ sizeLine; decide), fun l7 h7 => ?_⟩
    have d7 := (d6.laid (o := .lst [.int 1, .int n5, .int n]) h6).laid (o := .lst [.int 0, .int 0, .int 1, .int 1, .int 2]) h7
    have K7 := (K6.laid (o := .lst [.int 1, .int n5, .int n]) h6).laid (o := .lst [.int 0, .int 0, .int 1, .int 1, .int 2]) h7
    have l7p : l7 ≠ p := Ne.symm ((d6.laid (o := .lst [.int 1, .int n5, .int n]) h6).ne h7)
    refine ⟨_, rfl, p, 5, rfl, d7, (by decide), (by decide), fun r6 H8 g0 g1 d8 k8 => ?_⟩
    obtain ⟨z6, ez6, mz6⟩ := five_at 0 0 1 1 2 g0 g1
    have hz6 : 0 ≤ z6 ∧ z6 < 3 := by
      simp only [List.mem_cons, List.not_mem_nil, or_false] at mz6
      omega
    obtain ⟨w', _, ew⟩ := at_mem (f := V.int) (xs := [1, n5, n]) hz6.1 hz6.2
    refine ⟨l7, _, _, _, rfl, rfl, SqL.of (k8 _ _ l7p upd_same), ez6, l6, _, _, _, rfl, rfl, SqL.of (k8 _ _ l6p ((same_new h7 _) _ _ upd_same)), ew, ?_⟩
    have K8 := K7.trans k8
    refine ⟨_, rfl, rfl, _, rfl, ite2 (fun _ => ?_) (fun e => absurd rfl e)⟩
    refine ⟨_, rfl, _, rfl, _, rfl, _, rfl, m, p, l, fp, S, xs, rfl, ⟨_, _, _, _, A0.keep nrL hd K8⟩, g, d8, hn.keep K8, fun y H9 hy d9 k9 => ?_⟩
    refine ⟨(by show 3 ≤ sizeLine; decide), fun u hu => ?_⟩
    have K9 := K8.trans k9
    exact q u (.fold w' y) _ hy rfl (K9.free (Ne.symm (d9.ne hu)) hu) upd_same (d9.laid hu) (K9.laid hu)
  · refine ⟨_, rfl, rfl, _, rfl, ite2 (fun e => absurd e (by decide +kernel)) (fun _ => ?_)⟩
    refine ⟨_, rfl, rfl, _, rfl, ite2 (fun e => absurd e (by decide +kernel)) (fun _ => ?_)⟩
    refine ⟨_, rfl, m, .ref df, rfl, mF A4.root, df, _, S.fo.map (·.1), rfl, .inl A4.tab.hf, kk1, (by rw [List.length_map]; omega), fun l5 ms' h5 hp5 _ => ?_⟩
    have hms : ms'.length = S.fo.length := by have := hp5.length_eq; rw [List.length_map] at this; exact this
    have A5 := A4.same (same_new h5 (.lst (ms'.map V.int)))
    have l5p : l5 ≠ p := Ne.symm (d4.ne h5)
    refine ⟨_, rfl, _, rfl, m, .ref df, rfl, mF A5.root, df, _, rfl, A5.tab.hf, p, _, rfl, d4.laid h5, (by rw [List.length_map]; omega), (by rw [List.length_map]; exact small200 (by omega)), fun r5 H6 f0 f1 d6 k6 => ?_⟩
    rw [List.length_map] at f1
    obtain ⟨n5, _, e5⟩ := at_mem (f := V.int) (xs := ms') f0 (by omega)
    refine ⟨l5, _, _, _, rfl, rfl, SqL.of (k6 _ _ l5p upd_same), e5, _, rfl, (by show 3 ≤ sizeLine; decide), fun l6 h6 => ?_⟩
    have K6 := (K4.laid (o := .lst (ms'.map V.int)) h5).trans k6
    have l6p : l6 ≠ p := Ne.symm (d6.ne h6)
    refine ⟨(by show 5 ≤ sizeLine; decide), fun l7 h7 => ?_⟩
    have d7 := (d6.laid (o := .lst [.int 1, .int n5, .int n]) h6).laid (o := .lst [.int 0, .int 0, .int 1, .int 1, .int 2]) h7
    have K7 := (K6.laid (o := .lst [.int 1, .int n5, .int n]) h6).laid (o := .lst [.int 0, .int 0, .int 1, .int 1, .int 2]) h7
    have l7p : l7 ≠ p := Ne.symm ((d6.laid (o := .lst [.int 1, .int n5, .int n]) h6).ne h7)
    refine ⟨_, rfl, p, 5, rfl, d7, (by decide), (by decide), fun r6 H8 g0 g1 d8 k8 => ?_⟩
    obtain ⟨z6, ez6, mz6⟩ := five_at 0 0 1 1 2 g0 g1
    have hz6 : 0 ≤ z6 ∧ z6 < 3 := by
      simp only [List.mem_cons, List.not_mem_nil, or_false] at mz6
      omega
    obtain ⟨w', _, ew⟩ := at_mem (f := V.int) (xs := [1, n5, n]) hz6.1 hz6.2
    refine ⟨l7, _, _, _, rfl, rfl, SqL.of (k8 _ _ l7p upd_same), ez6, l6, _, _, _, rfl, rfl, SqL.of (k8 _ _ l6p ((same_new h7 _) _ _ upd_same)), ew, ?_⟩
    have K8 := K7.trans k8
    refine ⟨_, rfl, rfl, _, rfl, ite2 (fun e => absurd e (by decide +kernel)) (fun _ => ?_)⟩
    refine ⟨_, rfl, _, rfl, _, rfl, _, rfl, m, p, l, fp, S, xs, rfl, ⟨_, _, _, _, A0.keep nrL hd K8⟩, g, d8, hn.keep K8, fun y H9 hy d9 k9 => ?_⟩
    refine ⟨_, rfl, p, rfl, d9, fun c H10 hc hcl d10 k10 => ?_⟩
    refine ⟨(by show 4 ≤ sizeLine; decide), fun u hu => ?_⟩
    have K10 := (K8.trans k9).trans k10
    exact q u (.make w' y c) _ ⟨hy, hc, by omega⟩ (by cases b; exact rfl; exact ⟨.make w' y c, rfl⟩) (K10.free (Ne.symm (d10.ne hu)) hu) upd_same (d10.laid hu) (K10.laid hu)
end
end K32
set_option Elab.async false
set_option linter.all false
set_option maxRecDepth 100000
set_option maxHeartbeats 4000000
namespace K32
open PySem L2
theorem cap5 {X : Cx} {x x2 y y2 y3 : Str} {j j2 j3 : Nat} {scope : Scope} (hN : X.N[j]? = some y := by rfl) (hf : scope.names.lookup y = some .free := by rfl) (hc : X.env.scope.names.lookup y = some .cell := by rfl)
    (hN2 : X.N[j2]? = some y2 := by rfl) (hf2 : scope.names.lookup y2 = some .free := by rfl) (hc2 : X.env.scope.names.lookup y2 = some .cell := by rfl)
    (hN3 : X.N[j3]? = some y3 := by rfl) (hf3 : scope.names.lookup y3 = some .free := by rfl) (hc3 : X.env.scope.names.lookup y3 = some .cell := by rfl)
    (hfr : ∀ z ∈ scope.names, z.2 = .free → z.1 = y ∨ z.1 = y2 ∨ z.1 = y3 := by decide +kernel) : CapOk X [x, x2, y, y2, y3] scope [none, none, some j, some j2, some j3] where
  len := rfl
  at_ := fun i k z e1 e2 => by
    match i, e1, e2 with
    | 0, e1, _ => cases e1
    | 1, e1, _ => cases e1
    | 2, e1, e2 =>
      obtain rfl : j = k := Option.some.inj (Option.some.inj e1)
      obtain rfl : y = z := Option.some.inj e2
      exact ⟨hN, hf, .inl hc⟩
    | 3, e1, e2 =>
      obtain rfl : j2 = k := Option.some.inj (Option.some.inj e1)
      obtain rfl : y2 = z := Option.some.inj e2
      exact ⟨hN2, hf2, .inl hc2⟩
    | 4, e1, e2 =>
      obtain rfl : j3 = k := Option.some.inj (Option.some.inj e1)
      obtain rfl : y3 = z := Option.some.inj e2
      exact ⟨hN3, hf3, .inl hc3⟩
    | i + 5, e1, _ => cases e1
  fr := fun z hz hz2 => .inl (by
    rcases hfr z hz hz2 with e | e | e
    · rw [e]; exact hc
    · rw [e]; exact hc2
    · rw [e]; exact hc3)
theorem cut_nat (xs : List V) (a b : Nat) : (cutV xs (some (a : Int)) (some (b : Int))).length ≤ b - a := by
  unfold cutV
  rw [List.length_take, List.length_drop, HT.sIx_nat, HT.sIx_nat]
  omega
theorem cut_int {ns : List Int} {lo hi : Option Int} {i : Nat} {x : V} (h : (cutV (ns.map V.int) lo hi)[i]? = some x) : ∃ z, x = .int z := cut_ints (List.mem_of_getElem? h)
noncomputable def S0 : Sh := ⟨[(0, [("clash", 1)]), (1, [])], [], 1⟩
noncomputable def fa0 (e0 e1 : Addr) : List (Int × Addr × Ent) := [(0, e0, [("clash", 1)]), (1, e1, [])]
theorem good0 : Good S0 := by
  refine ⟨by decide, by decide, fun n => ?_, fun n _ => rfl, rfl, fun p hp => ?_, by decide, by decide⟩
  · rw [lkp_some_iff, lkp_some_iff]
    show (n ∈ [(0 : Int), 1] ∨ n ∈ ([] : List Int)) ↔ 0 ≤ n ∧ n ≤ 1
    simp
    omega
  · simp [S0] at hp
    rcases hp with rfl | rfl
    · decide
    · decide
theorem first_at {rt : Rt} {G : Hp} {L d1 dg e0 e1 : Addr} (h0 : G L = some (rt d1 dg 1)) (h1 : G d1 = some (.dK [(Sum.inl 0, .ref e0), (Sum.inl 1, .ref e1)])) (h2 : G dg = some (.dK [])) (h3 : G e0 = some (.dK [(Sum.inr "clash", .int 1)])) (h4 : G e1 = some (.dK []))
    (nd : [L, d1, dg, e0, e1].Nodup) : ShE rt G L [L, d1, dg, e0, e1] S0 := by
  rw [List.nodup_cons] at nd
  refine ⟨d1, dg, fa0 e0 e1, [], h0, ⟨h1, h2, fun p hp => ?_, (fun p hp => nomatch hp), nd.2⟩, rfl, nd.1, rfl, rfl⟩
  simp [fa0] at hp
  rcases hp with rfl | rfl
  · exact h3
  · exact h4
theorem fields3 (d1 dg : Addr) : putF "greatest" (.int 1) (putF "files" (.ref dg) (putF "folders" (.ref d1) [])) = ([("folders", .ref d1), ("files", .ref dg), ("greatest", .int 1)] : List (Str × V)) := by
  have h1 : ¬ ("folders" : Str) = "greatest" := by decide +kernel
  have h2 : ¬ ("files" : Str) = "greatest" := by decide +kernel
  have h3 : ¬ ("folders" : Str) = "files" := by decide +kernel
  simp [putF, h1, h2, h3]
theorem merge2 (e0 e1 : Addr) : mergeK [] [((Sum.inl 0 : Key), V.ref e0), (Sum.inl 1, .ref e1)] = ([(Sum.inl 0, .ref e0), (Sum.inl 1, .ref e1)] : List (Key × V)) := rfl
theorem merge1 : mergeK [] [((Sum.inr "clash" : Key), V.int 1)] = ([(Sum.inr "clash", .int 1)] : List (Key × V)) := rfl
theorem merge3 (d1 dg : Addr) : mergeK [] [((Sum.inr "folders" : Key), V.ref d1), (Sum.inr "files", .ref dg), (Sum.inr "last", .int 1)] = ([(Sum.inr "folders", .ref d1), (Sum.inr "files", .ref dg), (Sum.inr "last", .int 1)] : List (Key × V)) := by
  have a1 : ¬ (Sum.inr ("folders" : Str) : Key) = (Sum.inr ("files" : Str) : Key) := fun z => n1 (Sum.inr.inj z)
  have a2 : ¬ (Sum.inr ("folders" : Str) : Key) = (Sum.inr ("last" : Str) : Key) := fun z => n2 (Sum.inr.inj z)
  have a3 : ¬ (Sum.inr ("files" : Str) : Key) = (Sum.inr ("last" : Str) : Key) := fun z => n3 (Sum.inr.inj z)
  have b1 : ¬ ("files" : Str) = "folders" := Ne.symm n1
  have b2 : ¬ ("last" : Str) = "folders" := Ne.symm n2
  have b3 : ¬ ("last" : Str) = "files" := Ne.symm n3
  simp [mergeK, putK, a1, a2, a3, n1, n2, n3]
noncomputable def spInit (C : Addr) : Sp := fun vs H Q _ => ∃ (L dx : Addr), vs = [.ref L] ∧ H L = some (.ins C dx []) ∧ ∀ (fp : List Addr) (H' : Hp), ShE (rtP C dx) H' L fp S0 → Aft H [L] H' fp → Q .non H'
noncomputable abbrev s_init : Stmt := inClass (top 19) 0
section
variable {P : Program} {w : World} {K : PySem.W.Frag} {mg : Str → Option Value} {base : Heap} {C aN aC aF aG : Addr}
theorem sc_init : FnScope ["self"] ["self"] (defScope s_init) := ⟨rfl, rfl, rfl, by decide +kernel, rfl, by decide +kernel, by decide +kernel⟩
theorem ok_init {f : Addr} {fd : FuncData} (F : Fun K "__init__" "Shelf.__init__" s_init f fd) (T : Txt0 mg K w C aN aC aF aG) : FnOk P w K mg base CX0 1 f fd ["self"] (spInit C) := by
  refine F.ok sc_init (fun vs H Q E h => ?_) (fun cdv A outer s H vs Q E hr h => ?_)
  · obtain ⟨L, dx, rfl, _⟩ := h
    rfl
  obtain ⟨L, dx, rfl, hL, q⟩ := h
  refine ⟨_, (pss_cons (ps_fld (pv 0) (pe_disp (pps_cons (pe_gv rfl T.ro) (pe_disp (pps_cons pe_str (pe_gv rfl T.cl1) pps_nil) rfl rfl (by simp) (by decide)) (pps_cons (pe_gv rfl T.cl1) pe_dnewK pps_nil)) rfl rfl (by simp) (by decide)) rfl)
    (pss_cons (ps_fld (pv 0) pe_dnewK rfl)
    (pss_one (ps_fld (pv 0) (pe_gv rfl T.cl1) rfl)))), ?_⟩
  refine fun d1 h1 => fun e0 he0 => ⟨upd_same, [(Sum.inr "clash", .int 1)], rfl, by decide, fun e1 he1 => ?_⟩
  rw [merge1] at he1
  have e0d1 : e0 ≠ d1 := fun z => by rw [z, upd_same] at he0; cases he0
  have e1e0 : e1 ≠ e0 := fun z => by rw [z, upd_same] at he1; cases he1
  rw [upd_ne e1e0, upd_ne e1e0] at he1
  have e1d1 : e1 ≠ d1 := fun z => by rw [z, upd_same] at he1; cases he1
  rw [upd_ne e1d1] at he1
  rw [upd_ne e0d1] at he0
  have Ld1 : L ≠ d1 := ne_of_none hL h1
  have Le0 : L ≠ e0 := ne_of_none hL he0
  have Le1 : L ≠ e1 := ne_of_none hL he1
  refine ⟨by rw [upd_ne (Ne.symm e1d1), upd_ne (Ne.symm e0d1), upd_ne (Ne.symm e0d1), upd_same], [(Sum.inl 0, .ref e0), (Sum.inl 1, .ref e1)], rfl, (by show 2 ≤ 15; decide), ?_⟩
  rw [merge1, merge2]
  refine ⟨_, rfl, L, C, dx, [], rfl, (by rw [upd_ne Ld1, upd_ne Le1, upd_ne Le0, upd_ne Le0, upd_ne Ld1]; exact hL), T.cl, T.nFo, (by show 0 < 1000; decide), ?_⟩
  refine fun dg hdg => ?_
  have dgL : dg ≠ L := fun z => by rw [z, upd_same] at hdg; cases hdg
  rw [upd_ne dgL] at hdg
  have dgd1 : dg ≠ d1 := fun z => by rw [z, upd_same] at hdg; cases hdg
  rw [upd_ne dgd1] at hdg
  have dge1 : dg ≠ e1 := fun z => by rw [z, upd_same] at hdg; cases hdg
  rw [upd_ne dge1] at hdg
  have dge0 : dg ≠ e0 := fun z => by rw [z, upd_same] at hdg; cases hdg
  rw [upd_ne dge0, upd_ne dge0, upd_ne dgd1] at hdg
  refine ⟨_, rfl, L, C, dx, _, rfl, (by rw [upd_ne (Ne.symm dgL)]; exact upd_same), T.cl, T.nFi, (by show 1 < 1000; decide), ?_⟩
  refine ⟨_, rfl, L, C, dx, _, rfl, upd_same, T.cl, T.nGr, (by show 2 < 1000; decide), ?_⟩
  rw [show putF "greatest" (V.int 1) (putF "files" (V.ref dg) (putF "folders" (V.ref d1) [])) = _ from fields3 d1 dg]
  refine q [L, d1, dg, e0, e1] _ (first_at (rt := rtP C dx) (L := L) (d1 := d1) (dg := dg) (e0 := e0) (e1 := e1) upd_same ?_ ?_ ?_ ?_ ?_) ⟨fun b o n e => ?_, fun b hb => ?_, fun b hb => ?_⟩
  · rw [upd_ne (Ne.symm Ld1), upd_ne (Ne.symm Ld1), upd_ne (Ne.symm dgd1), upd_ne (Ne.symm Ld1), upd_same]
  · rw [upd_ne dgL, upd_ne dgL, upd_same]
  · rw [upd_ne (Ne.symm Le0), upd_ne (Ne.symm Le0), upd_ne (Ne.symm dge0), upd_ne (Ne.symm Le0), upd_ne e0d1, upd_ne (Ne.symm e1e0), upd_same]
  · rw [upd_ne (Ne.symm Le1), upd_ne (Ne.symm Le1), upd_ne (Ne.symm dge1), upd_ne (Ne.symm Le1), upd_ne e1d1, upd_same]
  · simp [Ld1, Le0, Le1, Ne.symm dgL, Ne.symm dgd1, Ne.symm e0d1, Ne.symm e1d1, dge0, dge1, Ne.symm e1e0]
  · have nL : b ≠ L := fun z => n (by rw [z]; exact .head _)
    have nd := ne_of_none e h1
    have n0 := ne_of_none e he0
    have n1' := ne_of_none e he1
    have ng := ne_of_none e hdg
    rw [upd_ne nL, upd_ne nL, upd_ne ng, upd_ne nL, upd_ne nd, upd_ne n1', upd_ne n0, upd_ne n0, upd_ne nd]
    exact e
  · simp at hb
    rcases hb with rfl | rfl | rfl | rfl | rfl
    · exact .inl (.head _)
    · exact .inr h1
    · exact .inr hdg
    · exact .inr he0
    · exact .inr he1
  · rw [List.mem_singleton.mp hb]; exact .head _
end
end K32
set_option Elab.async false
set_option linter.all false
set_option maxRecDepth 100000
set_option maxHeartbeats 4000000
namespace K32
open PySem L2
theorem sortE_len (es : List (Str × Int)) : (sortE es).length = es.length := by
  unfold sortE
  rw [List.length_map]
  unfold sortP
  split
  · rw [List.length_range]
  · exact sort_len (by omega)
noncomputable def ansD : Ans → PyData
  | .made n => .tuple [.str "made", .int n]
  | .put v => .tuple [.str "put", .int v]
  | .no w => .tuple [.str "refused", .str w]
  | .clash n w => .tuple [.str "clash", .int n, .str w]
theorem ans_da {H : Hp} {u : Addr} {a : Ans} (h : H u = some (.tup a.v)) : DA H (.ref u) (ansD a) := by
  cases a with
  | made n => exact .tup h (.cons (.str _) (.cons (.int _) .nil))
  | put n => exact .tup h (.cons (.str _) (.cons (.int _) .nil))
  | no n => exact .tup h (.cons (.str _) (.cons (.str _) .nil))
  | clash n m => exact .tup h (.cons (.str _) (.cons (.int _) (.cons (.str _) .nil)))
theorem ans_dep (a : Ans) : dDep (ansD a) ≤ 1 := by
  cases a <;> (unfold ansD; simp [dDep, dDeps])
theorem ans_wid (a : Ans) : dWid (ansD a) ≤ 3 := by
  cases a <;> (unfold ansD; simp [dWid, dWids])
theorem anss_da {H : Hp} : ∀ {ps : List Addr} {as : List Ans}, AnsAt H ps as → DAs H (ps.map V.ref) (as.map ansD)
  | _, _, .nil => .nil
  | _, _, .cons h t => .cons (ans_da h) (anss_da t)
noncomputable def joinD (as : List Ans) : PyData := .tuple [.str "joined", .list (as.map ansD)]
theorem join_da {H : Hp} {u p : Addr} {ps : List Addr} {as : List Ans} (hu : H u = some (.tup [.str "joined", .ref p])) (hp : H p = some (.lst (ps.map V.ref))) (ha : AnsAt H ps as) : DA H (.ref u) (joinD as) :=
  .tup hu (.cons (.str _) (.cons (.lst hp (anss_da ha)) .nil))
theorem join_dep (as : List Ans) : dDep (joinD as) ≤ 4 := by
  have h : dDeps (as.map ansD) ≤ 1 := dDeps_le fun d hd => by
    obtain ⟨a, _, rfl⟩ := List.mem_map.mp hd
    exact ans_dep a
  unfold joinD
  simp only [dDep, dDeps]
  omega
theorem join_wid {as : List Ans} (hl : as.length ≤ 100) : dWid (joinD as) ≤ 1000 := by
  have h : dWids (as.map ansD) ≤ 3 := dWids_le fun d hd => by
    obtain ⟨a, _, rfl⟩ := List.mem_map.mp hd
    exact ans_wid a
  unfold joinD
  simp only [dWid, dWids, List.length_map, List.length_cons, List.length_nil]
  omega
theorem ent_dep (es : List (Str × Int)) : dDeps (es.map fun e => PyData.tuple [.str e.1, .int e.2]) ≤ 1 := dDeps_le fun d hd => by
  obtain ⟨a, _, rfl⟩ := List.mem_map.mp hd
  simp [dDep, dDeps]
theorem ent_wid (es : List (Str × Int)) : dWids (es.map fun e => PyData.tuple [.str e.1, .int e.2]) ≤ 2 := dWids_le fun d hd => by
  obtain ⟨a, _, rfl⟩ := List.mem_map.mp hd
  simp [dWid, dWids]
theorem rows_dep (S : Sh) : dDep (.list (rowsD S)) ≤ 4 := by
  have h : dDeps (rowsD S) ≤ 3 := dDeps_le fun d hd => by
    obtain ⟨n, _, rfl⟩ := List.mem_map.mp hd
    unfold rowD
    cases e : lkp S.fo (n : Int) with
    | some es =>
      have := ent_dep (sortE es)
      simp only [dDep, dDeps]
      omega
    | none =>
      simp only [dDep, dDeps]
      omega
  rw [dDep]
  omega
theorem rows_wid {S : Sh} (g : Good S) : dWid (.list (rowsD S)) ≤ 1000 := by
  have tp := g.top
  have h : dWids (rowsD S) ≤ 100 := dWids_le fun d hd => by
    obtain ⟨n, _, rfl⟩ := List.mem_map.mp hd
    unfold rowD
    cases e : lkp S.fo (n : Int) with
    | some es =>
      have h1 := ent_wid (sortE es)
      have h2 := g.few _ (lkp_mem e)
      have h3 : es.length ≤ 62 := by
        have : (es.length : Int) ≤ S.last := h2
        omega
      simp only [dWid, dWids, List.length_map, List.length_cons, List.length_nil, sortE_len]
      omega
    | none =>
      simp only [dWid, dWids, List.length_cons, List.length_nil]
      omega
  rw [dWid]
  have : (rowsD S).length ≤ 63 := by
    unfold rowsD
    rw [List.length_map, List.length_range]
    omega
  omega
theorem stepJ_len (j : Jn) (l : Lone) : (stepJ j l).as.length = j.as.length + 1 := by
  unfold stepJ
  cases e : firstA j.s j.rs l with
  | mk S x => cases x <;> (unfold stepA; simp)
theorem fold_len (ls : List Lone) : ∀ j : Jn, (ls.foldl stepJ j).as.length = j.as.length + ls.length := by
  induction ls with
  | nil => intro j; rfl
  | cons l ls ih =>
    intro j
    rw [List.foldl_cons, ih, stepJ_len]
    simp
    omega
theorem join_len (S : Sh) (ls : List Lone) : (joinS S ls).as.length = ls.length := by
  unfold joinS
  rw [fold_len]
  simp
theorem fold_good (ls : List Lone) : ∀ j : Jn, Good j.s → j.s.last + ls.length ≤ 62 → Good (ls.foldl stepJ j).s ∧ (ls.foldl stepJ j).s.last ≤ j.s.last + ls.length := by
  induction ls with
  | nil => intro j g _; exact ⟨g, by show j.s.last ≤ j.s.last + 0; omega⟩
  | cons l ls ih =>
    intro j g h
    simp only [List.length_cons] at h
    have h1 := stepJ_good g l (by omega)
    have h2 := ih (stepJ j l) h1.1 (by omega)
    rw [List.foldl_cons]
    refine ⟨h2.1, ?_⟩
    simp only [List.length_cons]
    omega
theorem join_good {S : Sh} (g : Good S) {ls : List Lone} (h : S.last + ls.length ≤ 62) : Good (joinS S ls).s ∧ (joinS S ls).s.last ≤ S.last + ls.length := fold_good ls ⟨S, [], []⟩ g h
theorem vals_refs : ∀ {ts : List Addr} {us : List Value}, Vals (ts.map V.ref) us → us = ts.map Value.ref
  | [], _, h => by cases h; rfl
  | t :: ts, _, h => by
    cases h with
    | cons r q =>
      have e : _ = Value.ref t := r
      rw [e, vals_refs q]
      rfl
theorem op_neSame {X : Cx} (hu : X.A.units + 64 < cLine) : OpR X (compareOp .NotEq) (fun x y H Q => ∃ (a b : Addr) (ts : List Addr), x = .ref a ∧ y = .ref b ∧ SqT X.K H a (ts.map V.ref) ∧ SqT X.K H b (ts.map V.ref) ∧ Q (.bl false) H) := by
  intro pins s σ H x y v u Q I rx ry h
  obtain ⟨a, b, ts, rfl, rfl, h1, h2, q⟩ := h
  cases rx
  cases ry
  obtain ⟨its, rv, pl, _⟩ := I.tuple h1
  obtain ⟨its2, rv2, pl2, _⟩ := I.tuple h2
  obtain rfl := vals_refs rv
  obtain rfl := vals_refs rv2
  refine SeqAt.RcNeAt.tuples (e := fun _ => true) pl pl2 (by omega) (fun j _ _ => SeqAt.EqAt.same _) _ _ _ _ ⟨.bl _, H, I, rfl, ?_⟩
  rw [show (!((List.range (min (ts.map Value.ref).toArray.size (ts.map Value.ref).toArray.size)).all (fun _ => true) && (ts.map Value.ref).toArray.size == (ts.map Value.ref).toArray.size)) = false by simp]
  exact q
theorem LonG.stl {H H' : Hp} {ts : List Addr} {ls : List Lone} (h : LonG H ts ls) (s : ∀ b xs, H b = some (.tup xs) → H' b = some (.tup xs)) : LonG H' ts ls := Paired.mapP h fun _ _ z => ⟨s _ _ z.1, z.2⟩
theorem gOk_dLen {d : GD} (h : gOk d) : dLen d.deed := by
  cases d with
  | pt b n v c => exact h.2
  | fold w a => exact h
  | make w a c => exact ⟨h.1, h.2.2⟩
structure Two (Hb : Hp) (C dx L m : Addr) (fpP fpL : List Addr) (S S' : Sh) (Hx : Hp) : Prop where
  P : ShE (rtP C dx) Hx L fpP S
  Q : ShE rtL Hx m fpL S'
  dis : ∀ b ∈ fpP, b ∉ fpL
  frP : ∀ b ∈ fpP, Hb b = none
  frL : ∀ b ∈ fpL, Hb b = none
  same : Same Hb Hx
section
variable {Hb Hx Hy : Hp} {C dx L m : Addr} {fpP fpL fp' : List Addr} {S S' S1 : Sh}
theorem Two.on (t : Two Hb C dx L m fpP fpL S S' Hx) (s : Same Hx Hy) : Two Hb C dx L m fpP fpL S S' Hy := ⟨t.P.same s, t.Q.same s, t.dis, t.frP, t.frL, t.same.trans s⟩
theorem Two.sid (t : Two Hb C dx L m fpP fpL S S' Hx) : ∀ b ∈ fpL, b ∉ fpP := fun b h z => t.dis b z h
theorem Two.stepP (t : Two Hb C dx L m fpP fpL S S' Hx) (A : ShE (rtP C dx) Hy L fp' S1) (a : Aft Hx fpP Hy fp') : Two Hb C dx L m fp' fpL S1 S' Hy := by
  have d := dis_after t.Q a t.sid
  refine ⟨A, t.Q.frame (nrP C dx) t.P a.kp t.sid, fun b h z => d b z h, fun b h => ?_, t.frL, fun b o e => ?_⟩
  · rcases a.sub b h with h | h
    · exact t.frP b h
    · exact t.same.free h
  · exact a.kp b o (fun z => by rw [t.frP b z] at e; cases e) (t.same b o e)
theorem Two.stepL (t : Two Hb C dx L m fpP fpL S S' Hx) (A : ShE rtL Hy m fp' S1) (a : Aft Hx fpL Hy fp') : Two Hb C dx L m fpP fp' S S1 Hy := by
  refine ⟨t.P.frame nrL t.Q a.kp t.dis, A, dis_after t.P a t.dis, t.frP, fun b h => ?_, fun b o e => ?_⟩
  · rcases a.sub b h with h | h
    · exact t.frL b h
    · exact t.same.free h
  · exact a.kp b o (fun z => by rw [t.frL b z] at e; cases e) (t.same b o e)
theorem Two.keep (t : Two Hb C dx L m fpP fpL S S' Hx) {p : Addr} (hp : D4 Hx p) (h0 : Hb p = none) (k : Keep p Hx Hy) : Two Hb C dx L m fpP fpL S S' Hy :=
  ⟨t.P.keep (nrP C dx) hp k, t.Q.keep nrL hp k, t.dis, t.frP, t.frL, fun b o e => k b o (ne_of_none e h0) (t.same b o e)⟩
theorem Two.lst (t : Two Hb C dx L m fpP fpL S S' Hx) {p : Addr} {xs ys : List V} (hp : Hx p = some (.lst xs)) (h0 : Hb p = none) : Two Hb C dx L m fpP fpL S S' (upd Hx p (.lst ys)) := by
  obtain ⟨⟨_, _, _, _, P⟩, ⟨_, _, _, _, Q⟩, d, f1, f2, s⟩ := t
  exact ⟨⟨_, _, _, _, P.lst (nrP C dx) hp⟩, ⟨_, _, _, _, Q.lst nrL hp⟩, d, f1, f2, fun b o e => by rw [upd_ne (ne_of_none e h0)]; exact s b o e⟩
theorem Two.stlP (t : Two Hb C dx L m fpP fpL S S' Hx) (a : Aft Hx fpP Hy fp') {b : Addr} {o : HO} (h : Hx b = some o) (ho : Still o = true) : Hy b = some o := still_keep (nrP C dx) t.P a.kp h ho
theorem Two.stlL (t : Two Hb C dx L m fpP fpL S S' Hx) (a : Aft Hx fpL Hy fp') {b : Addr} {o : HO} (h : Hx b = some o) (ho : Still o = true) : Hy b = some o := still_keep nrL t.Q a.kp h ho
end
end K32
set_option Elab.async false
set_option linter.all false
set_option maxRecDepth 100000
set_option maxHeartbeats 4000000
namespace K32
open PySem L2
section
variable {X : Cx} {pos : Pos} {k1 k2 k3 v1 v2 v3 : Expr} {tk1 tk2 tk3 tv1 tv2 tv3 : TE}
theorem pe_d1 (a1 : PE X k1 tk1) (b1 : PE X v1 tv1) : PE X (.Dict [some k1] [v1] pos) (tDisp [(tk1, tv1)]) := pe_disp (pps_cons a1 b1 pps_nil) rfl rfl (List.cons_ne_nil _ _) (Nat.le_of_ble_eq_true rfl)
theorem pe_d2 (a1 : PE X k1 tk1) (b1 : PE X v1 tv1) (a2 : PE X k2 tk2) (b2 : PE X v2 tv2) : PE X (.Dict [some k1, some k2] [v1, v2] pos) (tDisp [(tk1, tv1), (tk2, tv2)]) := pe_disp (pps_cons a1 b1 (pps_cons a2 b2 pps_nil)) rfl rfl (List.cons_ne_nil _ _) (Nat.le_of_ble_eq_true rfl)
theorem pe_d3 (a1 : PE X k1 tk1) (b1 : PE X v1 tv1) (a2 : PE X k2 tk2) (b2 : PE X v2 tv2) (a3 : PE X k3 tk3) (b3 : PE X v3 tv3) : PE X (.Dict [some k1, some k2, some k3] [v1, v2, v3] pos) (tDisp [(tk1, tv1), (tk2, tv2), (tk3, tv3)]) := pe_disp (pps_cons a1 b1 (pps_cons a2 b2 (pps_cons a3 b3 pps_nil))) rfl rfl (List.cons_ne_nil _ _) (Nat.le_of_ble_eq_true rfl)
end
noncomputable def third : Expr := match (defBody s_law) with
  | _ :: _ :: (.Assign _ v _) :: _ => v
  | _ => .Name "x" ⟨0,0,0,0⟩
noncomputable abbrev tKept : TE := tDisp [(tC (.str "folders"), tDisp [(tC (.int 0), tDisp [(tC (.str "clash"), tC (.int 1))]), (tC (.int 1), tDNewK)]), (tC (.str "files"), tDNewK), (tC (.str "last"), tC (.int 1))]
theorem pe_kept {X : Cx} : PE X third tKept := (@pe_d3 _ _ _ _ _ _ _ _ _ _ _ _ _ _ pe_str (@pe_d2 _ _ _ _ _ _ _ _ _ _ pe_int (@pe_d1 _ _ _ _ _ _ pe_str pe_int) pe_int pe_dnewK) pe_str pe_dnewK pe_str pe_int)
section
variable {P : Program} {w : World} {K : PySem.W.Frag} {mg : Str → Option Value} {base : Heap} {C aN aC aF aG : Addr}
theorem sc_law : FnScope ["_law_script", "_law_names_here", "_law_shelf", "_law_kept", "_law_k", "_law_cell_here", "_law_deed_here", "_law_words", "_law_deeds", "_law_turn", "_law_handed", "_law_found"] ["_law_script"] (defScope s_law) := ⟨rfl, rfl, rfl, by decide +kernel, rfl, by decide +kernel, by decide +kernel⟩
theorem ok_law {f : Addr} {fd : FuncData} (F : Fun K "law" "law" s_law f fd) (T : Txt0 mg K w C aN aC aF aG) {fI : Addr} {fdI : FuncData} (M : Mk K C fI) (GI : FnOk P w K mg base CX0 1 fI fdI ["self"] (spInit C)) (mgC : mg "Shelf" = some (.ref C)) (bI : Binds K fdI ["self"] [])
    (LCE : Cal P w K mg base "_law_cell" ["_law_script", "_law_k"] 1 (spCell K)) (LNS : Cal P w K mg base "_law_names" ["_law_cell_here", "_law_many"] 1 spNames) (LDI : Cal P w K mg base "_law_digits" ["_law_cell_here", "_law_turn"] 1 spDig)
    (LDE : Cal P w K mg base "_law_deed" ["_law_kept", "_law_d", "_law_names_here", "_law_words"] 3 spLdeed) (LDO : Cal P w K mg base "_law_done" ["_law_kept", "_law_deed_here"] 3 spLdone) (LSA : Cal P w K mg base "_law_same" ["_law_found", "_law_due"] 5 (spSame 4))
    (CDO : Cal P w K mg base "done" ["shelf", "deed"] 5 (spDone C)) (CJO : Cal P w K mg base "joined" ["shelf", "deeds"] 7 (spJoined K C)) (LJO : Cal P w K mg base "_law_joined" ["_law_kept", "_law_deeds"] 4 (spLjoined K))
    (CRS : Cal P w K mg base "rows_of" ["shelf"] 2 (spRows C)) (LRO : Cal P w K mg base "_law_rows" ["_law_kept"] 1 spLrows) : FnOk P w K mg base CX0 8 f fd ["_law_script"] (spLaw K) := by
  refine F.ok sc_law (fun vs H Q E h => ?_) (fun cdv A outer s H vs Q E hr h => ?_)
  · obtain ⟨a, ns, rfl, _⟩ := h
    rfl
  obtain ⟨a, ns, rfl, hS, hlen, q⟩ := h
  refine ⟨_, (pss_cons (ps_set (i := 1) sc_law.nd rfl (Or.inr rfl) (pe_cal LNS hr rfl (pa_cons (pe_cal LCE hr rfl (pa_cons (pv 0) (pa_cons pe_int pa_nil))) (pa_cons pe_int pa_nil))))
    (pss_cons (ps_set (i := 2) sc_law.nd rfl (Or.inl rfl) (pe_make0 M GI (hr.mono (by decide)) rfl mgC bI .nil pass0))
    (@pss_cons _ _ _ _ _ (@ps_set _ _ 3 _ _ _ _ sc_law.nd rfl (Or.inr rfl) (@pe_kept _) rfl (Or.inl rfl))
    (pss_cons (ps_for PassesOwn.never rfl (pi_enum rfl T.T.b_enumerate (pa_cons (pe_slice sl_list (pv 0) (po_some pe_int) (po_some pe_int)) pa_nil)) (pg_tup (n := 2) rfl (pgs_cons (pg_name (i := 4) sc_law.nd rfl (Or.inl rfl)) (pgs_cons (pg_name (i := 5) sc_law.nd rfl (Or.inl rfl)) pgs_nil)))
      (pss_cons (ps_set (i := 6) sc_law.nd rfl (Or.inl rfl) (pe_cal LDE hr rfl (pa_cons (pv 3) (pa_cons (pe_cal LDI hr rfl (pa_cons (pv 5) (pa_cons (pe_op op_mul pe_int (pv 4)) pa_nil))) (pa_cons (pv 1) (pa_cons (pe_lst (pa_cons pe_str (pa_cons pe_str (pa_cons pe_str (pa_cons pe_str pa_nil))))) pa_nil))))))
    (pss_one (ps_if (pt_not (pt_val (pe_cal LSA hr rfl (pa_cons (pe_cal CDO hr rfl (pa_cons (pv 2) (pa_cons (pv 6) pa_nil))) (pa_cons (pe_cal LDO hr rfl (pa_cons (pv 3) (pa_cons (pv 6) pa_nil))) pa_nil)))))
      (pss_one (ps_ret pe_bl)) pss_nil))))
    (pss_cons (ps_set (i := 7) sc_law.nd rfl (Or.inr rfl) (pe_lst (pa_cons pe_str (pa_cons pe_str (pa_cons pe_str (pa_cons pe_str pa_nil))))))
    (pss_cons (ps_setC (k := 8) [none, none, some 3, some 1, some 7] ["_law_k", "_law_cell_here", "_law_kept", "_law_names_here", "_law_words"] rfl cap5 sc_law.nd rfl (Or.inl rfl) (pi_enum rfl T.T.b_enumerate (pa_cons (pe_slice sl_list (pv 0) (po_some pe_int) (po_some pe_int)) pa_nil)) (fun _ _ _ _ _ _ => (pg_tupK (K := K) rfl (n := 2) rfl (pgs_cons (pg_name (i := 0) (by decide +kernel : (["_law_k", "_law_cell_here", "_law_kept", "_law_names_here", "_law_words"] : List Str).Nodup) rfl (Or.inl rfl)) (pgs_cons (pg_name (i := 1) (by decide +kernel : (["_law_k", "_law_cell_here", "_law_kept", "_law_names_here", "_law_words"] : List Str).Nodup) rfl (Or.inl rfl)) pgs_nil)))) (fun _ _ _ _ _ _ => pifs_nil) (fun _ _ _ _ _ _ => (pe_cal LDE hr rfl (pa_cons (pv 2) (pa_cons (pe_cal LDI hr rfl (pa_cons (pv 1) (pa_cons (pe_op op_add pe_int (pe_op op_mul pe_int (pv 0))) pa_nil))) (pa_cons (pv 3) (pa_cons (pv 4) pa_nil)))))))
    (pss_cons (ps_for PassesOwn.never rfl (pi_range1 rfl T.T.b_range (pa_cons pe_int pa_nil)) (pg_name (i := 9) sc_law.nd rfl (Or.inl rfl))
      (pss_cons (ps_set (i := 10) sc_law.nd rfl (Or.inl rfl) (pe_callTy call_tuple_of rfl T.T.b_tuple PyProof.Rows.boot_tuple (pa_cons (pv 8) pa_nil)))
    (pss_cons (ps_set (i := 11) sc_law.nd rfl (Or.inl rfl) (pe_cal CJO hr rfl (pa_cons (pv 2) (pa_cons (pv 10) pa_nil))))
    (pss_cons (ps_if (PW.pt (pw_or (pt_cmpR (op_neSame hr.units) (pv 10) (pe_callTy call_tuple_of rfl T.T.b_tuple PyProof.Rows.boot_tuple (pa_cons (pv 8) pa_nil)) (nomark _)) (pw_or1 (pt_not (pt_val (pe_cal LSA hr rfl (pa_cons (pv 11) (pa_cons (pe_cal LJO hr rfl (pa_cons (pv 3) (pa_cons (pv 8) pa_nil))) pa_nil))))))))
      (pss_one (ps_ret pe_bl)) pss_nil)
    (pss_cons (ps_expr (pe_bm PySem.F.plainAttrs_list PySem.F.slot_list_append PySem.F.type_list_append mt_append (pe_ix ix_tup (pv 11) pe_int (fun _ _ => rfl)) (pa_cons (pe_tup (pa_cons pe_str (pa_cons pe_int pa_nil))) pa_nil)))
    (pss_one (ps_if (pt_not (pt_val (pe_cal LSA hr rfl (pa_cons (pe_cal CRS hr rfl (pa_cons (pv 2) pa_nil)) (pa_cons (pe_cal LRO hr rfl (pa_cons (pv 3) pa_nil)) pa_nil)))))
      (pss_one (ps_ret pe_bl)) pss_nil)))))))
    (pss_one (ps_ret pe_bl))))))))), ?_⟩
  have hs : sizeLine = 16777216 := sizeLine_eq
  -- the names
  refine ⟨_, rfl, a, ns, 0, rfl, hS, by decide, fun z0 => ?_⟩
  refine ⟨z0, rfl, fun ln xs Hb hln sb hlb xlen xle => ?_⟩
  -- the program's shelf
  intro L dx nL ndx ndL
  refine ⟨L, dx, rfl, upd_same, fun fpP H2 P2 af2 => ⟨rfl, ?_⟩⟩
  have hdxL : ∀ b, upd (upd Hb dx (.own L)) L (.ins C dx []) b = none → Hb b = none := fun b e => by
    cases h : Hb b with
    | none => rfl
    | some o => rw [upd_ne (ne_of_none h nL), upd_ne (ne_of_none h ndx), h] at e; cases e
  have frP : ∀ b ∈ fpP, Hb b = none := fun b hb => by
    rcases af2.sub b hb with h | h
    · rw [List.mem_singleton.mp h]; exact nL
    · exact hdxL b h
  have s2 : Same Hb H2 := fun b o e => af2.kp b o (fun z => by rw [List.mem_singleton.mp z, nL] at e; cases e) (by rw [upd_ne (ne_of_none e nL), upd_ne (ne_of_none e ndx)]; exact e)
  -- the law's own
  refine fun m hm => fun d1 h1 => fun e0 he0 => ⟨upd_same, [(Sum.inr "clash", .int 1)], rfl, (by show 1 ≤ 15; decide), fun e1 he1 => ?_⟩
  rw [merge1] at he1
  have d1m : d1 ≠ m := fun z => by rw [z, upd_same] at h1; cases h1
  rw [upd_ne d1m] at h1
  have e0d1 : e0 ≠ d1 := fun z => by rw [z, upd_same] at he0; cases he0
  rw [upd_ne e0d1] at he0
  have e0m : e0 ≠ m := fun z => by rw [z, upd_same] at he0; cases he0
  rw [upd_ne e0m] at he0
  have e1e0 : e1 ≠ e0 := fun z => by rw [z, upd_same] at he1; cases he1
  rw [upd_ne e1e0, upd_ne e1e0] at he1
  have e1d1 : e1 ≠ d1 := fun z => by rw [z, upd_same] at he1; cases he1
  rw [upd_ne e1d1] at he1
  have e1m : e1 ≠ m := fun z => by rw [z, upd_same] at he1; cases he1
  rw [upd_ne e1m] at he1
  refine ⟨by rw [upd_ne (Ne.symm e1d1), upd_ne (Ne.symm e0d1), upd_ne (Ne.symm e0d1), upd_same], [(Sum.inl 0, .ref e0), (Sum.inl 1, .ref e1)], rfl, (by show 2 ≤ 15; decide), ?_⟩
  rw [merge1, merge2]
  refine fun dg hdg => ?_
  have dgd1 : dg ≠ d1 := fun z => by rw [z, upd_same] at hdg; cases hdg
  rw [upd_ne dgd1] at hdg
  have dge1 : dg ≠ e1 := fun z => by rw [z, upd_same] at hdg; cases hdg
  rw [upd_ne dge1] at hdg
  have dge0 : dg ≠ e0 := fun z => by rw [z, upd_same] at hdg; cases hdg
  rw [upd_ne dge0, upd_ne dge0, upd_ne dgd1] at hdg
  have dgm : dg ≠ m := fun z => by rw [z, upd_same] at hdg; cases hdg
  rw [upd_ne dgm] at hdg
  refine ⟨by rw [upd_ne (Ne.symm dgm), upd_ne (Ne.symm d1m), upd_ne (Ne.symm e1m), upd_ne (Ne.symm e0m), upd_ne (Ne.symm e0m), upd_ne (Ne.symm d1m), upd_same], [(Sum.inr "folders", .ref d1), (Sum.inr "files", .ref dg), (Sum.inr "last", .int 1)], rfl, (by show 3 ≤ 15; decide), ?_⟩
  rw [merge3]
  obtain ⟨G, hG⟩ : ∃ G, G = upd (upd (upd (upd (upd (upd (upd (upd H2 m (.dK [])) d1 (.dK [])) e0 (.dK [])) e0 (.dK [(Sum.inr "clash", .int 1)])) e1 (.dK [])) d1 (.dK [(Sum.inl 0, .ref e0), (Sum.inl 1, .ref e1)])) dg (.dK [])) m (.dK [(Sum.inr "folders", .ref d1), (Sum.inr "files", .ref dg), (Sum.inr "last", .int 1)]) := ⟨_, rfl⟩
  have sG : Same H2 G := fun b o e => by
    rw [hG, upd_ne (ne_of_none e hm), upd_ne (ne_of_none e hdg), upd_ne (ne_of_none e h1), upd_ne (ne_of_none e he1), upd_ne (ne_of_none e he0), upd_ne (ne_of_none e he0), upd_ne (ne_of_none e h1), upd_ne (ne_of_none e hm)]
    exact e
  have QG : ShE rtL G m [m, d1, dg, e0, e1] S0 := by
    refine first_at (rt := rtL) (L := m) (d1 := d1) (dg := dg) (e0 := e0) (e1 := e1) (by rw [hG]; exact upd_same) ?_ ?_ ?_ ?_ ?_
    · rw [hG, upd_ne d1m, upd_ne (Ne.symm dgd1), upd_same]
    · rw [hG, upd_ne dgm, upd_same]
    · rw [hG, upd_ne e0m, upd_ne (Ne.symm dge0), upd_ne e0d1, upd_ne (Ne.symm e1e0), upd_same]
    · rw [hG, upd_ne e1m, upd_ne (Ne.symm dge1), upd_ne e1d1, upd_same]
    · simp [Ne.symm d1m, Ne.symm dgm, Ne.symm e0m, Ne.symm e1m, Ne.symm dgd1, Ne.symm e0d1, Ne.symm e1d1, dge0, dge1, Ne.symm e1e0]
  have newL : ∀ b ∈ [m, d1, dg, e0, e1], H2 b = none := fun b hb => by
    simp at hb
    rcases hb with rfl | rfl | rfl | rfl | rfl
    · exact hm
    · exact h1
    · exact hdg
    · exact he0
    · exact he1
  have disG : ∀ b ∈ fpP, b ∉ [m, d1, dg, e0, e1] := fun b hb z => by
    obtain ⟨_, _, _, _, P2⟩ := P2
    obtain ⟨o, ho, _⟩ := P2.there hb
    rw [newL b z] at ho
    cases ho
  have T0 : Two Hb C dx L m fpP [m, d1, dg, e0, e1] S0 S0 G := ⟨P2.same sG, QG, disG, frP, fun b hb => s2.free (newL b hb), s2.trans sG⟩
  rw [← hG]
  clear hG
  -- the first deeds
  have hSG := (sb.trans T0.same).seq hS
  refine ⟨_, rfl, 1, rfl, 25, rfl, a, _, rfl, hSG, fun sl hsl => ⟨sl, rfl, ⟨_, SqL.of upd_same⟩, ?_⟩⟩
  have cl1 := cut_nat (ns.map V.int) 1 25
  refine for_enum (K := K) (a := sl) (xs := cutV (ns.map V.int) (some 1) (some 25)) (fun i σ Hx => ∃ (fpP fpL : List Addr) (S : Sh) (v4 v5 v6 : Option V), σ = [some (.ref a), some (.ref ln), some (.ref L), some (.ref m), v4, v5, v6, none, none, none, none, none] ∧ Two Hb C dx L m fpP fpL S S Hx ∧ Good S ∧ S.last ≤ 1 + i ∧ Hx sl = some (.lst (cutV (ns.map V.int) (some 1) (some 25))))
    ⟨fpP, _, S0, none, none, none, rfl, T0.on (same_new hsl _), good0, by decide, upd_same⟩ (fun i σ Hx _ ⟨_, _, _, _, _, _, _, _, _, _, e⟩ => SqL.of e) ?_ ?_
  · rintro i x σ Hx T' hx ⟨fpP, fpL, S, v4, v5, v6, rfl, tw, gS, lS, hslx⟩ hT
    obtain ⟨z, rfl⟩ := cut_int hx
    have hi : i < 24 := by
      have := (List.getElem?_eq_some_iff.mp hx).1
      have : (cutV (ns.map V.int) (some 1) (some 25)).length ≤ 25 - 1 := cl1
      omega
    have sT := same_new hT (.tup [.int i, .int z])
    refine ⟨T', _, rfl, SqT.of upd_same, rfl, _, _, rfl, _, _, rfl, rfl, ?_⟩
    refine ⟨_, rfl, _, rfl, _, rfl, _, _, rfl, rfl, .inl ⟨by decide, by decide⟩, z, _, rfl, fun p H3 hp s3 d3 => ?_⟩
    have tw3 := (tw.on sT).on s3
    have pn : Hx p = none := Same.free sT hp
    refine ⟨_, rfl, (by show 4 ≤ sizeLine; decide), fun wl hwl => ?_⟩
    have s4 := same_new hwl (.lst ((wordsL false).map V.str))
    have tw4 := tw3.on s4
    have hl4 : NmAt _ ln p xs := ⟨tw4.same _ _ hlb, ne_of_none (tw.same _ _ hlb) pn, xlen, xle⟩
    refine ⟨m, p, ln, wl, fpL, S, xs, false, rfl, tw4.Q, gS, d3.laid hwl, hl4, upd_same, Ne.symm (d3.ne hwl), fun u d H5 gk gf hu hu5 d5 k5 => ?_⟩
    have tw5 := tw4.keep (d3.laid hwl) (tw.same.free pn) k5
    have hsl5 : H5 sl = _ := k5 _ _ (ne_of_none hslx pn) (s4 _ _ (s3 _ _ (sT _ _ hslx)))
    have gf' : gV d = dV d.deed := gf
    rw [gf'] at hu5
    refine ⟨_, rfl, _, rfl, L, dx, u, fpP, S, d.deed, rfl, tw5.P, gS, hu5, gOk_dLen gk, fun u1 H6 fp6 A6 af6 hu1 hu1' => ?_⟩
    rw [doP_do gS gk] at A6 hu1'
    have tw6 := tw5.stepP A6 af6
    have hu6 := tw5.stlP af6 hu5 rfl
    have hsl6 := tw5.stlP af6 hsl5 rfl
    rw [← gf'] at hu6
    refine ⟨_, rfl, _, rfl, m, u, fpL, S, d, rfl, tw6.Q, gS, hu6, gk, fun u2 H7 fp7 A7 af7 hu2 hu2' => ?_⟩
    have tw7 := tw6.stepL A7 af7
    have hsl7 := tw6.stlL af7 hsl6 rfl
    have hu1'' := tw6.stlL af7 hu1' rfl
    have dep := ans_dep (S.do nameB d.deed).2
    have wid := ans_wid (S.do nameB d.deed).2
    refine ⟨.ref u1, .ref u2, ansD (S.do nameB d.deed).2, rfl, ans_da hu1'', ans_da hu2', by omega, by omega, fun H8 s8 => ⟨_, rfl, iteF ?_⟩⟩
    have ld := do_last nameB S d.deed
    exact ⟨fp6, fp7, (S.do nameB d.deed).1, _, _, _, rfl, tw7.on s8, gS.do d.deed (by omega), by omega, s8 _ _ hsl7⟩
  rintro σ Hx ⟨fpP1, fpL1, S, v4, v5, v6, rfl, tw, gS, lS, hslx⟩
  have lS' : S.last ≤ 25 := by
    have : (cutV (ns.map V.int) (some 1) (some 25)).length ≤ 25 - 1 := cl1
    omega
  -- the words, the deeds done alone
  refine ⟨(by show 4 ≤ sizeLine; decide), fun wl hwl => ?_⟩
  have s4 := same_new hwl (.lst ((wordsL true).map V.str))
  have tw4 := tw.on s4
  have hS4 := (sb.trans tw4.same).seq hS
  have cl2 := cut_nat (ns.map V.int) 25 41
  refine ⟨_, rfl, 25, rfl, 41, rfl, a, _, rfl, hS4, fun sl2 hsl2 => ⟨sl2, rfl, ⟨_, SqL.of upd_same⟩, ?_⟩⟩
  have s5 := same_new hsl2 (.lst (cutV (ns.map V.int) (some 25) (some 41)))
  refine lc_enum (K := K) (a := sl2) (xs := cutV (ns.map V.int) (some 25) (some 41)) (fun i σ ys Hy => ∃ (ts : List Addr) (ls : List Lone) (v0 v1 : Option V), σ = [v0, v1, some (.ref m), some (.ref ln), some (.ref wl)] ∧ ys = ts.map V.ref ∧ LonG Hy ts ls ∧ ls.length = i ∧ Two Hb C dx L m fpP1 fpL1 S S Hy ∧ Hy sl2 = some (.lst (cutV (ns.map V.int) (some 25) (some 41))) ∧ Hy wl = some (.lst ((wordsL true).map V.str)))
    ⟨[], [], none, none, rfl, rfl, .nil, rfl, tw4.on s5, upd_same, s5 _ _ upd_same⟩ (fun i σ ys Hy _ ⟨_, _, _, _, _, _, _, _, _, e, _⟩ => SqL.of e) (fun i σ ys Hy hi ⟨ts, ls, _, _, _, e, lg, en, _⟩ => ?_) ?_ ?_
  · have := paired_len lg
    have : (cutV (ns.map V.int) (some 25) (some 41)).length ≤ 41 - 25 := cl2
    rw [e, List.length_map]
    omega
  · rintro i x σ ys Hy T' hx ⟨ts, ls, v0, v1, rfl, rfl, lg, en, tw5, hsl5, hwl5⟩ hT
    obtain ⟨z, rfl⟩ := cut_int hx
    have sT := same_new hT (.tup [.int i, .int z])
    refine ⟨T', [.int i, .int z], rfl, SqT.of upd_same, rfl, .int i, [.int z], rfl, .int z, [], rfl, rfl, ?_⟩
    refine ⟨_, rfl, _, rfl, _, rfl, _, _, rfl, rfl, .inl ⟨by decide, by decide⟩, _, _, rfl, rfl, z, _, rfl, fun p H6 hp s6 d6 => ?_⟩
    have tw6 := (tw5.on sT).on s6
    have pn : Hy p = none := Same.free sT hp
    have hl6 : NmAt _ ln p xs := ⟨tw6.same _ _ hlb, ne_of_none (tw5.same _ _ hlb) pn, xlen, xle⟩
    refine ⟨_, rfl, _, rfl, m, p, ln, wl, fpL1, S, xs, true, rfl, tw6.Q, gS, d6, hl6, s6 _ _ (sT _ _ hwl5), ne_of_none hwl5 pn, fun u d H7 gk gf hu hu7 d7 k7 => ?_⟩
    obtain ⟨l, rfl⟩ := gf
    rw [← lV_gd] at hu7
    have tw7 := tw6.keep d6 (tw5.same.free pn) k7
    have tup7 : ∀ b xs, Hy b = some (.tup xs) → H7 b = some (.tup xs) := fun b xs e => k7 _ _ (ne_of_none e pn) (s6 _ _ (sT _ _ e))
    refine ⟨ts ++ [u], ls ++ [l], _, _, rfl, by rw [List.map_append]; rfl, paired_snoc (lg.stl tup7) ⟨hu7, gk⟩, by rw [List.length_append, en]; rfl, tw7, k7 _ _ (ne_of_none hsl5 pn) (s6 _ _ (sT _ _ hsl5)), k7 _ _ (ne_of_none hwl5 pn) (s6 _ _ (sT _ _ hwl5))⟩
  rintro σc ys Hy ⟨ts, ls, v0, v1, rfl, rfl, lg, en, tw5, hsl5, hwl5⟩ ds hds
  have hls : ls.length ≤ 16 := by
    have : (cutV (ns.map V.int) (some 25) (some 41)).length ≤ 41 - 25 := cl2
    omega
  have s6 := same_new hds (.lst (ts.map V.ref))
  -- joined twice
  refine ⟨2, rfl, by decide, by decide, for_range (lo := 0) (n := 2) (fun i σ Hz => ∃ (fpP fpL : List Addr) (S : Sh) (v9 v10 v11 : Option V), σ = [some (.ref a), some (.ref ln), some (.ref L), some (.ref m), v4, v5, v6, some (.ref wl), some (.ref ds), v9, v10, v11] ∧ Two Hb C dx L m fpP fpL S S Hz ∧ Good S ∧ S.last ≤ 25 + 16 * i ∧ Hz ds = some (.lst (ts.map V.ref)) ∧ LonG Hz ts ls) ?_ ?_ ?_⟩
  · exact ⟨fpP1, fpL1, S, none, none, none, rfl, tw5.on s6, gS, by omega, upd_same, lg.stl fun b xs e => s6 _ _ e⟩
  · rintro i σ Hz hi ⟨fpP, fpL, S, v9, v10, v11, rfl, tz, gz, lz, hdz, lgz⟩
    have h62 : S.last + ls.length ≤ 62 := by omega
    refine ⟨_, rfl, ds, _, rfl, .inl ⟨SqL.of hdz, fun th hth => ?_⟩⟩
    have t1 := same_new hth (.tup (ts.map V.ref))
    have tz1 := tz.on t1
    have lg1 : LonG _ ts ls := lgz.stl fun b xs e => t1 _ _ e
    refine ⟨_, rfl, _, rfl, L, dx, th, fpP, S, ts, ls, rfl, tz1.P, gz, h62, upd_same, lg1.at, fun u p H1 fp1 ps A1 af1 hu hp hu1 hp1 ans1 => ?_⟩
    have tz2 := tz1.stepP A1 af1
    have hd1 := tz1.stlP af1 (t1 _ _ hdz) rfl
    have hth1 := tz1.stlP af1 upd_same rfl
    have lg2 : LonG H1 ts ls := lg1.stl fun b xs e => tz1.stlP af1 e rfl
    have dsp : ds ≠ p := ne_of_none (t1 _ _ hdz) hp
    have hbp : Hb p = none := tz1.same.free hp
    refine ⟨_, rfl, _, rfl, ds, _, rfl, .inl ⟨SqL.of hd1, fun th2 hth2 => ?_⟩⟩
    have t2 := same_new hth2 (.tup (ts.map V.ref))
    have tz3 := tz2.on t2
    refine ⟨th, th2, ts, rfl, rfl, SqT.of (t2 _ _ hth1), SqT.of upd_same, _, rfl, iteF ?_⟩
    refine ⟨_, rfl, _, rfl, _, rfl, m, ds, fpL, S, ts, ls, rfl, tz3.Q, gz, h62, t2 _ _ hd1, lg2.stl (fun b xs e => t2 _ _ e), fun u2 p2 H3 fp3 ps2 A3 af3 _ _ hu2 hp2 ans2 => ?_⟩
    have tz4 := tz3.stepL A3 af3
    have hu3 := tz3.stlL af3 (t2 _ _ hu1) rfl
    have hp3 := tz3.stlL af3 (t2 _ _ hp1) rfl
    have hd3 := tz3.stlL af3 (t2 _ _ hd1) rfl
    have lg3 : LonG H3 ts ls := lg2.stl fun b xs e => tz3.stlL af3 (t2 _ _ e) rfl
    have ans3 : AnsAt H3 ps (joinS S ls).as := Paired.mapP ans1 fun a b h => tz3.stlL af3 (t2 _ _ h) rfl
    have jl := join_len S ls
    have jg := join_good gz h62
    refine ⟨.ref u, .ref u2, joinD (joinS S ls).as, rfl, join_da hu3 hp3 ans3, join_da hu2 hp2 ans2, join_dep _, join_wid (by omega), fun H4 s4' => ⟨_, rfl, iteF ?_⟩⟩
    have tz5 := tz4.on s4'
    have plen : ps.length ≤ 16 := by have := paired_len ans1; omega
    refine ⟨_, rfl, u, _, _, _, rfl, rfl, SqT.of (s4' _ _ hu3), rfl, .inl ⟨rfl, _, SqL.of (s4' _ _ hp3)⟩, (by show 2 ≤ sizeLine; decide), fun tq htq => ?_⟩
    have t5 := same_new htq (.tup [.str "put", .int 1])
    have hp5 := t5 _ _ (s4' _ _ hp3)
    refine ⟨p, _, _, rfl, rfl, hp5, by rw [List.length_map]; omega, ?_⟩
    have tz6 := (tz5.on t5).lst (ys := ps.map V.ref ++ [.ref tq]) hp5 hbp
    have hd6 : upd (upd H4 tq (.tup [.str "put", .int 1])) p (.lst (ps.map V.ref ++ [.ref tq])) ds = some (.lst (ts.map V.ref)) := by
      rw [upd_ne dsp]
      exact t5 _ _ (s4' _ _ hd3)
    have lg6 : LonG (upd (upd H4 tq (.tup [.str "put", .int 1])) p (.lst (ps.map V.ref ++ [.ref tq]))) ts ls := lg3.stl fun b xs e => by
      have e5 := t5 _ _ (s4' _ _ e)
      rw [upd_ne (ne_of e5 hp5 (by intro z; cases z))]
      exact e5
    refine ⟨_, rfl, L, dx, fp1, _, rfl, tz6.P, jg.1, fun r1 H7 s7 da7 => ?_⟩
    refine ⟨_, rfl, m, fp3, _, rfl, (tz6.on s7).Q, jg.1, fun r2 H8 hr2 s8 da8 => ?_⟩
    refine ⟨.ref r1, .ref r2, _, rfl, da7.same s8, da8, rows_dep _, rows_wid jg.1, fun H9 s9 => ⟨_, rfl, iteF ?_⟩⟩
    have ss := s7.trans (s8.trans s9)
    have jl2 := jg.2
    exact ⟨fp1, fp3, (joinS S ls).s, _, _, _, rfl, tz6.on ss, jg.1, by push_cast; omega, ss _ _ hd6, lg6.stl fun b xs e => ss _ _ e⟩
  · rintro σ Hz ⟨fpP, fpL, S, v9, v10, v11, rfl, tz, gz, lz, hdz, lgz⟩
    exact q Hz
end
end K32
set_option Elab.async false
set_option linter.all false
set_option maxRecDepth 100000
set_option maxHeartbeats 4000000
namespace K32
open PySem L2
noncomputable def KTup (K : PySem.W.Frag) (t : Addr) (vs : List V) : Prop := ∃ (o : Obj) (its : Array Value) (n : Nat), K.lookup t = some o ∧ o.cls = .type "tuple" ∧ o.data = .seq its n ∧ its.size ≤ sizeLine ∧ Vals vs its.toList
theorem KTup.sq {K : PySem.W.Frag} {t : Addr} {vs : List V} (h : KTup K t vs) (H : Hp) : SqT K H t vs := by
  obtain ⟨o, its, n, h1, h2, h3, h4, h5⟩ := h
  exact .inr ⟨o, its, n, h1, h2, h3, h4, h5⟩
theorem ktab3 {K : PySem.W.Frag} {w : World} {a t0 t1 t2 : Addr} {es : Array DictEntry} {n : Nat} {v0 v1 v2 : List V} (l : K.lookup a = some ⟨.type "dict", none, .dict es n, #[]⟩) (k : PySem.W.KeysLit w.params es.toList)
    (e0 : PySem.W.nsIn K a "make" = some (some (.ref t0))) (e1 : PySem.W.nsIn K a "fold" = some (some (.ref t1))) (e2 : PySem.W.nsIn K a "put" = some (some (.ref t2))) (s0 : KTup K t0 v0) (s1 : KTup K t1 v1) (s2 : KTup K t2 v2) : KTab K w a [("make", v0), ("fold", v1), ("put", v2)] := by
  refine ⟨⟨es, n, l, k⟩, fun x vs h => ?_⟩
  simp only [List.mem_cons, List.not_mem_nil, or_false, Prod.mk.injEq] at h
  rcases h with ⟨rfl, rfl⟩ | ⟨rfl, rfl⟩ | ⟨rfl, rfl⟩
  · exact ⟨t0, e0, s0.sq⟩
  · exact ⟨t1, e1, s1.sq⟩
  · exact ⟨t2, e2, s2.sq⟩
theorem all_mk {l : PySem.W.OpenLaw} {w : World} {K : PySem.W.Frag} {h : Heap} {mg : Str → Option Value} {uL uN uC ulN ulC uro ucl : Value} {C fI aN aC aF aG tN0 tN1 tN2 tC0 tC1 tC2 tF0 tF1 tF2 tG0 tG1 tG2 : Addr} {esN esC esF esG : Array DictEntry} {nN nC nF nG : Nat} {odI anI dN0 dN1 dN2 dC0 dC1 dC2 dF0 dF1 dF2 dG0 dG1 dG2 : Option Addr} {iN0 iN1 iN2 iC0 iC1 iC2 iF0 iF1 iF2 iG0 iG1 iG2 : Array Value} {jN0 jN1 jN2 jC0 jC1 jC2 jF0 jF1 jF2 jG0 jG1 jG2 : Nat} {xN0 xN1 xN2 xC0 xC1 xC2 xF0 xF1 xF2 xG0 xG1 xG2 : Array (Option Value)} {slI : Array (Option Value)} {ocI kVI dcI pmI cdI ctI : Value} {fa f0 f1 f2 f3 f4 f5 f6 f7 f8 f9 f10 f11 f12 f13 f14 f15 f16 f17 f18 f19 f20 f21 f22 f23 f24 f25 f26 f27 f28 f29 f30 f31 f32 f33 f34 : Addr} (X : K.In h) (G : h.Ns mainGlobals mg) (hfa : mg "law" = some (.ref fa))
    {od0 an0 od1 an1 od2 an2 od3 an3 od4 an4 od5 an5 od6 an6 od7 an7 od8 an8 od9 an9 od10 an10 od11 an11 od12 an12 od13 an13 od14 an14 od15 an15 od16 an16 od17 an17 od18 an18 od19 an19 od20 an20 od21 an21 od22 an22 od23 an23 od24 an24 od25 an25 od26 an26 od27 an27 od28 an28 od29 an29 od30 an30 od31 an31 od32 an32 od33 an33 od34 an34 : Option Addr} {sl0 sl1 sl2 sl3 sl4 sl5 sl6 sl7 sl8 sl9 sl10 sl11 sl12 sl13 sl14 sl15 sl16 sl17 sl18 sl19 sl20 sl21 sl22 sl23 sl24 sl25 sl26 sl27 sl28 sl29 sl30 sl31 sl32 sl33 sl34 : Array (Option Value)} {oc0 kV0 dc0 pm0 cd0 ct0 oc1 kV1 dc1 pm1 cd1 ct1 oc2 kV2 dc2 pm2 cd2 ct2 oc3 kV3 dc3 pm3 cd3 ct3 oc4 kV4 dc4 pm4 cd4 ct4 oc5 kV5 dc5 pm5 cd5 ct5 oc6 kV6 dc6 pm6 cd6 ct6 oc7 kV7 dc7 pm7 cd7 ct7 oc8 kV8 dc8 pm8 cd8 ct8 oc9 kV9 dc9 pm9 cd9 ct9 oc10 kV10 dc10 pm10 cd10 ct10 oc11 kV11 dc11 pm11 cd11 ct11 oc12 kV12 dc12 pm12 cd12 ct12 oc13 kV13 dc13 pm13 cd13 ct13 oc14 kV14 dc14 pm14 cd14 ct14 oc15 kV15 dc15 pm15 cd15 ct15 oc16 kV16 dc16 pm16 cd16 ct16 oc17 kV17 dc17 pm17 cd17 ct17 oc18 kV18 dc18 pm18 cd18 ct18 oc19 kV19 dc19 pm19 cd19 ct19 oc20 kV20 dc20 pm20 cd20 ct20 oc21 kV21 dc21 pm21 cd21 ct21 oc22 kV22 dc22 pm22 cd22 ct22 oc23 kV23 dc23 pm23 cd23 ct23 oc24 kV24 dc24 pm24 cd24 ct24 oc25 kV25 dc25 pm25 cd25 ct25 oc26 kV26 dc26 pm26 cd26 ct26 oc27 kV27 dc27 pm27 cd27 ct27 oc28 kV28 dc28 pm28 cd28 ct28 oc29 kV29 dc29 pm29 cd29 ct29 oc30 kV30 dc30 pm30 cd30 ct30 oc31 kV31 dc31 pm31 cd31 ct31 oc32 kV32 dc32 pm32 cd32 ct32 oc33 kV33 dc33 pm33 cd33 ct33 oc34 kV34 dc34 pm34 cd34 ct34 : Value}
    (a0 : PySem.W.nsIn K mainGlobals "all_among" = some (some (.ref f0))) (l0 : K.lookup f0 = some ⟨oc0, od0, .func (PySem.W.fnOf "all_among" "all_among" (defArgs s_among) (defBody s_among) (defScope s_among) .none kV0 dc0 pm0 an0 cd0 ct0), sl0⟩) (c0 : PySem.W.codeIn K cd0 "all_among" = true) (k0 : PySem.W.keepIn K (.ref f0) = true)
    (a1 : PySem.W.nsIn K mainGlobals "is_name" = some (some (.ref f1))) (l1 : K.lookup f1 = some ⟨oc1, od1, .func (PySem.W.fnOf "is_name" "is_name" (defArgs s_isname) (defBody s_isname) (defScope s_isname) .none kV1 dc1 pm1 an1 cd1 ct1), sl1⟩) (c1 : PySem.W.codeIn K cd1 "is_name" = true) (k1 : PySem.W.keepIn K (.ref f1) = true)
    (a2 : PySem.W.nsIn K mainGlobals "is_content" = some (some (.ref f2))) (l2 : K.lookup f2 = some ⟨oc2, od2, .func (PySem.W.fnOf "is_content" "is_content" (defArgs s_iscontent) (defBody s_iscontent) (defScope s_iscontent) .none kV2 dc2 pm2 an2 cd2 ct2), sl2⟩) (c2 : PySem.W.codeIn K cd2 "is_content" = true) (k2 : PySem.W.keepIn K (.ref f2) = true)
    (a3 : PySem.W.nsIn K mainGlobals "tail" = some (some (.ref f3))) (l3 : K.lookup f3 = some ⟨oc3, od3, .func (PySem.W.fnOf "tail" "tail" (defArgs s_tail) (defBody s_tail) (defScope s_tail) .none kV3 dc3 pm3 an3 cd3 ct3), sl3⟩) (c3 : PySem.W.codeIn K cd3 "tail" = true) (k3 : PySem.W.keepIn K (.ref f3) = true)
    (a4 : PySem.W.nsIn K mainGlobals "clash_name" = some (some (.ref f4))) (l4 : K.lookup f4 = some ⟨oc4, od4, .func (PySem.W.fnOf "clash_name" "clash_name" (defArgs s_cname) (defBody s_cname) (defScope s_cname) .none kV4 dc4 pm4 an4 cd4 ct4), sl4⟩) (c4 : PySem.W.codeIn K cd4 "clash_name" = true) (k4 : PySem.W.keepIn K (.ref f4) = true)
    (a5 : PySem.W.nsIn K mainGlobals "is_node" = some (some (.ref f5))) (l5 : K.lookup f5 = some ⟨oc5, od5, .func (PySem.W.fnOf "is_node" "is_node" (defArgs s_node) (defBody s_node) (defScope s_node) .none kV5 dc5 pm5 an5 cd5 ct5), sl5⟩) (c5 : PySem.W.codeIn K cd5 "is_node" = true) (k5 : PySem.W.keepIn K (.ref f5) = true)
    (a6 : PySem.W.nsIn K mainGlobals "parts_at" = some (some (.ref f6))) (l6 : K.lookup f6 = some ⟨oc6, od6, .func (PySem.W.fnOf "parts_at" "parts_at" (defArgs s_parts) (defBody s_parts) (defScope s_parts) .none kV6 dc6 pm6 an6 cd6 ct6), sl6⟩) (c6 : PySem.W.codeIn K cd6 "parts_at" = true) (k6 : PySem.W.keepIn K (.ref f6) = true)
    (a7 : PySem.W.nsIn K mainGlobals "refusal_of_parts" = some (some (.ref f7))) (l7 : K.lookup f7 = some ⟨oc7, od7, .func (PySem.W.fnOf "refusal_of_parts" "refusal_of_parts" (defArgs s_rparts) (defBody s_rparts) (defScope s_rparts) .none kV7 dc7 pm7 an7 cd7 ct7), sl7⟩) (c7 : PySem.W.codeIn K cd7 "refusal_of_parts" = true) (k7 : PySem.W.keepIn K (.ref f7) = true)
    (a8 : PySem.W.nsIn K mainGlobals "refusal" = some (some (.ref f8))) (l8 : K.lookup f8 = some ⟨oc8, od8, .func (PySem.W.fnOf "refusal" "refusal" (defArgs s_refusal) (defBody s_refusal) (defScope s_refusal) .none kV8 dc8 pm8 an8 cd8 ct8), sl8⟩) (c8 : PySem.W.codeIn K cd8 "refusal" = true) (k8 : PySem.W.keepIn K (.ref f8) = true)
    (a9 : PySem.W.nsIn K mainGlobals "new_number" = some (some (.ref f9))) (l9 : K.lookup f9 = some ⟨oc9, od9, .func (PySem.W.fnOf "new_number" "new_number" (defArgs s_newn) (defBody s_newn) (defScope s_newn) .none kV9 dc9 pm9 an9 cd9 ct9), sl9⟩) (c9 : PySem.W.codeIn K cd9 "new_number" = true) (k9 : PySem.W.keepIn K (.ref f9) = true)
    (a10 : PySem.W.nsIn K mainGlobals "make_file" = some (some (.ref f10))) (l10 : K.lookup f10 = some ⟨oc10, od10, .func (PySem.W.fnOf "make_file" "make_file" (defArgs s_mfile) (defBody s_mfile) (defScope s_mfile) .none kV10 dc10 pm10 an10 cd10 ct10), sl10⟩) (c10 : PySem.W.codeIn K cd10 "make_file" = true) (k10 : PySem.W.keepIn K (.ref f10) = true)
    (a11 : PySem.W.nsIn K mainGlobals "make_folder" = some (some (.ref f11))) (l11 : K.lookup f11 = some ⟨oc11, od11, .func (PySem.W.fnOf "make_folder" "make_folder" (defArgs s_mfold) (defBody s_mfold) (defScope s_mfold) .none kV11 dc11 pm11 an11 cd11 ct11), sl11⟩) (c11 : PySem.W.codeIn K cd11 "make_folder" = true) (k11 : PySem.W.keepIn K (.ref f11) = true)
    (a12 : PySem.W.nsIn K mainGlobals "put_content" = some (some (.ref f12))) (l12 : K.lookup f12 = some ⟨oc12, od12, .func (PySem.W.fnOf "put_content" "put_content" (defArgs s_putc) (defBody s_putc) (defScope s_putc) .none kV12 dc12 pm12 an12 cd12 ct12), sl12⟩) (c12 : PySem.W.codeIn K cd12 "put_content" = true) (k12 : PySem.W.keepIn K (.ref f12) = true)
    (a13 : PySem.W.nsIn K mainGlobals "done" = some (some (.ref f13))) (l13 : K.lookup f13 = some ⟨oc13, od13, .func (PySem.W.fnOf "done" "done" (defArgs s_done) (defBody s_done) (defScope s_done) .none kV13 dc13 pm13 an13 cd13 ct13), sl13⟩) (c13 : PySem.W.codeIn K cd13 "done" = true) (k13 : PySem.W.keepIn K (.ref f13) = true)
    (a14 : PySem.W.nsIn K mainGlobals "first_answer" = some (some (.ref f14))) (l14 : K.lookup f14 = some ⟨oc14, od14, .func (PySem.W.fnOf "first_answer" "first_answer" (defArgs s_first) (defBody s_first) (defScope s_first) .none kV14 dc14 pm14 an14 cd14 ct14), sl14⟩) (c14 : PySem.W.codeIn K cd14 "first_answer" = true) (k14 : PySem.W.keepIn K (.ref f14) = true)
    (a15 : PySem.W.nsIn K mainGlobals "clash" = some (some (.ref f15))) (l15 : K.lookup f15 = some ⟨oc15, od15, .func (PySem.W.fnOf "clash" "clash" (defArgs s_clash) (defBody s_clash) (defScope s_clash) .none kV15 dc15 pm15 an15 cd15 ct15), sl15⟩) (c15 : PySem.W.codeIn K cd15 "clash" = true) (k15 : PySem.W.keepIn K (.ref f15) = true)
    (a16 : PySem.W.nsIn K mainGlobals "joined" = some (some (.ref f16))) (l16 : K.lookup f16 = some ⟨oc16, od16, .func (PySem.W.fnOf "joined" "joined" (defArgs s_joined) (defBody s_joined) (defScope s_joined) .none kV16 dc16 pm16 an16 cd16 ct16), sl16⟩) (c16 : PySem.W.codeIn K cd16 "joined" = true) (k16 : PySem.W.keepIn K (.ref f16) = true)
    (a17 : PySem.W.nsIn K mainGlobals "row_of" = some (some (.ref f17))) (l17 : K.lookup f17 = some ⟨oc17, od17, .func (PySem.W.fnOf "row_of" "row_of" (defArgs s_rowof) (defBody s_rowof) (defScope s_rowof) .none kV17 dc17 pm17 an17 cd17 ct17), sl17⟩) (c17 : PySem.W.codeIn K cd17 "row_of" = true) (k17 : PySem.W.keepIn K (.ref f17) = true)
    (a18 : PySem.W.nsIn K mainGlobals "rows_of" = some (some (.ref f18))) (l18 : K.lookup f18 = some ⟨oc18, od18, .func (PySem.W.fnOf "rows_of" "rows_of" (defArgs s_rowsof) (defBody s_rowsof) (defScope s_rowsof) .none kV18 dc18 pm18 an18 cd18 ct18), sl18⟩) (c18 : PySem.W.codeIn K cd18 "rows_of" = true) (k18 : PySem.W.keepIn K (.ref f18) = true)
    (a19 : PySem.W.nsIn K mainGlobals "_law_cell" = some (some (.ref f19))) (l19 : K.lookup f19 = some ⟨oc19, od19, .func (PySem.W.fnOf "_law_cell" "_law_cell" (defArgs s_lcell) (defBody s_lcell) (defScope s_lcell) .none kV19 dc19 pm19 an19 cd19 ct19), sl19⟩) (c19 : PySem.W.codeIn K cd19 "_law_cell" = true) (k19 : PySem.W.keepIn K (.ref f19) = true)
    (a20 : PySem.W.nsIn K mainGlobals "_law_digits" = some (some (.ref f20))) (l20 : K.lookup f20 = some ⟨oc20, od20, .func (PySem.W.fnOf "_law_digits" "_law_digits" (defArgs s_ldigits) (defBody s_ldigits) (defScope s_ldigits) .none kV20 dc20 pm20 an20 cd20 ct20), sl20⟩) (c20 : PySem.W.codeIn K cd20 "_law_digits" = true) (k20 : PySem.W.keepIn K (.ref f20) = true)
    (a21 : PySem.W.nsIn K mainGlobals "_law_pick" = some (some (.ref f21))) (l21 : K.lookup f21 = some ⟨oc21, od21, .func (PySem.W.fnOf "_law_pick" "_law_pick" (defArgs s_lpick) (defBody s_lpick) (defScope s_lpick) .none kV21 dc21 pm21 an21 cd21 ct21), sl21⟩) (c21 : PySem.W.codeIn K cd21 "_law_pick" = true) (k21 : PySem.W.keepIn K (.ref f21) = true)
    (a22 : PySem.W.nsIn K mainGlobals "_law_names" = some (some (.ref f22))) (l22 : K.lookup f22 = some ⟨oc22, od22, .func (PySem.W.fnOf "_law_names" "_law_names" (defArgs s_lnames) (defBody s_lnames) (defScope s_lnames) .none kV22 dc22 pm22 an22 cd22 ct22), sl22⟩) (c22 : PySem.W.codeIn K cd22 "_law_names" = true) (k22 : PySem.W.keepIn K (.ref f22) = true)
    (a23 : PySem.W.nsIn K mainGlobals "_law_content" = some (some (.ref f23))) (l23 : K.lookup f23 = some ⟨oc23, od23, .func (PySem.W.fnOf "_law_content" "_law_content" (defArgs s_lcontent) (defBody s_lcontent) (defScope s_lcontent) .none kV23 dc23 pm23 an23 cd23 ct23), sl23⟩) (c23 : PySem.W.codeIn K cd23 "_law_content" = true) (k23 : PySem.W.keepIn K (.ref f23) = true)
    (a24 : PySem.W.nsIn K mainGlobals "_law_is_name" = some (some (.ref f24))) (l24 : K.lookup f24 = some ⟨oc24, od24, .func (PySem.W.fnOf "_law_is_name" "_law_is_name" (defArgs s_lisname) (defBody s_lisname) (defScope s_lisname) .none kV24 dc24 pm24 an24 cd24 ct24), sl24⟩) (c24 : PySem.W.codeIn K cd24 "_law_is_name" = true) (k24 : PySem.W.keepIn K (.ref f24) = true)
    (a25 : PySem.W.nsIn K mainGlobals "_law_made" = some (some (.ref f25))) (l25 : K.lookup f25 = some ⟨oc25, od25, .func (PySem.W.fnOf "_law_made" "_law_made" (defArgs s_lmade) (defBody s_lmade) (defScope s_lmade) .none kV25 dc25 pm25 an25 cd25 ct25), sl25⟩) (c25 : PySem.W.codeIn K cd25 "_law_made" = true) (k25 : PySem.W.keepIn K (.ref f25) = true)
    (a26 : PySem.W.nsIn K mainGlobals "_law_put" = some (some (.ref f26))) (l26 : K.lookup f26 = some ⟨oc26, od26, .func (PySem.W.fnOf "_law_put" "_law_put" (defArgs s_lput) (defBody s_lput) (defScope s_lput) .none kV26 dc26 pm26 an26 cd26 ct26), sl26⟩) (c26 : PySem.W.codeIn K cd26 "_law_put" = true) (k26 : PySem.W.keepIn K (.ref f26) = true)
    (a27 : PySem.W.nsIn K mainGlobals "_law_done" = some (some (.ref f27))) (l27 : K.lookup f27 = some ⟨oc27, od27, .func (PySem.W.fnOf "_law_done" "_law_done" (defArgs s_ldone) (defBody s_ldone) (defScope s_ldone) .none kV27 dc27 pm27 an27 cd27 ct27), sl27⟩) (c27 : PySem.W.codeIn K cd27 "_law_done" = true) (k27 : PySem.W.keepIn K (.ref f27) = true)
    (a28 : PySem.W.nsIn K mainGlobals "_law_clash" = some (some (.ref f28))) (l28 : K.lookup f28 = some ⟨oc28, od28, .func (PySem.W.fnOf "_law_clash" "_law_clash" (defArgs s_lclash) (defBody s_lclash) (defScope s_lclash) .none kV28 dc28 pm28 an28 cd28 ct28), sl28⟩) (c28 : PySem.W.codeIn K cd28 "_law_clash" = true) (k28 : PySem.W.keepIn K (.ref f28) = true)
    (a29 : PySem.W.nsIn K mainGlobals "_law_joined" = some (some (.ref f29))) (l29 : K.lookup f29 = some ⟨oc29, od29, .func (PySem.W.fnOf "_law_joined" "_law_joined" (defArgs s_ljoined) (defBody s_ljoined) (defScope s_ljoined) .none kV29 dc29 pm29 an29 cd29 ct29), sl29⟩) (c29 : PySem.W.codeIn K cd29 "_law_joined" = true) (k29 : PySem.W.keepIn K (.ref f29) = true)
    (a30 : PySem.W.nsIn K mainGlobals "_law_rows" = some (some (.ref f30))) (l30 : K.lookup f30 = some ⟨oc30, od30, .func (PySem.W.fnOf "_law_rows" "_law_rows" (defArgs s_lrows) (defBody s_lrows) (defScope s_lrows) .none kV30 dc30 pm30 an30 cd30 ct30), sl30⟩) (c30 : PySem.W.codeIn K cd30 "_law_rows" = true) (k30 : PySem.W.keepIn K (.ref f30) = true)
    (a31 : PySem.W.nsIn K mainGlobals "_law_name" = some (some (.ref f31))) (l31 : K.lookup f31 = some ⟨oc31, od31, .func (PySem.W.fnOf "_law_name" "_law_name" (defArgs s_lname) (defBody s_lname) (defScope s_lname) .none kV31 dc31 pm31 an31 cd31 ct31), sl31⟩) (c31 : PySem.W.codeIn K cd31 "_law_name" = true) (k31 : PySem.W.keepIn K (.ref f31) = true)
    (a32 : PySem.W.nsIn K mainGlobals "_law_deed" = some (some (.ref f32))) (l32 : K.lookup f32 = some ⟨oc32, od32, .func (PySem.W.fnOf "_law_deed" "_law_deed" (defArgs s_ldeed) (defBody s_ldeed) (defScope s_ldeed) .none kV32 dc32 pm32 an32 cd32 ct32), sl32⟩) (c32 : PySem.W.codeIn K cd32 "_law_deed" = true) (k32 : PySem.W.keepIn K (.ref f32) = true)
    (a33 : PySem.W.nsIn K mainGlobals "_law_same" = some (some (.ref f33))) (l33 : K.lookup f33 = some ⟨oc33, od33, .func (PySem.W.fnOf "_law_same" "_law_same" (defArgs s_lsame) (defBody s_lsame) (defScope s_lsame) .none kV33 dc33 pm33 an33 cd33 ct33), sl33⟩) (c33 : PySem.W.codeIn K cd33 "_law_same" = true) (k33 : PySem.W.keepIn K (.ref f33) = true)
    (a34 : PySem.W.nsIn K mainGlobals "law" = some (some (.ref f34))) (l34 : K.lookup f34 = some ⟨oc34, od34, .func (PySem.W.fnOf "law" "law" (defArgs s_law) (defBody s_law) (defScope s_law) .none kV34 dc34 pm34 an34 cd34 ct34), sl34⟩) (c34 : PySem.W.codeIn K cd34 "law" = true) (k34 : PySem.W.keepIn K (.ref f34) = true)
    (z0 : PySem.W.nsIn K mainGlobals "all" = some none)
    (z1 : PySem.W.nsIn K mainGlobals "len" = some none)
    (z2 : PySem.W.nsIn K mainGlobals "abs" = some none)
    (z3 : PySem.W.nsIn K mainGlobals "range" = some none)
    (z4 : PySem.W.nsIn K mainGlobals "max" = some none)
    (z5 : PySem.W.nsIn K mainGlobals "min" = some none)
    (z6 : PySem.W.nsIn K mainGlobals "isinstance" = some none)
    (z7 : PySem.W.nsIn K mainGlobals "bool" = some none)
    (z8 : PySem.W.nsIn K mainGlobals "int" = some none)
    (z9 : PySem.W.nsIn K mainGlobals "str" = some none)
    (z10 : PySem.W.nsIn K mainGlobals "list" = some none)
    (z11 : PySem.W.nsIn K mainGlobals "tuple" = some none)
    (z12 : PySem.W.nsIn K mainGlobals "sorted" = some none)
    (z13 : PySem.W.nsIn K mainGlobals "zip" = some none)
    (z14 : PySem.W.nsIn K mainGlobals "enumerate" = some none)
    (gL : PySem.W.nsIn K mainGlobals "LETTERS" = some (some uL))
    (rL : RelV (.str LT) uL)
    (gN : PySem.W.nsIn K mainGlobals "NAME_SIGNS" = some (some uN))
    (rN : RelV (.str NS) uN)
    (gC : PySem.W.nsIn K mainGlobals "CONTENT_SIGNS" = some (some uC))
    (rC : RelV (.str CS) uC)
    (glN : PySem.W.nsIn K mainGlobals "LONGEST_NAME" = some (some ulN))
    (rlN : RelV (.int 8) ulN)
    (glC : PySem.W.nsIn K mainGlobals "LONGEST_CONTENT" = some (some ulC))
    (rlC : RelV (.int 200) ulC)
    (gro : PySem.W.nsIn K mainGlobals "ROOT" = some (some uro))
    (rro : RelV (.int 0) uro)
    (gcl : PySem.W.nsIn K mainGlobals "CLASH" = some (some ucl))
    (rcl : RelV (.int 1) ucl)
    (gtN : PySem.W.nsIn K mainGlobals "NAMES" = some (some (.ref aN)))
    (ltN : K.lookup aN = some ⟨.type "dict", none, .dict esN nN, #[]⟩)
    (ktN : PySem.W.KeysLit w.params esN.toList)
    (eN0 : PySem.W.nsIn K aN "make" = some (some (.ref tN0)))
    (qN0 : K.lookup tN0 = some ⟨.type "tuple", dN0, .seq iN0 jN0, xN0⟩)
    (yN0 : iN0.size ≤ sizeLine)
    (rN0 : Vals [.int 2] iN0.toList)
    (eN1 : PySem.W.nsIn K aN "fold" = some (some (.ref tN1)))
    (qN1 : K.lookup tN1 = some ⟨.type "tuple", dN1, .seq iN1 jN1, xN1⟩)
    (yN1 : iN1.size ≤ sizeLine)
    (rN1 : Vals [.int 2] iN1.toList)
    (eN2 : PySem.W.nsIn K aN "put" = some (some (.ref tN2)))
    (qN2 : K.lookup tN2 = some ⟨.type "tuple", dN2, .seq iN2 jN2, xN2⟩)
    (yN2 : iN2.size ≤ sizeLine)
    (rN2 : Vals [] iN2.toList)
    (gtC : PySem.W.nsIn K mainGlobals "CONTENTS" = some (some (.ref aC)))
    (ltC : K.lookup aC = some ⟨.type "dict", none, .dict esC nC, #[]⟩)
    (ktC : PySem.W.KeysLit w.params esC.toList)
    (eC0 : PySem.W.nsIn K aC "make" = some (some (.ref tC0)))
    (qC0 : K.lookup tC0 = some ⟨.type "tuple", dC0, .seq iC0 jC0, xC0⟩)
    (yC0 : iC0.size ≤ sizeLine)
    (rC0 : Vals [.int 3] iC0.toList)
    (eC1 : PySem.W.nsIn K aC "fold" = some (some (.ref tC1)))
    (qC1 : K.lookup tC1 = some ⟨.type "tuple", dC1, .seq iC1 jC1, xC1⟩)
    (yC1 : iC1.size ≤ sizeLine)
    (rC1 : Vals [] iC1.toList)
    (eC2 : PySem.W.nsIn K aC "put" = some (some (.ref tC2)))
    (qC2 : K.lookup tC2 = some ⟨.type "tuple", dC2, .seq iC2 jC2, xC2⟩)
    (yC2 : iC2.size ≤ sizeLine)
    (rC2 : Vals [.int 3] iC2.toList)
    (gtF : PySem.W.nsIn K mainGlobals "FOLDERS" = some (some (.ref aF)))
    (ltF : K.lookup aF = some ⟨.type "dict", none, .dict esF nF, #[]⟩)
    (ktF : PySem.W.KeysLit w.params esF.toList)
    (eF0 : PySem.W.nsIn K aF "make" = some (some (.ref tF0)))
    (qF0 : K.lookup tF0 = some ⟨.type "tuple", dF0, .seq iF0 jF0, xF0⟩)
    (yF0 : iF0.size ≤ sizeLine)
    (rF0 : Vals [.int 1] iF0.toList)
    (eF1 : PySem.W.nsIn K aF "fold" = some (some (.ref tF1)))
    (qF1 : K.lookup tF1 = some ⟨.type "tuple", dF1, .seq iF1 jF1, xF1⟩)
    (yF1 : iF1.size ≤ sizeLine)
    (rF1 : Vals [.int 1] iF1.toList)
    (eF2 : PySem.W.nsIn K aF "put" = some (some (.ref tF2)))
    (qF2 : K.lookup tF2 = some ⟨.type "tuple", dF2, .seq iF2 jF2, xF2⟩)
    (yF2 : iF2.size ≤ sizeLine)
    (rF2 : Vals [] iF2.toList)
    (gtG : PySem.W.nsIn K mainGlobals "FILES" = some (some (.ref aG)))
    (ltG : K.lookup aG = some ⟨.type "dict", none, .dict esG nG, #[]⟩)
    (ktG : PySem.W.KeysLit w.params esG.toList)
    (eG0 : PySem.W.nsIn K aG "make" = some (some (.ref tG0)))
    (qG0 : K.lookup tG0 = some ⟨.type "tuple", dG0, .seq iG0 jG0, xG0⟩)
    (yG0 : iG0.size ≤ sizeLine)
    (rG0 : Vals [] iG0.toList)
    (eG1 : PySem.W.nsIn K aG "fold" = some (some (.ref tG1)))
    (qG1 : K.lookup tG1 = some ⟨.type "tuple", dG1, .seq iG1 jG1, xG1⟩)
    (yG1 : iG1.size ≤ sizeLine)
    (rG1 : Vals [] iG1.toList)
    (eG2 : PySem.W.nsIn K aG "put" = some (some (.ref tG2)))
    (qG2 : K.lookup tG2 = some ⟨.type "tuple", dG2, .seq iG2 jG2, xG2⟩)
    (yG2 : iG2.size ≤ sizeLine)
    (rG2 : Vals [.int 1] iG2.toList)
    (gSh : PySem.W.nsIn K mainGlobals "Shelf" = some (some (.ref C)))
    (aI : PySem.W.findIn K (.ref C) "__init__" = some (some (.ref fI)))
    (iI : PySem.W.isFn K (.ref fI) = true)
    (lI : K.lookup fI = some ⟨ocI, odI, .func (PySem.W.fnOf "__init__" "Shelf.__init__" (defArgs s_init) (defBody s_init) (defScope s_init) .none kVI dcI pmI anI cdI ctI), slI⟩)
    (cI : PySem.W.codeIn K cdI "Shelf.__init__" = true)
    (kI : PySem.W.keepIn K (.ref fI) = true)
    (pg : PySem.W.plainGet K C Str.empty = true)
    (hd : PySem.W.hasDictIn K C = true)
    (po : PySem.W.plainOver K C = true)
    (sa : PySem.W.findIn K (.ref C) "__setattr__" = some (some (.builtin "object.__setattr__")))
    (mk : PySem.W.makesIn K C = true)
    (kc : PySem.W.keepIn K (.ref C) = true)
    (nFo : PySem.W.findIn K (.ref C) "folders" = some none)
    (nFi : PySem.W.findIn K (.ref C) "files" = some none)
    (nGr : PySem.W.findIn K (.ref C) "greatest" = some none)
    : ∃ fd : FuncData, (∀ (s : Shared) (v : Value), BindsTo s fd ⟨[v], []⟩ [("_law_script", v)]) ∧ ∀ base : Heap, K.In base → base.Ns mainGlobals mg → FnOk l.prog w K mg base CX0 8 fa fd ["_law_script"] (spLaw K) := by
  have e := hfa.symm.trans (PySem.W.mg_of X G a34)
  cases e
  have T : Txt mg := ⟨PySem.W.mg_none_of X G z0, PySem.W.mg_none_of X G z1, PySem.W.mg_none_of X G z2, PySem.W.mg_none_of X G z3, PySem.W.mg_none_of X G z4, PySem.W.mg_none_of X G z5, PySem.W.mg_none_of X G z6, PySem.W.mg_none_of X G z7, PySem.W.mg_none_of X G z8, PySem.W.mg_none_of X G z9, PySem.W.mg_none_of X G z10, PySem.W.mg_none_of X G z11, PySem.W.mg_none_of X G z12, PySem.W.mg_none_of X G z13, PySem.W.mg_none_of X G z14⟩
  have F_among := fun_mk (st := s_among) l0 c0 k0
  have b_among := F_among.binds (ps := ["text", "signs"]) fun _ _ _ _ _ _ us hl => match us, hl with | [_, _], _ => rfl
  have m_among := PySem.W.mg_of X G a0
  have F_isname := fun_mk (st := s_isname) l1 c1 k1
  have b_isname := F_isname.binds (ps := ["text"]) fun _ _ _ _ _ _ us hl => match us, hl with | [_], _ => rfl
  have m_isname := PySem.W.mg_of X G a1
  have F_iscontent := fun_mk (st := s_iscontent) l2 c2 k2
  have b_iscontent := F_iscontent.binds (ps := ["text"]) fun _ _ _ _ _ _ us hl => match us, hl with | [_], _ => rfl
  have m_iscontent := PySem.W.mg_of X G a2
  have F_tail := fun_mk (st := s_tail) l3 c3 k3
  have b_tail := F_tail.binds (ps := ["place"]) fun _ _ _ _ _ _ us hl => match us, hl with | [_], _ => rfl
  have m_tail := PySem.W.mg_of X G a3
  have F_cname := fun_mk (st := s_cname) l4 c4 k4
  have b_cname := F_cname.binds (ps := ["entries", "number"]) fun _ _ _ _ _ _ us hl => match us, hl with | [_, _], _ => rfl
  have m_cname := PySem.W.mg_of X G a4
  have F_node := fun_mk (st := s_node) l5 c5 k5
  have b_node := F_node.binds (ps := ["shelf", "number"]) fun _ _ _ _ _ _ us hl => match us, hl with | [_, _], _ => rfl
  have m_node := PySem.W.mg_of X G a5
  have F_parts := fun_mk (st := s_parts) l6 c6 k6
  have b_parts := F_parts.binds (ps := ["deed", "places"]) fun _ _ _ _ _ _ us hl => match us, hl with | [_, _], _ => rfl
  have m_parts := PySem.W.mg_of X G a6
  have F_rparts := fun_mk (st := s_rparts) l7 c7 k7
  have b_rparts := F_rparts.binds (ps := ["shelf", "deed"]) fun _ _ _ _ _ _ us hl => match us, hl with | [_, _], _ => rfl
  have m_rparts := PySem.W.mg_of X G a7
  have F_refusal := fun_mk (st := s_refusal) l8 c8 k8
  have b_refusal := F_refusal.binds (ps := ["shelf", "deed"]) fun _ _ _ _ _ _ us hl => match us, hl with | [_, _], _ => rfl
  have m_refusal := PySem.W.mg_of X G a8
  have F_newn := fun_mk (st := s_newn) l9 c9 k9
  have b_newn := F_newn.binds (ps := ["shelf"]) fun _ _ _ _ _ _ us hl => match us, hl with | [_], _ => rfl
  have m_newn := PySem.W.mg_of X G a9
  have F_mfile := fun_mk (st := s_mfile) l10 c10 k10
  have b_mfile := F_mfile.binds (ps := ["shelf", "folder", "name", "content"]) fun _ _ _ _ _ _ us hl => match us, hl with | [_, _, _, _], _ => rfl
  have m_mfile := PySem.W.mg_of X G a10
  have F_mfold := fun_mk (st := s_mfold) l11 c11 k11
  have b_mfold := F_mfold.binds (ps := ["shelf", "folder", "name"]) fun _ _ _ _ _ _ us hl => match us, hl with | [_, _, _], _ => rfl
  have m_mfold := PySem.W.mg_of X G a11
  have F_putc := fun_mk (st := s_putc) l12 c12 k12
  have b_putc := F_putc.binds (ps := ["shelf", "number", "content"]) fun _ _ _ _ _ _ us hl => match us, hl with | [_, _, _], _ => rfl
  have m_putc := PySem.W.mg_of X G a12
  have F_done := fun_mk (st := s_done) l13 c13 k13
  have b_done := F_done.binds (ps := ["shelf", "deed"]) fun _ _ _ _ _ _ us hl => match us, hl with | [_, _], _ => rfl
  have m_done := PySem.W.mg_of X G a13
  have F_first := fun_mk (st := s_first) l14 c14 k14
  have b_first := F_first.binds (ps := ["shelf", "deed", "refused"]) fun _ _ _ _ _ _ us hl => match us, hl with | [_, _, _], _ => rfl
  have m_first := PySem.W.mg_of X G a14
  have F_clash := fun_mk (st := s_clash) l15 c15 k15
  have b_clash := F_clash.binds (ps := ["shelf", "content", "word"]) fun _ _ _ _ _ _ us hl => match us, hl with | [_, _, _], _ => rfl
  have m_clash := PySem.W.mg_of X G a15
  have F_joined := fun_mk (st := s_joined) l16 c16 k16
  have b_joined := F_joined.binds (ps := ["shelf", "deeds"]) fun _ _ _ _ _ _ us hl => match us, hl with | [_, _], _ => rfl
  have m_joined := PySem.W.mg_of X G a16
  have F_rowof := fun_mk (st := s_rowof) l17 c17 k17
  have b_rowof := F_rowof.binds (ps := ["shelf", "number"]) fun _ _ _ _ _ _ us hl => match us, hl with | [_, _], _ => rfl
  have m_rowof := PySem.W.mg_of X G a17
  have F_rowsof := fun_mk (st := s_rowsof) l18 c18 k18
  have b_rowsof := F_rowsof.binds (ps := ["shelf"]) fun _ _ _ _ _ _ us hl => match us, hl with | [_], _ => rfl
  have m_rowsof := PySem.W.mg_of X G a18
  have F_lcell := fun_mk (st := s_lcell) l19 c19 k19
  have b_lcell := F_lcell.binds (ps := ["_law_script", "_law_k"]) fun _ _ _ _ _ _ us hl => match us, hl with | [_, _], _ => rfl
  have m_lcell := PySem.W.mg_of X G a19
  have F_ldigits := fun_mk (st := s_ldigits) l20 c20 k20
  have b_ldigits := F_ldigits.binds (ps := ["_law_cell_here", "_law_turn"]) fun _ _ _ _ _ _ us hl => match us, hl with | [_, _], _ => rfl
  have m_ldigits := PySem.W.mg_of X G a20
  have F_lpick := fun_mk (st := s_lpick) l21 c21 k21
  have b_lpick := F_lpick.binds (ps := ["_law_d", "_law_many"]) fun _ _ _ _ _ _ us hl => match us, hl with | [_, _], _ => rfl
  have m_lpick := PySem.W.mg_of X G a21
  have F_lnames := fun_mk (st := s_lnames) l22 c22 k22
  have b_lnames := F_lnames.binds (ps := ["_law_cell_here", "_law_many"]) fun _ _ _ _ _ _ us hl => match us, hl with | [_, _], _ => rfl
  have m_lnames := PySem.W.mg_of X G a22
  have F_lcontent := fun_mk (st := s_lcontent) l23 c23 k23
  have b_lcontent := F_lcontent.binds (ps := ["_law_d"]) fun _ _ _ _ _ _ us hl => match us, hl with | [_], _ => rfl
  have m_lcontent := PySem.W.mg_of X G a23
  have F_lisname := fun_mk (st := s_lisname) l24 c24 k24
  have b_lisname := F_lisname.binds (ps := ["_law_name_here"]) fun _ _ _ _ _ _ us hl => match us, hl with | [_], _ => rfl
  have m_lisname := PySem.W.mg_of X G a24
  have F_lmade := fun_mk (st := s_lmade) l25 c25 k25
  have b_lmade := F_lmade.binds (ps := ["_law_kept", "_law_where", "_law_name_here", "_law_thing"]) fun _ _ _ _ _ _ us hl => match us, hl with | [_, _, _, _], _ => rfl
  have m_lmade := PySem.W.mg_of X G a25
  have F_lput := fun_mk (st := s_lput) l26 c26 k26
  have b_lput := F_lput.binds (ps := ["_law_kept", "_law_file", "_law_version", "_law_content_here"]) fun _ _ _ _ _ _ us hl => match us, hl with | [_, _, _, _], _ => rfl
  have m_lput := PySem.W.mg_of X G a26
  have F_ldone := fun_mk (st := s_ldone) l27 c27 k27
  have b_ldone := F_ldone.binds (ps := ["_law_kept", "_law_deed_here"]) fun _ _ _ _ _ _ us hl => match us, hl with | [_, _], _ => rfl
  have m_ldone := PySem.W.mg_of X G a27
  have F_lclash := fun_mk (st := s_lclash) l28 c28 k28
  have b_lclash := F_lclash.binds (ps := ["_law_kept", "_law_content_here", "_law_word"]) fun _ _ _ _ _ _ us hl => match us, hl with | [_, _, _], _ => rfl
  have m_lclash := PySem.W.mg_of X G a28
  have F_ljoined := fun_mk (st := s_ljoined) l29 c29 k29
  have b_ljoined := F_ljoined.binds (ps := ["_law_kept", "_law_deeds"]) fun _ _ _ _ _ _ us hl => match us, hl with | [_, _], _ => rfl
  have m_ljoined := PySem.W.mg_of X G a29
  have F_lrows := fun_mk (st := s_lrows) l30 c30 k30
  have b_lrows := F_lrows.binds (ps := ["_law_kept"]) fun _ _ _ _ _ _ us hl => match us, hl with | [_], _ => rfl
  have m_lrows := PySem.W.mg_of X G a30
  have F_lname := fun_mk (st := s_lname) l31 c31 k31
  have b_lname := F_lname.binds (ps := ["_law_kept", "_law_d", "_law_names_here"]) fun _ _ _ _ _ _ us hl => match us, hl with | [_, _, _], _ => rfl
  have m_lname := PySem.W.mg_of X G a31
  have F_ldeed := fun_mk (st := s_ldeed) l32 c32 k32
  have b_ldeed := F_ldeed.binds (ps := ["_law_kept", "_law_d", "_law_names_here", "_law_words"]) fun _ _ _ _ _ _ us hl => match us, hl with | [_, _, _, _], _ => rfl
  have m_ldeed := PySem.W.mg_of X G a32
  have F_lsame := fun_mk (st := s_lsame) l33 c33 k33
  have b_lsame := F_lsame.binds (ps := ["_law_found", "_law_due"]) fun _ _ _ _ _ _ us hl => match us, hl with | [_, _], _ => rfl
  have m_lsame := PySem.W.mg_of X G a33
  have F_law := fun_mk (st := s_law) l34 c34 k34
  refine ⟨PySem.W.fnOf "law" "law" (defArgs s_law) (defBody s_law) (defScope s_law) .none kV34 dc34 pm34 an34 cd34 ct34, fun s v => .of_eq rfl, fun base _ _ => ?_⟩
  have T0 : Txt0 mg K w C aN aC aF aG := ⟨T, ⟨uL, PySem.W.mg_of X G gL, rL⟩, ⟨uN, PySem.W.mg_of X G gN, rN⟩, ⟨uC, PySem.W.mg_of X G gC, rC⟩, ⟨ulN, PySem.W.mg_of X G glN, rlN⟩, ⟨ulC, PySem.W.mg_of X G glC, rlC⟩, ⟨uro, PySem.W.mg_of X G gro, rro⟩, ⟨ucl, PySem.W.mg_of X G gcl, rcl⟩, PySem.W.mg_of X G gtN, PySem.W.mg_of X G gtC, PySem.W.mg_of X G gtF, PySem.W.mg_of X G gtG, ktab3 ltN ktN eN0 eN1 eN2 ⟨_, _, _, qN0, rfl, rfl, yN0, rN0⟩ ⟨_, _, _, qN1, rfl, rfl, yN1, rN1⟩ ⟨_, _, _, qN2, rfl, rfl, yN2, rN2⟩, ktab3 ltC ktC eC0 eC1 eC2 ⟨_, _, _, qC0, rfl, rfl, yC0, rC0⟩ ⟨_, _, _, qC1, rfl, rfl, yC1, rC1⟩ ⟨_, _, _, qC2, rfl, rfl, yC2, rC2⟩, ktab3 ltF ktF eF0 eF1 eF2 ⟨_, _, _, qF0, rfl, rfl, yF0, rF0⟩ ⟨_, _, _, qF1, rfl, rfl, yF1, rF1⟩ ⟨_, _, _, qF2, rfl, rfl, yF2, rF2⟩, ktab3 ltG ktG eG0 eG1 eG2 ⟨_, _, _, qG0, rfl, rfl, yG0, rG0⟩ ⟨_, _, _, qG1, rfl, rfl, yG1, rG1⟩ ⟨_, _, _, qG2, rfl, rfl, yG2, rG2⟩, ⟨pg, hd, po, sa⟩, nFo, nFi, nGr⟩
  have CA := Cal.of (P := l.prog) (w := w) (base := base) F_among b_among m_among (ok_among F_among T0)
  have CIN := Cal.of (P := l.prog) (w := w) (base := base) F_isname b_isname m_isname (ok_isname F_isname T0 CA)
  have CIC := Cal.of (P := l.prog) (w := w) (base := base) F_iscontent b_iscontent m_iscontent (ok_iscontent F_iscontent T0 CA)
  have CTA := Cal.of (P := l.prog) (w := w) (base := base) F_tail b_tail m_tail (ok_tail F_tail T0)
  have CCN := Cal.of (P := l.prog) (w := w) (base := base) F_cname b_cname m_cname (ok_cname F_cname T0 CTA)
  have CNO := Cal.of (P := l.prog) (w := w) (base := base) F_node b_node m_node (ok_node F_node T0)
  have CPA : Cal l.prog w K mg base "parts_at" ["deed", "places"] 1 (spParts K) := Cal.of F_parts b_parts m_parts (ok_parts F_parts)
  have CRP := Cal.of (P := l.prog) (w := w) (base := base) F_rparts b_rparts m_rparts (ok_rparts F_rparts T0 CPA CIN CIC CNO)
  have CRF := Cal.of (P := l.prog) (w := w) (base := base) F_refusal b_refusal m_refusal (ok_refusal F_refusal T0 CRP)
  have CNN := Cal.of (P := l.prog) (w := w) (base := base) F_newn b_newn m_newn (ok_newn F_newn T0)
  have CMF := Cal.of (P := l.prog) (w := w) (base := base) F_mfile b_mfile m_mfile (ok_mfile F_mfile T0 CNN)
  have CMD := Cal.of (P := l.prog) (w := w) (base := base) F_mfold b_mfold m_mfold (ok_mfold F_mfold T0 CNN)
  have CPC := Cal.of (P := l.prog) (w := w) (base := base) F_putc b_putc m_putc (ok_putc F_putc T0)
  have CDO := Cal.of (P := l.prog) (w := w) (base := base) F_done b_done m_done (ok_done F_done T0 CRF CMF CMD CPC)
  have CFA := Cal.of (P := l.prog) (w := w) (base := base) F_first b_first m_first (ok_first F_first T0 CDO)
  have CCL := Cal.of (P := l.prog) (w := w) (base := base) F_clash b_clash m_clash (ok_clash F_clash T0 CCN CMF)
  have CJO := Cal.of (P := l.prog) (w := w) (base := base) F_joined b_joined m_joined (ok_joined F_joined T0 CFA CCL)
  have CRO := Cal.of (P := l.prog) (w := w) (base := base) F_rowof b_rowof m_rowof (ok_rowof F_rowof T0)
  have CRS := Cal.of (P := l.prog) (w := w) (base := base) F_rowsof b_rowsof m_rowsof (ok_rowsof F_rowsof T0 CRO)
  have LCE := Cal.of (P := l.prog) (w := w) (base := base) F_lcell b_lcell m_lcell (ok_lcell F_lcell T0)
  have LDI := Cal.of (P := l.prog) (w := w) (base := base) F_ldigits b_ldigits m_ldigits (ok_ldigits F_ldigits T0)
  have LPI := Cal.of (P := l.prog) (w := w) (base := base) F_lpick b_lpick m_lpick (ok_lpick F_lpick T0)
  have LNS := Cal.of (P := l.prog) (w := w) (base := base) F_lnames b_lnames m_lnames (ok_lnames F_lnames T0)
  have LCO := Cal.of (P := l.prog) (w := w) (base := base) F_lcontent b_lcontent m_lcontent (ok_lcontent F_lcontent T0 LPI)
  have LIN := Cal.of (P := l.prog) (w := w) (base := base) F_lisname b_lisname m_lisname (ok_lisname F_lisname T0)
  have LMA := Cal.of (P := l.prog) (w := w) (base := base) F_lmade b_lmade m_lmade (ok_lmade F_lmade T0 LIN)
  have LPU := Cal.of (P := l.prog) (w := w) (base := base) F_lput b_lput m_lput (ok_lput F_lput T0)
  have LDO := Cal.of (P := l.prog) (w := w) (base := base) F_ldone b_ldone m_ldone (ok_ldone F_ldone T0 LPU LMA)
  have LCL := Cal.of (P := l.prog) (w := w) (base := base) F_lclash b_lclash m_lclash (ok_lclash F_lclash T0 LMA)
  have LJO := Cal.of (P := l.prog) (w := w) (base := base) F_ljoined b_ljoined m_ljoined (ok_ljoined F_ljoined T0 LDO LCL)
  have LRO := Cal.of (P := l.prog) (w := w) (base := base) F_lrows b_lrows m_lrows (ok_lrows F_lrows T0)
  have LNA := Cal.of (P := l.prog) (w := w) (base := base) F_lname b_lname m_lname (ok_lname F_lname T0 LPI)
  have LDE := Cal.of (P := l.prog) (w := w) (base := base) F_ldeed b_ldeed m_ldeed (ok_ldeed F_ldeed T0 LPI LCO LNA)
  have S0' := Cal.of (P := l.prog) (w := w) (base := base) F_lsame b_lsame m_lsame (ok_lsame0 F_lsame T0)
  have S1' := Cal.of (P := l.prog) (w := w) (base := base) F_lsame b_lsame m_lsame (ok_lsameS F_lsame T0 S0')
  have S2' := Cal.of (P := l.prog) (w := w) (base := base) F_lsame b_lsame m_lsame (ok_lsameS F_lsame T0 S1')
  have S3' := Cal.of (P := l.prog) (w := w) (base := base) F_lsame b_lsame m_lsame (ok_lsameS F_lsame T0 S2')
  have S4' := Cal.of (P := l.prog) (w := w) (base := base) F_lsame b_lsame m_lsame (ok_lsameS F_lsame T0 S3')
  have F_I := fun_mk (st := s_init) lI cI kI
  have b_I := F_I.binds (ps := ["self"]) fun _ _ _ _ _ _ us hl => match us, hl with | [_], _ => rfl
  exact ok_law F_law T0 ⟨mk, aI, iI, kc⟩ (ok_init F_I T0) (PySem.W.mg_of X G gSh) b_I LCE LNS LDI LDE LDO S4' CDO CJO LJO CRS LRO
theorem walk {l : PySem.W.OpenLaw} {q : Program} {loose : List Str} {XP : (Str → Option Value) → Heap → Prop} {YP : World → Heap → Prop} {d : DefRec} {K : Params → PySem.W.Frag} (hn : l.most = some 63) (hdf : d.params.defaults = [])
    (hY : ∀ (w : World) (h : Heap), YP w h → (K w.params).In h)
    (F : ∀ (w : World) (mg : Str → Option Value) (fa : Addr) (h : Heap), (K w.params).In h → h.Ns mainGlobals mg → mg d.name = some (.ref fa) →
      ∃ fd : FuncData, (∀ (s : Shared) (u : Value), BindsTo s fd ⟨[u], []⟩ [("_law_script", u)]) ∧ ∀ base : Heap, (K w.params).In base → base.Ns mainGlobals mg → FnOk l.prog w (K w.params) mg base CX0 8 fa fd ["_law_script"] (spLaw (K w.params))) :
    PySem.W.WalkO q loose XP YP l.row.toRowW d [] (fun f vs => PySem.call f vs) :=
  L2.walk_of (n := 63) (k := 8) (x := "_law_script") (CX := fun _ => CX0) (sp := fun w => spLaw (K w.params)) hn (by decide) hdf ⟨rfl, by decide, by decide, rfl⟩ hY F (fun _ _ a ns hl _ hS => ⟨a, ns, rfl, hS, hl, fun _ => rfl⟩) fun _ _ _ _ _ z => z
end K32
def PySem.W.Fast.tw3834880653147732992 : Unit := ()
def PySem.W.Fast.tw9118750552890033184 : Unit := ()
def PySem.W.Fast.tw16074924812261177408 : Unit := ()
def PySem.W.Fast.tw547080937869239456 : Unit := ()
def PySem.W.Fast.tw2757687560633135360 : Unit := ()
def PySem.W.Fast.tw12256224529304817952 : Unit := ()
def PySem.W.Fast.tw1174678964798762400 : Unit := ()
def PySem.W.Fast.tw17151482641579321824 : Unit := ()
def PySem.W.Fast.tw13868279403639112256 : Unit := ()
def PySem.W.Fast.tw14060037867261592192 : Unit := ()
def PySem.W.Fast.tw917696825683943040 : Unit := ()
def PySem.W.Fast.tw13472124250247762624 : Unit := ()
def PySem.W.Fast.tw14051349009275001568 : Unit := ()
def PySem.W.Fast.tw1439981851389233984 : Unit := ()
def PySem.W.Fast.tw10188664827306329984 : Unit := ()
def PySem.W.Fast.tw13834313152600735745 : Unit := ()
def PySem.W.Fast.tw15364562200006820865 : Unit := ()
def PySem.W.Fast.tw12665736336347464705 : Unit := ()
def PySem.W.Fast.tw16811373071670374593 : Unit := ()
def PySem.W.Fast.tw379577781376254305 : Unit := ()
def PySem.W.Fast.tw17277239581211637249 : Unit := ()
def PySem.W.Fast.tw4950836582637109857 : Unit := ()
def PySem.W.Fast.tw7210999965560402721 : Unit := ()
def PySem.W.Fast.tw5000287708328092481 : Unit := ()
def PySem.W.Fast.tw5185311266461648833 : Unit := ()
def PySem.W.Fast.tw9362664472677517281 : Unit := ()
def PySem.W.Fast.tw14474252657060517058 : Unit := ()
def PySem.W.Fast.tw6727133276425971970 : Unit := ()
def PySem.W.Fast.tw8054951471464430946 : Unit := ()
def PySem.W.Fast.tw3308565214355922402 : Unit := ()
def PySem.W.Fast.tw16101566890381786626 : Unit := ()
def PySem.W.Fast.tw16012649885984577058 : Unit := ()
def PySem.W.Fast.tw1950967860682211938 : Unit := ()
def PySem.W.Fast.tw2687485756426462914 : Unit := ()
def PySem.W.Fast.tw8705941710803325794 : Unit := ()
def PySem.W.Fast.tw18403386011103718435 : Unit := ()
def PySem.W.Fast.tw5569608963271833699 : Unit := ()
def PySem.W.Fast.tw12806584574690652355 : Unit := ()
def PySem.W.Fast.tw11718766346301902083 : Unit := ()
def PySem.W.Fast.tw12052770735692669187 : Unit := ()
def PySem.W.Fast.tw8520094526577793699 : Unit := ()
def PySem.W.Fast.tw64189975329689283 : Unit := ()
def PySem.W.Fast.tw7557357857473726243 : Unit := ()
def PySem.W.Fast.tw16245279824448108323 : Unit := ()
def PySem.W.Fast.tw6419776515664850755 : Unit := ()
def PySem.W.Fast.tw11867525465406470051 : Unit := ()
def PySem.W.Fast.tw15037886095721469923 : Unit := ()
def PySem.W.Fast.tw13402405650135218500 : Unit := ()
def PySem.W.Fast.tw6312575488094871972 : Unit := ()
def PySem.W.Fast.tw17504323797825263076 : Unit := ()
def PySem.W.Fast.tw6444579276117977668 : Unit := ()
def PySem.W.Fast.tw12475302962968819364 : Unit := ()
def PySem.W.Fast.tw17992134037889360740 : Unit := ()
def PySem.W.Fast.tw5762774873436208100 : Unit := ()
def PySem.W.Fast.tw14043461852993724645 : Unit := ()
def PySem.W.Fast.tw6582478255170868773 : Unit := ()
def PySem.W.Fast.tw4175534366328323621 : Unit := ()
def PySem.W.Fast.tw11913403018078115589 : Unit := ()
def PySem.W.Fast.tw4103047389174913893 : Unit := ()
def PySem.W.Fast.tw12978517527913237349 : Unit := ()
def PySem.W.Fast.tw14078822706885218213 : Unit := ()
def PySem.W.Fast.tw1165643718200169478 : Unit := ()
def PySem.W.Fast.tw18434407833173984486 : Unit := ()
def PySem.W.Fast.tw9971541949490782470 : Unit := ()
def PySem.W.Fast.tw13428327998748482022 : Unit := ()
def PySem.W.Fast.tw5506812846734840422 : Unit := ()
def PySem.W.Fast.tw5965472006988207814 : Unit := ()
def PySem.W.Fast.tw15986968287192080230 : Unit := ()
def PySem.W.Fast.tw16121192599662483398 : Unit := ()
def PySem.W.Fast.tw3557419793577067719 : Unit := ()
def PySem.W.Fast.tw8411168304516852199 : Unit := ()
def PySem.W.Fast.tw9451284323821242887 : Unit := ()
def PySem.W.Fast.tw3376512203978402343 : Unit := ()
def PySem.W.Fast.tw1196659263224176231 : Unit := ()
def PySem.W.Fast.tw15612631159705987719 : Unit := ()
def PySem.W.Fast.tw6512799721292687207 : Unit := ()
def PySem.W.Fast.tw3439699425951296391 : Unit := ()
def PySem.W.Fast.tw16406602942693150599 : Unit := ()
def PySem.W.Fast.tw12528242790026532807 : Unit := ()
def PySem.W.Fast.tw8362196619168542728 : Unit := ()
def PySem.W.Fast.tw12604048536474357832 : Unit := ()
def PySem.W.Fast.tw6190490833395684488 : Unit := ()
def PySem.W.Fast.tw5087965450275777832 : Unit := ()
def PySem.W.Fast.tw8352571193864956232 : Unit := ()
def PySem.W.Fast.tw7823544009805174152 : Unit := ()
def PySem.W.Fast.tw14931994900389676456 : Unit := ()
def PySem.W.Fast.tw16290939139084838376 : Unit := ()
def PySem.W.Fast.tw2152961567168046760 : Unit := ()
def PySem.W.Fast.tw1640932628520075944 : Unit := ()
def PySem.W.Fast.tw3365059229326872328 : Unit := ()
def PySem.W.Fast.tw14979407809521748776 : Unit := ()
def PySem.W.Fast.tw7028295753668230984 : Unit := ()
def PySem.W.Fast.tw5947345597362625416 : Unit := ()
def PySem.W.Fast.tw11344768384800418696 : Unit := ()
def PySem.W.Fast.tw14596289676478849033 : Unit := ()
def PySem.W.Fast.tw5350757577804165193 : Unit := ()
def PySem.W.Fast.tw687159681085629609 : Unit := ()
def PySem.W.Fast.tw839937368877368521 : Unit := ()
def PySem.W.Fast.tw16483922377523537225 : Unit := ()
def PySem.W.Fast.tw5933584410547771753 : Unit := ()
def PySem.W.Fast.tw8585414052596833833 : Unit := ()
def PySem.W.Fast.tw2331103554636582441 : Unit := ()
def PySem.W.Fast.tw6867012395505820329 : Unit := ()
def PySem.W.Fast.tw14844821366561489641 : Unit := ()
def PySem.W.Fast.tw10521770388644505321 : Unit := ()
def PySem.W.Fast.tw9985547374738032585 : Unit := ()
def PySem.W.Fast.tw15585740119948390570 : Unit := ()
def PySem.W.Fast.tw11059646169080316202 : Unit := ()
def PySem.W.Fast.tw8014447563386965322 : Unit := ()
def PySem.W.Fast.tw149549715225266538 : Unit := ()
def PySem.W.Fast.tw7292216033917383146 : Unit := ()
def PySem.W.Fast.tw14591362921795969514 : Unit := ()
def PySem.W.Fast.tw13569674789576608266 : Unit := ()
def PySem.W.Fast.tw11866344848747939466 : Unit := ()
def PySem.W.Fast.tw18180203062571579050 : Unit := ()
def PySem.W.Fast.tw1895132692357044970 : Unit := ()
def PySem.W.Fast.tw256827716350336778 : Unit := ()
def PySem.W.Fast.tw13178765839099577290 : Unit := ()
def PySem.W.Fast.tw13905081783697754058 : Unit := ()
def PySem.W.Fast.tw10473501533844788363 : Unit := ()
def PySem.W.Fast.tw18229091186192113995 : Unit := ()
def PySem.W.Fast.tw2033001790997459275 : Unit := ()
def PySem.W.Fast.tw17218348720975047019 : Unit := ()
def PySem.W.Fast.tw7645322675816228267 : Unit := ()
def PySem.W.Fast.tw7266938792170803659 : Unit := ()
def PySem.W.Fast.tw10878160733152206315 : Unit := ()
def PySem.W.Fast.tw11450485323489436331 : Unit := ()
def PySem.W.Fast.tw17324689393576577771 : Unit := ()
def PySem.W.Fast.tw14630832227146060619 : Unit := ()
def PySem.W.Fast.tw14452297983161946124 : Unit := ()
def PySem.W.Fast.tw2837249406897012844 : Unit := ()
def PySem.W.Fast.tw10518518188223001836 : Unit := ()
def PySem.W.Fast.tw7678261092266014956 : Unit := ()
def PySem.W.Fast.tw484388720097684908 : Unit := ()
def PySem.W.Fast.tw3726303145799037516 : Unit := ()
def PySem.W.Fast.tw5180946957458890476 : Unit := ()
def PySem.W.Fast.tw11453459152056836876 : Unit := ()
def PySem.W.Fast.tw9537805198615220012 : Unit := ()
def PySem.W.Fast.tw17401499140871374668 : Unit := ()
def PySem.W.Fast.tw6835104541593000908 : Unit := ()
def PySem.W.Fast.tw15435951371047982157 : Unit := ()
def PySem.W.Fast.tw14418910280230822061 : Unit := ()
def PySem.W.Fast.tw6275378836713725325 : Unit := ()
def PySem.W.Fast.tw10113166554858130957 : Unit := ()
def PySem.W.Fast.tw15646437281133749773 : Unit := ()
def PySem.W.Fast.tw2853777100126452493 : Unit := ()
def PySem.W.Fast.tw10661234520938692622 : Unit := ()
def PySem.W.Fast.tw15932107839070487726 : Unit := ()
def PySem.W.Fast.tw10472455533302841582 : Unit := ()
def PySem.W.Fast.tw10628980272925136110 : Unit := ()
def PySem.W.Fast.tw1377942288376036590 : Unit := ()
def PySem.W.Fast.tw14261797931414399598 : Unit := ()
def PySem.W.Fast.tw17542889434839522958 : Unit := ()
def PySem.W.Fast.tw767352413573852846 : Unit := ()
def PySem.W.Fast.tw1937839022499457710 : Unit := ()
def PySem.W.Fast.tw12208733247662604014 : Unit := ()
def PySem.W.Fast.tw1827621502354294734 : Unit := ()
def PySem.W.Fast.tw11821481204438754286 : Unit := ()
def PySem.W.Fast.tw4556561195670763535 : Unit := ()
def PySem.W.Fast.tw10140965470483609743 : Unit := ()
def PySem.W.Fast.tw11867280906389888175 : Unit := ()
def PySem.W.Fast.tw10335059177759514063 : Unit := ()
def PySem.W.Fast.tw483191175094179343 : Unit := ()
def PySem.W.Fast.tw13102855593834175023 : Unit := ()
def PySem.W.Fast.tw7468066580905836175 : Unit := ()
def PySem.W.Fast.tw2583691287334022799 : Unit := ()
def PySem.W.Fast.tw14909062644337757871 : Unit := ()
def PySem.W.Fast.tw17709818902143201199 : Unit := ()
def PySem.W.Fast.tw11379657856247840719 : Unit := ()
def PySem.W.Fast.tw5243724680423653456 : Unit := ()
def PySem.W.Fast.tw18058874174608631024 : Unit := ()
def PySem.W.Fast.tw6203733721375299952 : Unit := ()
def PySem.W.Fast.tw5508204587425138064 : Unit := ()
def PySem.W.Fast.tw1140530427034007024 : Unit := ()
def PySem.W.Fast.tw8767689444176509424 : Unit := ()
def PySem.W.Fast.tw3530843009470851600 : Unit := ()
def PySem.W.Fast.tw216248109304843792 : Unit := ()
def PySem.W.Fast.tw18405748585394066992 : Unit := ()
def PySem.W.Fast.tw13058613572951660144 : Unit := ()
def PySem.W.Fast.tw15120768385308002160 : Unit := ()
def PySem.W.Fast.tw7478977071970864080 : Unit := ()
def PySem.W.Fast.tw15857071417979806704 : Unit := ()
def PySem.W.Fast.tw1380402221815733232 : Unit := ()
def PySem.W.Fast.tw3272736612353382417 : Unit := ()
def PySem.W.Fast.tw1873460133481773297 : Unit := ()
def PySem.W.Fast.tw11261921869209499953 : Unit := ()
def PySem.W.Fast.tw11408688164128422225 : Unit := ()
def PySem.W.Fast.tw1688028741185200561 : Unit := ()
def PySem.W.Fast.tw13824309456533324209 : Unit := ()
def PySem.W.Fast.tw10897130964507017745 : Unit := ()
def PySem.W.Fast.tw966164576505268753 : Unit := ()
def PySem.W.Fast.tw8977898316780483185 : Unit := ()
def PySem.W.Fast.tw16431721769653709457 : Unit := ()
def PySem.W.Fast.tw4427650730227865233 : Unit := ()
def PySem.W.Fast.tw7245016247638691505 : Unit := ()
def PySem.W.Fast.tw12719831622857853681 : Unit := ()
def PySem.W.Fast.tw17492612999005467377 : Unit := ()
def PySem.W.Fast.tw2012891749402566385 : Unit := ()
def PySem.W.Fast.tw11208100136375912209 : Unit := ()
def PySem.W.Fast.tw14329514040343165713 : Unit := ()
def PySem.W.Fast.tw13947959574954833713 : Unit := ()
def PySem.W.Fast.tw8201733547799925553 : Unit := ()
def PySem.W.Fast.tw316086168354496433 : Unit := ()
def PySem.W.Fast.tw17149662962609243121 : Unit := ()
def PySem.W.Fast.tw3559848328606740562 : Unit := ()
def PySem.W.Fast.tw11005291526251612434 : Unit := ()
def PySem.W.Fast.tw2185327563059073298 : Unit := ()
def PySem.W.Fast.tw15410306427082533170 : Unit := ()
def PySem.W.Fast.tw650373721218062706 : Unit := ()
def PySem.W.Fast.tw13462944704905371026 : Unit := ()
def PySem.W.Fast.tw18112620340545235442 : Unit := ()
def PySem.W.Fast.tw13782172842421987922 : Unit := ()
def PySem.W.Fast.tw1727232266314261106 : Unit := ()
def PySem.W.Fast.tw15881813140331033234 : Unit := ()
def PySem.W.Fast.tw8399270454762469042 : Unit := ()
def PySem.W.Fast.tw9431155735946178258 : Unit := ()
def PySem.W.Fast.tw2778991042159533842 : Unit := ()
def PySem.W.Fast.tw12609249218088887090 : Unit := ()
def PySem.W.Fast.tw15101296214386362258 : Unit := ()
def PySem.W.Fast.tw9569107372362883187 : Unit := ()
def PySem.W.Fast.tw9873116699212218515 : Unit := ()
def PySem.W.Fast.tw13344511553287360659 : Unit := ()
def PySem.W.Fast.tw74276389083991187 : Unit := ()
def PySem.W.Fast.tw11494223652333009203 : Unit := ()
def PySem.W.Fast.tw15343022496655690259 : Unit := ()
def PySem.W.Fast.tw17452397587930884723 : Unit := ()
def PySem.W.Fast.tw14831227844989568755 : Unit := ()
def PySem.W.Fast.tw7527590560615975667 : Unit := ()
def PySem.W.Fast.tw13797042316447934355 : Unit := ()
def PySem.W.Fast.tw1254945032304788724 : Unit := ()
def PySem.W.Fast.tw13281262612059854100 : Unit := ()
def PySem.W.Fast.tw1919079510649658676 : Unit := ()
def PySem.W.Fast.tw8667861851194171764 : Unit := ()
def PySem.W.Fast.tw2145376500409577908 : Unit := ()
def PySem.W.Fast.tw9695826641735124 : Unit := ()
def PySem.W.Fast.tw1771095910729452180 : Unit := ()
def PySem.W.Fast.tw12939229537355817748 : Unit := ()
def PySem.W.Fast.tw18345465272138447732 : Unit := ()
def PySem.W.Fast.tw4997799533208558452 : Unit := ()
def PySem.W.Fast.tw1575996924501500629 : Unit := ()
def PySem.W.Fast.tw10143380196252885781 : Unit := ()
def PySem.W.Fast.tw15692057562426910613 : Unit := ()
def PySem.W.Fast.tw10163704514572673174 : Unit := ()
def PySem.W.Fast.tw4196712023378096310 : Unit := ()
def PySem.W.Fast.tw10565720353332623702 : Unit := ()
def PySem.W.Fast.tw716095574754768374 : Unit := ()
def PySem.W.Fast.tw5674069579851223638 : Unit := ()
def PySem.W.Fast.tw1468383049754690326 : Unit := ()
def PySem.W.Fast.tw1164854142456335158 : Unit := ()
def PySem.W.Fast.tw16339738643627779958 : Unit := ()
def PySem.W.Fast.tw5585951122119956470 : Unit := ()
def PySem.W.Fast.tw9368617596403715127 : Unit := ()
def PySem.W.Fast.tw6589967465583902839 : Unit := ()
def PySem.W.Fast.tw576576411985623223 : Unit := ()
def PySem.W.Fast.tw3793013354292656375 : Unit := ()
def PySem.W.Fast.tw7671744302242897175 : Unit := ()
def PySem.W.Fast.tw13847568878876884343 : Unit := ()
def PySem.W.Fast.tw16380646443414588951 : Unit := ()
def PySem.W.Fast.tw17794766210212182583 : Unit := ()
def PySem.W.Fast.tw16218214785892799063 : Unit := ()
def PySem.W.Fast.tw5093954021810418295 : Unit := ()
def PySem.W.Fast.tw13885610077147505271 : Unit := ()
def PySem.W.Fast.tw10258865530872114839 : Unit := ()
def PySem.W.Fast.tw2492561739184016055 : Unit := ()
def PySem.W.Fast.tw13355725421991524087 : Unit := ()
def PySem.W.Fast.tw18283904941124939575 : Unit := ()
def PySem.W.Fast.tw17366718678042644375 : Unit := ()
def PySem.W.Fast.tw6748381833006529463 : Unit := ()
def PySem.W.Fast.tw16896402553828819959 : Unit := ()
def PySem.W.Fast.tw12302175658297589912 : Unit := ()
def PySem.W.Fast.tw10279624565942048952 : Unit := ()
def PySem.W.Fast.tw13495343631316144376 : Unit := ()
def PySem.W.Fast.tw4808752373358139704 : Unit := ()
def PySem.W.Fast.tw16877091944316749112 : Unit := ()
def PySem.W.Fast.tw13344969764930740568 : Unit := ()
def PySem.W.Fast.tw4353930709007855992 : Unit := ()
def PySem.W.Fast.tw2914334131196329464 : Unit := ()
def PySem.W.Fast.tw11326375435610731000 : Unit := ()
def PySem.W.Fast.tw10495261336625085080 : Unit := ()
def PySem.W.Fast.tw2411778524267838200 : Unit := ()
def PySem.W.Fast.tw2466985206147573528 : Unit := ()
def PySem.W.Fast.tw11061430627691680696 : Unit := ()
def PySem.W.Fast.tw3271132562933490713 : Unit := ()
def PySem.W.Fast.tw16230703834840327193 : Unit := ()
def PySem.W.Fast.tw16842553758195454041 : Unit := ()
def PySem.W.Fast.tw9659709589212096633 : Unit := ()
def PySem.W.Fast.tw7097510533530012857 : Unit := ()
def PySem.W.Fast.tw8775553042295959769 : Unit := ()
def PySem.W.Fast.tw18324732881176039673 : Unit := ()
def PySem.W.Fast.tw14256728656010895801 : Unit := ()
def PySem.W.Fast.tw4152736170713160217 : Unit := ()
def PySem.W.Fast.tw991941516814013017 : Unit := ()
def PySem.W.Fast.tw3196317529220074137 : Unit := ()
def PySem.W.Fast.tw4596278982329870490 : Unit := ()
def PySem.W.Fast.tw15598951969339846906 : Unit := ()
def PySem.W.Fast.tw15910489514106554682 : Unit := ()
def PySem.W.Fast.tw4480099549726455130 : Unit := ()
def PySem.W.Fast.tw17245081833025840954 : Unit := ()
def PySem.W.Fast.tw4545515194241887098 : Unit := ()
def PySem.W.Fast.tw2782740250836232154 : Unit := ()
def PySem.W.Fast.tw14122707608433980475 : Unit := ()
def PySem.W.Fast.tw8107899714633422107 : Unit := ()
def PySem.W.Fast.tw971764275991017755 : Unit := ()
def PySem.W.Fast.tw7488688227011526331 : Unit := ()
def PySem.W.Fast.tw5362664075461184347 : Unit := ()
def PySem.W.Fast.tw9566641184361740508 : Unit := ()
def PySem.W.Fast.tw2583704766787811580 : Unit := ()
def PySem.W.Fast.tw9455442212742440220 : Unit := ()
def PySem.W.Fast.tw4537024454621532540 : Unit := ()
def PySem.W.Fast.tw8179206853690473980 : Unit := ()
def PySem.W.Fast.tw9060530183080560156 : Unit := ()
def PySem.W.Fast.tw2287749701297556028 : Unit := ()
def PySem.W.Fast.tw7407263907063204604 : Unit := ()
def PySem.W.Fast.tw6531286636032901948 : Unit := ()
def PySem.W.Fast.tw18259955369538334588 : Unit := ()
def PySem.W.Fast.tw11221275520765841308 : Unit := ()
def PySem.W.Fast.tw11156971480423143356 : Unit := ()
def PySem.W.Fast.tw1642292573449142365 : Unit := ()
def PySem.W.Fast.tw17564897784221961309 : Unit := ()
def PySem.W.Fast.tw16206877923847464061 : Unit := ()
def PySem.W.Fast.tw17327878725210073213 : Unit := ()
def PySem.W.Fast.tw5106350540231499005 : Unit := ()
def PySem.W.Fast.tw15388275613322468637 : Unit := ()
def PySem.W.Fast.tw10458773099071576605 : Unit := ()
def PySem.W.Fast.tw11886988386364646973 : Unit := ()
def PySem.W.Fast.tw3952319929961371229 : Unit := ()
def PySem.W.Fast.tw17239456944489356029 : Unit := ()
def PySem.W.Fast.tw6566249039880572669 : Unit := ()
def PySem.W.Fast.tw12880604013820372733 : Unit := ()
def PySem.W.Fast.tw16255978707353603869 : Unit := ()
def PySem.W.Fast.tw2958914791332104061 : Unit := ()
def PySem.W.Fast.tw5975258754579329981 : Unit := ()
def PySem.W.Fast.tw16596128739947412413 : Unit := ()
def PySem.W.Fast.tw11357431221490792445 : Unit := ()
def PySem.W.Fast.tw3562503479100778558 : Unit := ()
def PySem.W.Fast.tw13188057124354104414 : Unit := ()
def PySem.W.Fast.tw12232532912625716702 : Unit := ()
def PySem.W.Fast.tw6391742611646827998 : Unit := ()
def PySem.W.Fast.tw16314161798442043966 : Unit := ()
def PySem.W.Fast.tw6326593417104250590 : Unit := ()
def PySem.W.Fast.tw5837581079772391551 : Unit := ()
def PySem.W.Fast.tw12706699091754420607 : Unit := ()
def PySem.W.Fast.tw8847712815678288287 : Unit := ()
def PySem.W.Fast.tw7541914085474546207 : Unit := ()
def PySem.W.Fast.tw10839774721939191551 : Unit := ()
def PySem.W.Fast.tw163058968005433151 : Unit := ()
def PySem.W.Fast.tw12878303034455461947 : Unit := ()
open PySem PySem.W PyProof.Rows
set_option maxRecDepth 100000 in
set_option maxHeartbeats 0 in
theorem PySem.Challenge.cw_farshelf_k32_joined_holds : PySem.Challenge.rw_farshelf_k32_joined.Holds := by
  w_on; o_law; k_head; (case hw => w_witness2)
  k_fill
  refine K32.walk (l := PySem.Challenge.rw_farshelf_k32_joined) rfl rfl (fun w h Y => PySem.W.kIn_of Y) ?F
  case F =>
    intro w mg fa h KX G hmg
    refine' K32.all_mk KX G hmg ?a0 ?l0 ?c0 ?k0 ?a1 ?l1 ?c1 ?k1 ?a2 ?l2 ?c2 ?k2 ?a3 ?l3 ?c3 ?k3 ?a4 ?l4 ?c4 ?k4 ?a5 ?l5 ?c5 ?k5 ?a6 ?l6 ?c6 ?k6 ?a7 ?l7 ?c7 ?k7 ?a8 ?l8 ?c8 ?k8 ?a9 ?l9 ?c9 ?k9 ?a10 ?l10 ?c10 ?k10 ?a11 ?l11 ?c11 ?k11 ?a12 ?l12 ?c12 ?k12 ?a13 ?l13 ?c13 ?k13 ?a14 ?l14 ?c14 ?k14 ?a15 ?l15 ?c15 ?k15 ?a16 ?l16 ?c16 ?k16 ?a17 ?l17 ?c17 ?k17 ?a18 ?l18 ?c18 ?k18 ?a19 ?l19 ?c19 ?k19 ?a20 ?l20 ?c20 ?k20 ?a21 ?l21 ?c21 ?k21 ?a22 ?l22 ?c22 ?k22 ?a23 ?l23 ?c23 ?k23 ?a24 ?l24 ?c24 ?k24 ?a25 ?l25 ?c25 ?k25 ?a26 ?l26 ?c26 ?k26 ?a27 ?l27 ?c27 ?k27 ?a28 ?l28 ?c28 ?k28 ?a29 ?l29 ?c29 ?k29 ?a30 ?l30 ?c30 ?k30 ?a31 ?l31 ?c31 ?k31 ?a32 ?l32 ?c32 ?k32 ?a33 ?l33 ?c33 ?k33 ?a34 ?l34 ?c34 ?k34 ?z0 ?z1 ?z2 ?z3 ?z4 ?z5 ?z6 ?z7 ?z8 ?z9 ?z10 ?z11 ?z12 ?z13 ?z14 ?gL ?rL ?gN ?rN ?gC ?rC ?glN ?rlN ?glC ?rlC ?gro ?rro ?gcl ?rcl ?gtN ?ltN ?ktN ?eN0 ?qN0 ?yN0 ?rN0 ?eN1 ?qN1 ?yN1 ?rN1 ?eN2 ?qN2 ?yN2 ?rN2 ?gtC ?ltC ?ktC ?eC0 ?qC0 ?yC0 ?rC0 ?eC1 ?qC1 ?yC1 ?rC1 ?eC2 ?qC2 ?yC2 ?rC2 ?gtF ?ltF ?ktF ?eF0 ?qF0 ?yF0 ?rF0 ?eF1 ?qF1 ?yF1 ?rF1 ?eF2 ?qF2 ?yF2 ?rF2 ?gtG ?ltG ?ktG ?eG0 ?qG0 ?yG0 ?rG0 ?eG1 ?qG1 ?yG1 ?rG1 ?eG2 ?qG2 ?yG2 ?rG2 ?gSh ?aI ?iI ?lI ?cI ?kI ?pg ?hd ?po ?sa ?mk ?kc ?nFo ?nFi ?nGr
    (case a0 => k_is)
    (case l0 => k_is)
    (case c0 => k_is)
    (case k0 => k_is)
    (case a1 => k_is)
    (case l1 => k_is)
    (case c1 => k_is)
    (case k1 => k_is)
    (case a2 => k_is)
    (case l2 => k_is)
    (case c2 => k_is)
    (case k2 => k_is)
    (case a3 => k_is)
    (case l3 => k_is)
    (case c3 => k_is)
    (case k3 => k_is)
    (case a4 => k_is)
    (case l4 => k_is)
    (case c4 => k_is)
    (case k4 => k_is)
    (case a5 => k_is)
    (case l5 => k_is)
    (case c5 => k_is)
    (case k5 => k_is)
    (case a6 => k_is)
    (case l6 => k_is)
    (case c6 => k_is)
    (case k6 => k_is)
    (case a7 => k_is)
    (case l7 => k_is)
    (case c7 => k_is)
    (case k7 => k_is)
    (case a8 => k_is)
    (case l8 => k_is)
    (case c8 => k_is)
    (case k8 => k_is)
    (case a9 => k_is)
    (case l9 => k_is)
    (case c9 => k_is)
    (case k9 => k_is)
    (case a10 => k_is)
    (case l10 => k_is)
    (case c10 => k_is)
    (case k10 => k_is)
    (case a11 => k_is)
    (case l11 => k_is)
    (case c11 => k_is)
    (case k11 => k_is)
    (case a12 => k_is)
    (case l12 => k_is)
    (case c12 => k_is)
    (case k12 => k_is)
    (case a13 => k_is)
    (case l13 => k_is)
    (case c13 => k_is)
    (case k13 => k_is)
    (case a14 => k_is)
    (case l14 => k_is)
    (case c14 => k_is)
    (case k14 => k_is)
    (case a15 => k_is)
    (case l15 => k_is)
    (case c15 => k_is)
    (case k15 => k_is)
    (case a16 => k_is)
    (case l16 => k_is)
    (case c16 => k_is)
    (case k16 => k_is)
    (case a17 => k_is)
    (case l17 => k_is)
    (case c17 => k_is)
    (case k17 => k_is)
    (case a18 => k_is)
    (case l18 => k_is)
    (case c18 => k_is)
    (case k18 => k_is)
    (case a19 => k_is)
    (case l19 => k_is)
    (case c19 => k_is)
    (case k19 => k_is)
    (case a20 => k_is)
    (case l20 => k_is)
    (case c20 => k_is)
    (case k20 => k_is)
    (case a21 => k_is)
    (case l21 => k_is)
    (case c21 => k_is)
    (case k21 => k_is)
    (case a22 => k_is)
    (case l22 => k_is)
    (case c22 => k_is)
    (case k22 => k_is)
    (case a23 => k_is)
    (case l23 => k_is)
    (case c23 => k_is)
    (case k23 => k_is)
    (case a24 => k_is)
    (case l24 => k_is)
    (case c24 => k_is)
    (case k24 => k_is)
    (case a25 => k_is)
    (case l25 => k_is)
    (case c25 => k_is)
    (case k25 => k_is)
    (case a26 => k_is)
    (case l26 => k_is)
    (case c26 => k_is)
    (case k26 => k_is)
    (case a27 => k_is)
    (case l27 => k_is)
    (case c27 => k_is)
    (case k27 => k_is)
    (case a28 => k_is)
    (case l28 => k_is)
    (case c28 => k_is)
    (case k28 => k_is)
    (case a29 => k_is)
    (case l29 => k_is)
    (case c29 => k_is)
    (case k29 => k_is)
    (case a30 => k_is)
    (case l30 => k_is)
    (case c30 => k_is)
    (case k30 => k_is)
    (case a31 => k_is)
    (case l31 => k_is)
    (case c31 => k_is)
    (case k31 => k_is)
    (case a32 => k_is)
    (case l32 => k_is)
    (case c32 => k_is)
    (case k32 => k_is)
    (case a33 => k_is)
    (case l33 => k_is)
    (case c33 => k_is)
    (case k33 => k_is)
    (case a34 => k_is)
    (case l34 => k_is)
    (case c34 => k_is)
    (case k34 => k_is)
    (case z0 => k_is)
    (case z1 => k_is)
    (case z2 => k_is)
    (case z3 => k_is)
    (case z4 => k_is)
    (case z5 => k_is)
    (case z6 => k_is)
    (case z7 => k_is)
    (case z8 => k_is)
    (case z9 => k_is)
    (case z10 => k_is)
    (case z11 => k_is)
    (case z12 => k_is)
    (case z13 => k_is)
    (case z14 => k_is)
    (case gL => k_is)
    (case rL => exact ⟨_, rfl⟩)
    (case gN => k_is)
    (case rN => exact ⟨_, rfl⟩)
    (case gC => k_is)
    (case rC => exact ⟨_, rfl⟩)
    (case glN => k_is)
    (case rlN => exact ⟨_, rfl⟩)
    (case glC => k_is)
    (case rlC => exact ⟨_, rfl⟩)
    (case gro => k_is)
    (case rro => exact ⟨_, rfl⟩)
    (case gcl => k_is)
    (case rcl => exact ⟨_, rfl⟩)
    (case gtN => k_is)
    (case ltN => k_is)
    (case ktN => k_keys)
    (case eN0 => k_is)
    (case qN0 => k_is)
    (case yN0 => exact Nat.le_of_ble_eq_true rfl)
    (case rN0 => exact .cons ⟨_, rfl⟩ .nil)
    (case eN1 => k_is)
    (case qN1 => k_is)
    (case yN1 => exact Nat.le_of_ble_eq_true rfl)
    (case rN1 => exact .cons ⟨_, rfl⟩ .nil)
    (case eN2 => k_is)
    (case qN2 => k_is)
    (case yN2 => exact Nat.le_of_ble_eq_true rfl)
    (case rN2 => exact .nil)
    (case gtC => k_is)
    (case ltC => k_is)
    (case ktC => k_keys)
    (case eC0 => k_is)
    (case qC0 => k_is)
    (case yC0 => exact Nat.le_of_ble_eq_true rfl)
    (case rC0 => exact .cons ⟨_, rfl⟩ .nil)
    (case eC1 => k_is)
    (case qC1 => k_is)
    (case yC1 => exact Nat.le_of_ble_eq_true rfl)
    (case rC1 => exact .nil)
    (case eC2 => k_is)
    (case qC2 => k_is)
    (case yC2 => exact Nat.le_of_ble_eq_true rfl)
    (case rC2 => exact .cons ⟨_, rfl⟩ .nil)
    (case gtF => k_is)
    (case ltF => k_is)
    (case ktF => k_keys)
    (case eF0 => k_is)
    (case qF0 => k_is)
    (case yF0 => exact Nat.le_of_ble_eq_true rfl)
    (case rF0 => exact .cons ⟨_, rfl⟩ .nil)
    (case eF1 => k_is)
    (case qF1 => k_is)
    (case yF1 => exact Nat.le_of_ble_eq_true rfl)
    (case rF1 => exact .cons ⟨_, rfl⟩ .nil)
    (case eF2 => k_is)
    (case qF2 => k_is)
    (case yF2 => exact Nat.le_of_ble_eq_true rfl)
    (case rF2 => exact .nil)
    (case gtG => k_is)
    (case ltG => k_is)
    (case ktG => k_keys)
    (case eG0 => k_is)
    (case qG0 => k_is)
    (case yG0 => exact Nat.le_of_ble_eq_true rfl)
    (case rG0 => exact .nil)
    (case eG1 => k_is)
    (case qG1 => k_is)
    (case yG1 => exact Nat.le_of_ble_eq_true rfl)
    (case rG1 => exact .nil)
    (case eG2 => k_is)
    (case qG2 => k_is)
    (case yG2 => exact Nat.le_of_ble_eq_true rfl)
    (case rG2 => exact .cons ⟨_, rfl⟩ .nil)
    (case gSh => k_is)
    (case aI => k_is)
    (case iI => k_is)
    (case lI => k_is)
    (case cI => k_is)
    (case kI => k_is)
    (case pg => k_is)
    (case hd => k_is)
    (case po => k_is)
    (case sa => k_is)
    (case mk => k_is)
    (case kc => k_is)
    (case nFo => k_is)
    (case nFi => k_is)
    (case nGr => k_is)
