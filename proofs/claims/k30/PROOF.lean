import PyProof.Rows.All
import Wide.All
import OpenK.AllK
import Wide.FinOn
import Lean
import PyProof.EqAt
import PyProof.EqKinds
import PyProof.TupleCall
import PyProof.WalksEnum
import PyProof.EnumMake
import PyProof.Rows.EnumRows
import PyProof.NeData
import PyProof.ReprRoads
import PyProof.SumWalkG
import PyProof.StrLawsTight
import PyProof.Rows.StrNews
import PyProof.Rows.StrJoin2
import PyProof.Rows.CatFin
import PyProof.ConsumeWalk
import PyProof.StrWalks
import KE.KItemsList
import KE.KSortTup
import PyProof.ZipIter
import PyProof.ListRange
import PySem.Challenge.RW_farshelf_k30_the_next_log
set_option Elab.async false
set_option linter.all false
set_option maxRecDepth 100000
namespace L2
open PySem PySem.Spec PyProof.Rows
noncomputable abbrev Key := Sum Int Str
noncomputable def keyIs : Key → Value → Bool
  | .inl k, v => Value.isInt k v
  | .inr x, v => Value.isStrOf x v
noncomputable def keyH (w : World) : Key → Int
  | .inl k => hashInt k
  | .inr x => hashStr w x
theorem keyIs_shape : ∀ {k : Key} {v : Value}, keyIs k v = true → (∃ i t, k = Sum.inl i ∧ v = Value.int i t) ∨ (∃ x t, k = Sum.inr x ∧ v = Value.str x t)
  | .inl i, v, h => by
    obtain ⟨t, e⟩ := Value.isInt_shape (k := i) (v := v) h
    exact .inl ⟨i, t, rfl, e⟩
  | .inr x, v, h => by
    obtain ⟨t, e⟩ := Value.isStrOf_shape (x := x) (v := v) h
    exact .inr ⟨x, t, rfl, e⟩
theorem keyIs_int (i : Int) (t : Tok) : keyIs (.inl i) (.int i t) = true := by simp [keyIs, Value.isInt]
theorem keyIs_str (x : Str) (t : Tok) : keyIs (.inr x) (.str x t) = true := by simp [keyIs, Value.isStrOf]
theorem key_ll (a b : Int) : decide ((Sum.inl a : Key) = Sum.inl b) = (a == b) := by
  by_cases e : a = b
  · subst e; simp
  · have h : ¬ (Sum.inl a : Key) = Sum.inl b := fun q => e (Sum.inl.inj q)
    rw [decide_eq_false h]
    exact (beq_eq_false_iff_ne.mpr e).symm
theorem key_rr (a b : Str) : decide ((Sum.inr a : Key) = Sum.inr b) = decide (a = b) := by
  by_cases e : a = b
  · subst e; simp
  · have h : ¬ (Sum.inr a : Key) = Sum.inr b := fun q => e (Sum.inr.inj q)
    rw [decide_eq_false h, decide_eq_false e]
theorem key_lr (a : Int) (b : Str) : decide ((Sum.inl a : Key) = Sum.inr b) = false := decide_eq_false (fun q => nomatch q)
theorem key_rl (a : Str) (b : Int) : decide ((Sum.inr a : Key) = Sum.inl b) = false := decide_eq_false (fun q => nomatch q)
noncomputable def mixKind (prog : Program) (w : World) : PySem.KeyKind prog w Key where
  is := keyIs
  hash := keyH w
  inj := fun v a b ha hb => by
    rcases keyIs_shape ha with ⟨i, t, rfl, rfl⟩ | ⟨x, t, rfl, rfl⟩
    · rcases keyIs_shape hb with ⟨j, u, rfl, e⟩ | ⟨y, u, rfl, e⟩
      · injection e with e1 _; rw [e1]
      · exact nomatch e
    · rcases keyIs_shape hb with ⟨j, u, rfl, e⟩ | ⟨y, u, rfl, e⟩
      · exact nomatch e
      · injection e with e1 _; rw [e1]
  byValue := fun k v h => by
    rcases keyIs_shape h with ⟨i, t, rfl, rfl⟩ | ⟨x, t, rfl, rfl⟩ <;> rfl
  pyHash := fun hv h => by
    rcases keyIs_shape hv with ⟨i, t, rfl, rfl⟩ | ⟨x, t, rfl, rfl⟩
    · exact wpAny_pyHash_int h
    · exact wpAny_pyHash_str h
  eqBool := fun hu hv h => by
    rcases keyIs_shape hu with ⟨i, t, rfl, rfl⟩ | ⟨x, t, rfl, rfl⟩
    · rcases keyIs_shape hv with ⟨j, u, rfl, rfl⟩ | ⟨y, u, rfl, rfl⟩
      · rw [key_ll] at h; exact wpAny_eqBool_int h
      · rw [key_lr] at h; exact SeqAt.EqAt.int_str i t y u _ _ _ _ h
    · rcases keyIs_shape hv with ⟨j, u, rfl, rfl⟩ | ⟨y, u, rfl, rfl⟩
      · rw [key_rl] at h; exact SeqAt.EqAt.str_int x t j u _ _ _ _ h
      · rw [key_rr] at h; exact wpAny_eqBool_str h
  «strs» := fun k x t v h => by
    rcases keyIs_shape h with ⟨i, u, rfl, e⟩ | ⟨y, u, rfl, e⟩
    · exact nomatch e
    · injection e with e1 _
      subst e1
      cases v <;> rfl
theorem mixKind_int (prog : Program) (w : World) (i : Int) (t : Tok) : (mixKind prog w).is (.inl i) (.int i t) = true := keyIs_int i t
theorem mixKind_str (prog : Program) (w : World) (x : Str) (t : Tok) : (mixKind prog w).is (.inr x) (.str x t) = true := keyIs_str x t
end L2
namespace L2
open PySem PySem.Spec PyProof.Rows
inductive V where
  | non | bl (b : Bool) | int (i : Int) | str (x : Str) | byt (b : Array UInt8) | flt (b : UInt64) | ref (a : Addr) | ty (n : String)
  deriving DecidableEq
noncomputable def RelV : V → Value → Prop
  | .non, u => u = Value.none
  | .bl b, u => u = Value.bool b
  | .int i, u => ∃ t, u = Value.int i t
  | .str x, u => ∃ t, u = Value.str x t
  | .byt b, u => ∃ t, u = Value.bytes b t
  | .flt b, u => ∃ t, u = Value.float b t
  | .ref a, u => u = Value.ref a
  | .ty n, u => u = Value.type n
noncomputable abbrev Vals : List V → List Value → Prop := Paired RelV
theorem Vals.length {xs : List V} {us : List Value} (r : Vals xs us) : xs.length = us.length := Paired.length r
theorem Vals.get : ∀ {xs : List V} {us : List Value} {i : Nat} {x : V}, Vals xs us → xs[i]? = some x → ∃ u, us[i]? = some u ∧ RelV x u
  | _, _, _, _, .nil, e => by simp at e
  | _, _, 0, _, .cons r _, e => by simp at e; subst e; exact ⟨_, rfl, r⟩
  | _, _, i + 1, x, .cons _ t, e => by
    obtain ⟨u, h1, h2⟩ := Vals.get (i := i) (x := x) t (by simpa using e)
    exact ⟨u, by simpa using h1, h2⟩
theorem Vals.set {x : V} {u : Value} (r : RelV x u) : ∀ {xs : List V} {us : List Value} (i : Nat), Vals xs us → Vals (xs.set i x) (us.set i u)
  | _, _, _, .nil => .nil
  | _, _, 0, .cons _ t => .cons r t
  | _, _, i + 1, .cons q t => .cons q (Vals.set r i t)
theorem Vals.append : ∀ {xs ys : List V} {us ws : List Value}, Vals xs us → Vals ys ws → Vals (xs ++ ys) (us ++ ws)
  | _, _, _, _, .nil, s => s
  | _, _, _, _, .cons r t, s => .cons r (Vals.append t s)
theorem Vals.take : ∀ {xs : List V} {us : List Value} (n : Nat), Vals xs us → Vals (xs.take n) (us.take n)
  | _, _, 0, _ => .nil
  | _, _, _ + 1, .nil => .nil
  | _, _, n + 1, .cons r t => .cons r (Vals.take n t)
theorem Vals.drop : ∀ {xs : List V} {us : List Value} (n : Nat), Vals xs us → Vals (xs.drop n) (us.drop n)
  | _, _, 0, r => r
  | _, _, _ + 1, .nil => .nil
  | _, _, n + 1, .cons _ t => Vals.drop n t
noncomputable def RelO : Option V → Option Value → Prop
  | some v, some u => RelV v u
  | none, none => True
  | _, _ => False
noncomputable def KV {κ : Type} : List (κ × V) → List (κ × Value) → Prop := Paired fun (p : κ × V) (q : κ × Value) => p.1 = q.1 ∧ RelV p.2 q.2
noncomputable def kV : Key → V
  | .inl i => .int i
  | .inr x => .str x
inductive HO where
    | lst (xs : List V)
    | tup (xs : List V)
    | dK (kvs : List (Key × V)) | dT (kvs : List (List Key × V))
    | set (S : Int → Bool) (n : Nat)
    | ins (C dx : Addr) (fs : List (Str × V))
    | own (x : Addr)
    | xd (fs : List (Str × V))
    | met (f x : Addr)
    | rng (lo hi : Int)
    | frz (o : Obj) (u : HO)
    | tbl (ps : Array Value)
    | ext (φ : Heap → Prop)
noncomputable abbrev Hp := Addr → Option HO
noncomputable def upd (H : Hp) (a : Addr) (o : HO) : Hp := fun b => if b = a then some o else H b
theorem upd_same {H : Hp} {a : Addr} {o : HO} : upd H a o a = some o := by unfold upd; rw [if_pos rfl]
theorem upd_ne {H : Hp} {a b : Addr} {o : HO} (h : b ≠ a) : upd H a o b = H b := by unfold upd; rw [if_neg h]
theorem ne_of_none {H : Hp} {a b : Addr} {o : HO} (h : H a = some o) (h' : H b = none) : a ≠ b := by
  intro e; subst e; rw [h] at h'; cases h'
section
variable (P : Program) (w : World)
noncomputable def ObjOk (H : Hp) (h : Heap) (a : Addr) : HO → Prop
  | .lst xs => xs.length ≤ sizeLine ∧ ∃ (its : List Value) (n : Nat), Vals xs its ∧ h.get? a = some { cls := .type "list", data := .seq its.toArray n }
  | .tup xs => xs.length ≤ sizeLine ∧ ∃ its : List Value, Vals xs its ∧ IsTup h a its.toArray
  | .dK kvs => kvs.length ≤ sizeLine ∧ (a == sysModules) = false ∧ ∃ vs, KV kvs vs ∧ h.DictOf (mixKind P w) a vs
  | .dT kvs => kvs.length ≤ sizeLine ∧ (a == sysModules) = false ∧ ∃ xs : List (List Key × Addr × Value),
      Paired (fun (p : List Key × V) (q : List Key × Addr × Value) => p.1 = q.1 ∧ H q.2.1 = some (.tup (p.1.map kV)) ∧ RelV p.2 q.2.2) kvs xs ∧
      ∃ o es ep, h.get? a = some o ∧ o.ExactDict ∧ o.data = .dict es ep ∧ es.toList = xs.map (entryOfKey (tupleKind (mixKind P w))) ∧ (xs.map (·.1)).Nodup
  | .set S n => h.SetOf (intKind P w) a S n
  | .ins C dx fs => H dx = some (.own a) ∧ fs.length ≤ 1000 ∧ dx ≠ a ∧ h.get? a = some (W.instObj C dx) ∧
      ∃ mA, h.Ns1 dx mA ∧ (∀ f, RelO (fs.lookup f) (mA f)) ∧ PySem.Within mA (fs.map (·.1))
  | .own _ => ∃ o, h.get? a = some o
  | .xd fs => ∃ mA, h.Ns1 a mA ∧ ∀ f, RelO (fs.lookup f) (mA f)
  | .rng lo hi => ∃ t u v, h.get? a = some { cls := .type "range", data := .fields #[.int lo t, .int hi u, .int 1 v] }
  | .frz o u => h.get? a = some o ∧ ObjOk H h a u
  | .tbl ps => h.get? a = some { cls := .none, data := .fields ps }
  | .met f x => h.get? a = some (W.methodObj (.ref f) (.ref x))
  | .ext φ => φ h ∧ (∃ o, h.get? a = some o) ∧ ∀ h1 h2 : Heap, φ h1 → (∀ o, h1.get? a = some o → h2.get? a = some o) → φ h2
noncomputable def HOk (H : Hp) (h : Heap) : Prop := ∀ a o, H a = some o → ObjOk P w H h a o
end
section
variable {P : Program} {w : World} {H H' : Hp} {h h' : Heap} {a : Addr} {o : HO}
theorem ObjOk.lt (x : ObjOk P w H h a o) : a < h.objs.size := by
  cases o with
  | lst xs => obtain ⟨_, _, _, _, e⟩ := x; exact Heap.lt_size e
  | tup xs => obtain ⟨_, _, _, p⟩ := x; exact p.lt
  | dK kvs => obtain ⟨_, _, _, _, o, _, _, e, _⟩ := x; exact Heap.lt_size e
  | dT kvs => obtain ⟨_, _, _, _, o, _, _, e, _⟩ := x; exact Heap.lt_size e
  | set S n => obtain ⟨o, _, _, _, e, _⟩ := x; exact Heap.lt_size e
  | ins C dx fs => obtain ⟨_, _, _, e, _⟩ := x; exact Heap.lt_size e
  | own y => obtain ⟨_, e⟩ := x; exact Heap.lt_size e
  | xd fs => obtain ⟨_, ⟨_, _, _, e, _⟩, _⟩ := x; exact Heap.lt_size e
  | rng lo hi => obtain ⟨_, _, _, e⟩ := x; exact Heap.lt_size e
  | frz ob u => obtain ⟨e, _⟩ := x; exact Heap.lt_size e
  | tbl ps => exact Heap.lt_size (show h.get? a = some _ from x)
  | met f y => exact Heap.lt_size (show h.get? a = some _ from x)
  | ext φ => obtain ⟨_, ⟨_, e⟩, _⟩ := x; exact Heap.lt_size e
theorem Paired.mapP {α β : Type} {F G : α → β → Prop} : ∀ {l₁ : List α} {l₂ : List β}, Paired F l₁ l₂ → (∀ a b, F a b → G a b) → Paired G l₁ l₂
  | _, _, .nil, _ => .nil
  | _, _, .cons r t, f => .cons (f _ _ r) (Paired.mapP t f)
theorem ObjOk.stay (x : ObjOk P w H h a o) (k : ∀ b u, (b = a ∨ H b = some (.own a)) → h.get? b = some u → h'.get? b = some u)
    (ho : ∀ b, H b = some (.own a) → H' b = some (.own a)) (ht : ∀ b xs, H b = some (.tup xs) → H' b = some (.tup xs)) : ObjOk P w H' h' a o := by
  induction o with
  | lst xs => obtain ⟨z, its, n, r, e⟩ := x; exact ⟨z, its, n, r, k _ _ (.inl rfl) e⟩
  | tup xs => obtain ⟨z, its, r, ob, e, c⟩ := x; exact ⟨z, its, r, ob, k _ _ (.inl rfl) e, c⟩
  | dK kvs => obtain ⟨z, y, vs, r, ob, es, ep, e, c⟩ := x; exact ⟨z, y, vs, r, ob, es, ep, k _ _ (.inl rfl) e, c⟩
  | dT kvs =>
    obtain ⟨z, y, xs, r, ob, es, ep, e, c⟩ := x
    exact ⟨z, y, xs, Paired.mapP r fun p q z => ⟨z.1, ht _ _ z.2.1, z.2.2⟩, ob, es, ep, k _ _ (.inl rfl) e, c⟩
  | set S n => obtain ⟨ob, es, ep, t, e, c⟩ := x; exact ⟨ob, es, ep, t, k _ _ (.inl rfl) e, c⟩
  | ins C dx fs =>
    obtain ⟨d, z, ne, e, mA, ⟨od, es, ep, e2, c⟩, r⟩ := x
    exact ⟨ho _ d, z, ne, k _ _ (.inl rfl) e, mA, ⟨od, es, ep, k _ _ (.inr d) e2, c⟩, r⟩
  | own y => obtain ⟨ob, e⟩ := x; exact ⟨ob, k _ _ (.inl rfl) e⟩
  | xd fs => obtain ⟨mA, ⟨od, es, ep, e, c⟩, r⟩ := x; exact ⟨mA, ⟨od, es, ep, k _ _ (.inl rfl) e, c⟩, r⟩
  | rng lo hi => obtain ⟨t, u, v, e⟩ := x; exact ⟨t, u, v, k _ _ (.inl rfl) e⟩
  | frz ob u ih => obtain ⟨e, q⟩ := x; exact ⟨k _ _ (.inl rfl) e, ih q⟩
  | tbl ps =>
    have e : h.get? a = some { cls := .none, data := .fields ps } := x
    show h'.get? a = some { cls := .none, data := .fields ps }
    exact k a _ (.inl rfl) e
  | met f y =>
    have e : h.get? a = some (W.methodObj (.ref f) (.ref y)) := x
    show h'.get? a = some (W.methodObj (.ref f) (.ref y))
    exact k a _ (.inl rfl) e
  | ext φ => obtain ⟨p, ⟨o, e⟩, st⟩ := x; exact ⟨st _ _ p fun o q => k _ _ (.inl rfl) q, ⟨o, k _ _ (.inl rfl) e⟩, st⟩
theorem HOk.lt (x : HOk P w H h) (e : H a = some o) : a < h.objs.size := (x a o e).lt
theorem HOk.fresh (x : HOk P w H h) (e : h.objs.size ≤ a) : H a = none := by
  cases q : H a with
  | none => rfl
  | some u => exact absurd (Nat.lt_of_lt_of_le (x.lt q) e) (Nat.lt_irrefl _)
theorem HOk.kept (x : HOk P w H h) (k : ∀ b u, h.get? b = some u → h'.get? b = some u) : HOk P w H h' := fun a o e =>
  (x a o e).stay (fun b u _ q => k b u q) (fun _ q => q) fun _ _ q => q
theorem HOk.laid (x : HOk P w H h) (k : ∀ b u, h.get? b = some u → h'.get? b = some u) (hp : h.objs.size ≤ a) (new : ObjOk P w (upd H a o) h' a o) : HOk P w (upd H a o) h' := fun b u e => by
  have hn := x.fresh hp
  by_cases hb : b = a
  · subst hb; rw [upd_same] at e; cases e; exact new
  · rw [upd_ne hb] at e
    exact (x b u e).stay (fun c v _ q => k c v q) (fun c q => by rw [upd_ne (ne_of_none q hn)]; exact q) fun c xs q => by rw [upd_ne (ne_of_none q hn)]; exact q
end
noncomputable def Rd (H : Hp) (a : Addr) (u : HO) : Prop := H a = some u ∨ ∃ o, H a = some (.frz o u)
theorem Rd.ok {P : Program} {w : World} {H : Hp} {h : Heap} {a : Addr} {u : HO} (r : Rd H a u) (x : HOk P w H h) : ObjOk P w H h a u := by
  rcases r with r | ⟨o, r⟩
  · exact x a u r
  · obtain ⟨_, q⟩ := x a _ r
    exact q
noncomputable def Mut : Option HO → Prop
  | some (.lst _) => True
  | some (.dK _) => True
  | some (.dT _) => True
  | some (.set _ _) => True
  | some (.ins _ _ _) => True
  | some (.ext _) => True
  | _ => False
section
variable {P : Program} {w : World} {H : Hp} {h h' : Heap} {x e : Addr} {o' : HO}
theorem HOk.write (ok : HOk P w H h) (mu : Mut (H x)) (he : e = x ∨ H e = some (.own x)) (k : ∀ b u, b ≠ e → h.get? b = some u → h'.get? b = some u) (heo : ∃ u, h'.get? e = some u)
    (new : ObjOk P w (upd H x o') h' x o') : HOk P w (upd H x o') h' := fun b u q => by
  have nown : ∀ c y, H c = some (.own y) → c ≠ x := fun c y r z => by subst z; rw [r] at mu; exact mu
  have ntup : ∀ c xs, H c = some (.tup xs) → c ≠ x := fun c xs r z => by subst z; rw [r] at mu; exact mu
  by_cases hb : b = x
  · subst hb; rw [upd_same] at q; cases q; exact new
  · rw [upd_ne hb] at q
    by_cases hbe : b = e
    · have q' : H b = some (.own x) := by
        rcases he with z | z
        · exact absurd (hbe.trans z) hb
        · rw [hbe]; exact z
      rw [q] at q'; cases q'
      obtain ⟨v, hv⟩ := heo
      exact ⟨v, by rw [hbe]; exact hv⟩
    · refine (ok b u q).stay (fun c v hc r => k c v ?_ r) (fun c r => by rw [upd_ne (nown c b r)]; exact r) fun c xs r => by rw [upd_ne (ntup c xs r)]; exact r
      rcases hc with rfl | hc
      · exact hbe
      · rintro rfl
        rcases he with z | z
        · exact nown c b hc z
        · rw [hc] at z; cases z; exact hb rfl
end
structure Un (fs ex : List Addr) (H H' : Hp) (h h' : Heap) : Prop where
  keep : ∀ b o, h.get? b = some o → H b = none → b ∉ fs → b ∉ ex → h'.get? b = some o
  slot : ∀ b o, h.get? b = some o → H b = none → b ∈ fs → b ∉ ex → ∃ sl, h'.get? b = some { o with slots := sl }
  free : ∀ b o, h.get? b = some o → H b = none → b ∉ ex → H' b = none
  there : ∀ b o, h.get? b = some o → b ∉ ex → ∃ o', h'.get? b = some o'
  tups : ∀ b xs, H b = some (.tup xs) → H' b = some (.tup xs)
  frzs : ∀ b o u, H b = some (.frz o u) → H' b = some (.frz o u)
  tbls : ∀ b ps, H b = some (.tbl ps) → ∃ more, H' b = some (.tbl (ps ++ more))
section
variable {fs fs' ex ex' : List Addr} {H H1 H2 : Hp} {h h1 h2 h' : Heap} {a x e : Addr} {o : HO}
theorem Un.any (u : Un fs ex H H1 h h1) {b : Addr} {ob : Obj} (q : h.get? b = some ob) (n : H b = none) (hx : b ∉ ex) : ∃ sl, h1.get? b = some { ob with slots := sl } := by
  by_cases hb : b ∈ fs
  · exact u.slot b ob q n hb hx
  · exact ⟨ob.slots, u.keep b ob q n hb hx⟩
theorem Un.kept (k : ∀ b u, h.get? b = some u → h'.get? b = some u) : Un fs ex H H h h' :=
  ⟨fun b ob q _ _ _ => k b ob q, fun b ob q _ _ _ => ⟨ob.slots, k b ob q⟩, fun _ _ _ n _ => n, fun b ob q _ => ⟨ob, k b ob q⟩, fun _ _ q => q, fun _ _ _ q => q, fun _ ps q => ⟨#[], by rw [q]; simp⟩⟩
theorem Un.refl : Un fs ex H H h h := Un.kept fun _ _ q => q
theorem Un.laid (k : ∀ b u, h.get? b = some u → h'.get? b = some u) (hp : h.objs.size ≤ a) (hn : H a = none) : Un fs ex H (upd H a o) h h' where
  keep := fun b u q _ _ _ => k b u q
  slot := fun b u q _ _ _ => ⟨u.slots, k b u q⟩
  free := fun b u q n _ => by rw [upd_ne (Nat.ne_of_lt (Nat.lt_of_lt_of_le (Heap.lt_size q) hp))]; exact n
  there := fun b u q _ => ⟨u, k b u q⟩
  tups := fun b xs q => by rw [upd_ne (ne_of_none q hn)]; exact q
  frzs := fun b u xs q => by rw [upd_ne (ne_of_none q hn)]; exact q
  tbls := fun b ps q => ⟨#[], by rw [upd_ne (ne_of_none q hn), q]; simp⟩
theorem Un.write (mu : Mut (H x)) (he : e = x ∨ H e = some (.own x)) (k : ∀ b u, b ≠ e → h.get? b = some u → h'.get? b = some u) (heo : ∃ u, h'.get? e = some u) : Un fs ex H (upd H x o) h h' := by
  have hx : ∀ b, H b = none → b ≠ x := fun b n z => by subst z; rw [n] at mu; exact mu
  have hb : ∀ b, H b = none → b ≠ e := fun b n z => by
    subst z
    rcases he with r | r
    · exact hx b n r
    · rw [n] at r; cases r
  have hm : ∀ b u, H b = some u → ¬ Mut (some u) → b ≠ x := fun b u q nm z => by subst z; rw [q] at mu; exact nm mu
  refine ⟨fun b u q n _ _ => k b u (hb b n) q, fun b u q n _ _ => ⟨u.slots, k b u (hb b n) q⟩, fun b u q n _ => by rw [upd_ne (hx b n)]; exact n, fun b u q _ => ?_,
    fun b xs q => by rw [upd_ne (hm b _ q fun z => z)]; exact q, fun b u xs q => by rw [upd_ne (hm b _ q fun z => z)]; exact q, fun b ps q => ⟨#[], by rw [upd_ne (hm b _ q fun z => z), q]; simp⟩⟩
  by_cases hbe : b = e
  · subst hbe; exact heo
  · exact ⟨u, k b u hbe q⟩
end
noncomputable def trk (h : Heap) (H : Hp) : List Addr := (List.range h.objs.size).filter fun a => (H a).isSome
noncomputable def hidT (h : Heap) (H : Hp) : Heap := W.hideAll h (trk h H)
theorem hidT_size (h : Heap) (H : Hp) : (hidT h H).objs.size = h.objs.size := W.hideAll_size _ _
theorem hidT_get {h : Heap} {H : Hp} {b : Addr} {o : Obj} (e : h.get? b = some o) (n : H b = none) : (hidT h H).get? b = some o :=
  W.hideAll_get _ e fun hm => by
    have q : (H b).isSome = true := (List.mem_filter.mp hm).2
    rw [n] at q; simp at q
theorem of_hidT {h : Heap} {H : Hp} {b : Addr} {o : Obj} (e : (hidT h H).get? b = some o) : h.get? b = some o ∧ H b = none := by
  have e' : h.get? b = some o := W.of_hideAll (trk h H) e
  refine ⟨e', ?_⟩
  cases q : H b with
  | none => rfl
  | some x =>
    have hm : b ∈ trk h H := List.mem_filter.mpr ⟨List.mem_range.mpr (Heap.lt_size e'), by simp [q]⟩
    have z : (hidT h H).get? b = none := W.hideAll_none (trk h H) hm
    rw [z] at e; cases e
end L2
namespace L2
open PySem PySem.Spec PyProof.Rows
structure Mod (K : W.Frag) (mg : Str → Option Value) (base : Heap) : Prop where
  kin : K.In base
  glob : base.Ns mainGlobals mg
  blt : ∃ mb, base.Ns builtinsNs mb ∧ ∀ x : Str, x ≠ "__name__" → mb x = bootBuiltins x
  nolimit : base.NoLimit
structure Cx where
  prog : Program
  w : World
  K : W.Frag
  mg : Str → Option Value
  base : Heap
  A : Around
  N : List Str
  s₀ : Shared
  H₀ : Hp
  env : Env
  outer : List Env
  stack : List Env
  ex : List Addr
  fn : Str → Bool
  calm : Bool
  pn : List (Addr × Obj)
  xe : Value → Shared → Prop
noncomputable def frs (l : List Env) : List Addr := l.filterMap (·.frame)
noncomputable abbrev Cx.fs (X : Cx) : List Addr := frs X.outer
noncomputable def Vis (sc : Scope) (x : Str) : Prop := sc.names.lookup x = some .local ∨ sc.names.lookup x = some .cell ∨ sc.names.lookup x = some .free
noncomputable def Loc (sc : Scope) (x : Str) : Prop := sc.names.lookup x = some .local ∨ sc.names.lookup x = some .cell
noncomputable def Look (env : Env) (h : Heap) (m : Str → Option Value) (x : Str) (u : Value) : Prop :=
  (env.kindOf x = some .local ∧ m x = some u) ∨ ((env.kindOf x = some .cell ∨ env.kindOf x = some .free) ∧ ∃ c, env.cells.lookup x = some c ∧ h.IsCell c (some u))
structure Cx.Ok (X : Cx) : Prop where
  mod : Mod X.K X.mg X.base
  kind : X.env.scope.kind = .function
  glob : X.env.globals = mainGlobals
  blt : X.env.builtins = builtinsNs
  above : X.s₀.heap.objs.size ≤ X.env.locals
  inj : ∀ x y c, X.env.cells.lookup x = some c → X.env.cells.lookup y = some c → x = y
  has : ∀ x, (X.env.kindOf x = some .cell ∨ X.env.kindOf x = some .free) → ∃ c, X.env.cells.lookup x = some c
  cab : ∀ x c, X.fn x = true → X.env.cells.lookup x = some c → X.s₀.heap.objs.size ≤ c
  hd : X.calm = true → X.A.handled = none
  frames : X.A.frames = some X.stack
  stk : X.stack = X.outer ∨ (X.stack = X.env :: X.outer ∧ X.env.frame = some X.env.locals)
  exf : ∀ b ∈ X.ex, b ≠ X.env.locals ∧ ∀ x c, X.env.cells.lookup x = some c → c ≠ b
  bs : ∀ b o, X.base.get? b = some o → X.s₀.heap.get? b = some o ∧ X.H₀ b = none
  bsz : X.base.objs.size ≤ X.s₀.heap.objs.size
  noex : ∀ b o, X.base.get? b = some o → b ∉ X.ex
  exfs : ∀ b ∈ X.ex, b ∉ X.fs
  funs : X.s₀.heap.FunFrames X.base X.outer
  frf : ∀ b ∈ X.fs, X.H₀ b = none
structure Inv (X : Cx) (pins : List (Addr × Obj)) (σ : List (Option V)) (H : Hp) (s : Shared) : Prop where
  ok : X.Ok
  os : s.os = X.s₀.os
  bare : AllBare s.gens
  base : Un X.fs X.ex X.H₀ H X.s₀.heap s.heap
  loc : ∃ m, s.heap.Ns X.env.locals m ∧ ∀ (i : Nat) (x : Str) (v : V), X.N[i]? = some x → σ[i]? = some (some v) → Vis X.env.scope x → ∃ u, RelV v u ∧ Look X.env s.heap m x u
  cell : ∀ x c, X.env.cells.lookup x = some c → ∃ v, s.heap.IsCell c v
  free : H X.env.locals = none
  freeC : ∀ x c, X.env.cells.lookup x = some c → H c = none
  pin : ∀ p ∈ X.pn ++ pins, s.heap.get? p.1 = some p.2 ∧ H p.1 = none ∧ p.1 ≠ X.env.locals ∧ p.1 ∉ X.fs ∧ ∀ v, p.2.data ≠ .cell v
  hok : HOk X.prog X.w H s.heap
  len : σ.length = X.N.length
section
variable {X : Cx} {pins : List (Addr × Obj)} {σ : List (Option V)} {H H' : Hp} {s : Shared} {h' : Heap}
theorem Cx.Ok.nofr (ok : X.Ok) {b : Addr} {o : Obj} (e : X.base.get? b = some o) : b ∉ X.fs := fun hb => by
  have := (ok.funs.mem hb).1
  rw [e] at this; cases this
theorem Inv.bs (I : Inv X pins σ H s) : ∀ b o, X.base.get? b = some o → s.heap.get? b = some o ∧ H b = none := fun b o e =>
  ⟨I.base.keep b o (I.ok.bs b o e).1 (I.ok.bs b o e).2 (I.ok.nofr e) (I.ok.noex b o e), I.base.free b o (I.ok.bs b o e).1 (I.ok.bs b o e).2 (I.ok.noex b o e)⟩
theorem Inv.bk (I : Inv X pins σ H s) : ∀ b o, X.base.get? b = some o → s.heap.get? b = some o := fun b o e => (I.bs b o e).1
theorem Inv.mod (I : Inv X pins σ H s) : Mod X.K X.mg X.base := I.ok.mod
theorem Inv.kIn (I : Inv X pins σ H s) : X.K.In s.heap := I.ok.mod.kin.keeps I.bk
theorem Inv.lt (I : Inv X pins σ H s) : X.env.locals < s.heap.objs.size := let ⟨_, hn, _⟩ := I.loc; hn.lt
theorem Inv.sz (I : Inv X pins σ H s) : X.s₀.heap.objs.size ≤ s.heap.objs.size := Nat.le_trans I.ok.above (Nat.le_of_lt I.lt)
theorem Inv.nofs (I : Inv X pins σ H s) {a : Addr} (h : s.heap.objs.size ≤ a) : a ∉ X.fs := fun hb => by
  obtain ⟨_, o, ho, _⟩ := I.ok.funs.mem hb
  exact absurd (Nat.lt_of_lt_of_le (Heap.lt_size ho) (Nat.le_trans I.sz h)) (Nat.lt_irrefl _)
theorem Inv.cne (I : Inv X pins σ H s) : ∀ x c, X.env.cells.lookup x = some c → c ≠ X.env.locals := fun x c e z => by
  obtain ⟨v, o, ho, hd⟩ := I.cell x c e
  obtain ⟨m, ⟨o', es, ep, ho', hd', _⟩, _⟩ := I.loc
  rw [z, ho'] at ho; cases ho; rw [hd'] at hd; cases hd
theorem Inv.funs (I : Inv X pins σ H s) : s.heap.FunFrames X.base X.outer := by
  have all : ∀ (l : List Env), (∀ b ∈ frs l, b ∈ X.fs) → X.s₀.heap.FunFrames X.base l → s.heap.FunFrames X.base l := by
    intro l
    induction l with
    | nil => intro _ _; trivial
    | cons env r ih =>
      intro hs hl
      obtain ⟨hk, ⟨L, o, hf, hn, ho, hd⟩, hr⟩ := hl
      have hL : L ∈ X.fs := hs L (by unfold frs; rw [List.filterMap_cons, hf]; exact List.mem_cons_self)
      obtain ⟨sl, e⟩ := I.base.slot L o ho (I.ok.frf L hL) hL fun z => I.ok.exfs L z hL
      exact ⟨hk, ⟨L, _, hf, hn, e, hd⟩, ih (fun b hb => hs b (by unfold frs; rw [List.filterMap_cons, hf]; exact List.mem_cons_of_mem _ hb)) hr⟩
  exact all X.outer (fun _ hb => hb) I.ok.funs
theorem Inv.stack (I : Inv X pins σ H s) : s.heap.FunFrames X.base X.stack := by
  rcases I.ok.stk with e | ⟨e, hf⟩
  · rw [e]; exact I.funs
  · rw [e]
    obtain ⟨m, hn, _⟩ := I.loc
    refine .cons (by rw [I.ok.kind]; decide) hf hn ?_ I.funs
    exact Heap.get?_none_of_le (Nat.le_trans I.ok.bsz I.ok.above)
theorem Inv.stkSub (I : Inv X pins σ H s) : ∀ b ∈ frs X.stack, b ∈ X.env.locals :: X.fs := fun b hb => by
  rcases I.ok.stk with e | ⟨e, hf⟩
  · rw [e] at hb; exact List.mem_cons_of_mem _ hb
  · rw [e] at hb
    unfold frs at hb
    rw [List.filterMap_cons, hf] at hb
    exact hb
theorem Inv.stkFree (I : Inv X pins σ H s) : ∀ b ∈ frs X.stack, H b = none := fun b hb => by
  rcases List.mem_cons.mp (I.stkSub b hb) with e | hb
  · rw [e]; exact I.free
  · obtain ⟨_, o, ho, _⟩ := I.ok.funs.mem hb
    exact I.base.free b o ho (I.ok.frf b hb) fun z => I.ok.exfs b z hb
theorem Inv.step {g' : Array GenState} {t' : Nat} {d' : Drawn} {ch : List Addr} (I : Inv X pins σ H s)
    (hch : ∀ b ∈ ch, (b ∈ X.ex ∨ X.s₀.heap.objs.size ≤ b) ∧ b ≠ X.env.locals ∧ (∀ x c, X.env.cells.lookup x = some c → c ≠ b) ∧ ∀ p ∈ X.pn ++ pins, p.1 ≠ b)
    (keep : ∀ b o, b ≠ X.env.locals → b ∉ X.fs → b ∉ ch → s.heap.get? b = some o → H b = none → h'.get? b = some o)
    (slot : ∀ b o, b ≠ X.env.locals → b ∈ X.fs → b ∉ ch → s.heap.get? b = some o → H b = none → ∃ sl, h'.get? b = some { o with slots := sl }) (free : ∀ b o, b ∉ ch → s.heap.get? b = some o → H b = none → H' b = none)
    (there : ∀ b o, b ∉ ch → s.heap.get? b = some o → ∃ o', h'.get? b = some o')
    (tups : ∀ b xs, H b = some (.tup xs) → H' b = some (.tup xs)) (frzs : ∀ b o u, H b = some (.frz o u) → H' b = some (.frz o u)) (tbls : ∀ b ps, H b = some (.tbl ps) → ∃ more, H' b = some (.tbl (ps ++ more)))
    (ns : ∀ m, s.heap.Ns X.env.locals m → h'.Ns X.env.locals m) (hok : HOk X.prog X.w H' h') (hg : AllBare g') :
    Inv X pins σ H' { s with heap := h', gens := g', drawn := d', toks := t' } := by
  have neL : ∀ b o, X.s₀.heap.get? b = some o → b ≠ X.env.locals := fun b o e => Nat.ne_of_lt (Nat.lt_of_lt_of_le (Heap.lt_size e) I.ok.above)
  have neC : ∀ b o, X.s₀.heap.get? b = some o → b ∉ X.ex → b ∉ ch := fun b o e hx hb => by
    rcases (hch b hb).1 with z | z
    · exact hx z
    · exact absurd (Nat.lt_of_lt_of_le (Heap.lt_size e) z) (Nat.lt_irrefl _)
  have cellK : ∀ x c, X.env.cells.lookup x = some c → ∀ v, s.heap.IsCell c v → h'.IsCell c v := fun x c e v ⟨o, ho, hd⟩ => by
    have nch : c ∉ ch := fun z => (hch c z).2.2.1 x c e rfl
    by_cases hc : c ∈ X.fs
    · obtain ⟨sl, q⟩ := slot c o (I.cne x c e) hc nch ho (I.freeC x c e)
      exact ⟨_, q, hd⟩
    · exact ⟨o, keep c o (I.cne x c e) hc nch ho (I.freeC x c e), hd⟩
  refine ⟨I.ok, I.os, hg, ⟨fun b o e n hb hx => ?_, fun b o e n hb hx => ?_, fun b o e n hx => ?_, fun b o e hx => ?_, fun b xs e => tups b xs (I.base.tups b xs e), fun b o xs e => frzs b o xs (I.base.frzs b o xs e), fun b ps e => ?_⟩, ?_, fun x c e => ?_, ?_, fun x c e => ?_, fun p hp => ?_, hok, I.len⟩
  · exact keep b o (neL b o e) hb (neC b o e hx) (I.base.keep b o e n hb hx) (I.base.free b o e n hx)
  · obtain ⟨sl, e1⟩ := I.base.slot b o e n hb hx
    obtain ⟨sl', e2⟩ := slot b _ (neL b o e) hb (neC b o e hx) e1 (I.base.free b o e n hx)
    exact ⟨sl', e2⟩
  · obtain ⟨o', e1⟩ := I.base.there b o e hx
    exact free b o' (neC b o e hx) e1 (I.base.free b o e n hx)
  · obtain ⟨o', e1⟩ := I.base.there b o e hx
    exact there b o' (neC b o e hx) e1
  · obtain ⟨m1, e1⟩ := I.base.tbls b ps e
    obtain ⟨m2, e2⟩ := tbls b _ e1
    exact ⟨m1 ++ m2, by rw [e2, Array.append_assoc]⟩
  · obtain ⟨m, hn, hl⟩ := I.loc
    refine ⟨m, ns m hn, fun i x v e1 e2 e3 => ?_⟩
    obtain ⟨u, r, l⟩ := hl i x v e1 e2 e3
    refine ⟨u, r, ?_⟩
    rcases l with l | ⟨k, c, e, z⟩
    · exact .inl l
    · exact .inr ⟨k, c, e, cellK x c e _ z⟩
  · obtain ⟨v, z⟩ := I.cell x c e
    exact ⟨v, cellK x c e v z⟩
  · obtain ⟨m, ⟨o, _, _, ho, _⟩, _⟩ := I.loc
    exact free _ o (fun z => (hch _ z).2.1 rfl) ho I.free
  · obtain ⟨v, o, ho, hd⟩ := I.cell x c e
    exact free c o (fun z => (hch c z).2.2.1 x c e rfl) ho (I.freeC x c e)
  · obtain ⟨e, n, ne, nf, d⟩ := I.pin p hp
    have nch : p.1 ∉ ch := fun z => (hch p.1 z).2.2.2 p hp rfl
    exact ⟨keep p.1 p.2 ne nf nch e n, free p.1 p.2 nch e n, ne, nf, d⟩
theorem Inv.un {t' : Nat} (I : Inv X pins σ H s) (u : Un X.fs [] H H' s.heap h') (hok : HOk X.prog X.w H' h') : Inv X pins σ H' { s with heap := h', toks := t' } := by
  obtain ⟨m, ⟨o, es, ep, ho, r⟩, _⟩ := id I.loc
  obtain ⟨sl, hL⟩ := u.any ho I.free (by simp)
  exact I.step (g' := s.gens) (d' := s.drawn) (ch := []) (fun _ z => nomatch z) (fun b o _ hb _ e n => u.keep b o e n hb (by simp)) (fun b o _ hb _ e n => u.slot b o e n hb (by simp)) (fun b o _ e n => u.free b o e n (by simp)) (fun b o _ e => u.there b o e (by simp)) u.tups u.frzs u.tbls (fun m' hm => by
    obtain ⟨o', es', ep', ho', r'⟩ := hm
    rw [ho] at ho'; cases ho'
    exact ⟨_, es', ep', hL, r'⟩) hok I.bare
theorem Inv.call {g' : Array GenState} {t' : Nat} {d' : Drawn} {ch : List Addr} (I : Inv X pins σ H s) (u : Un (frs X.stack) ch H H' s.heap h') (hok : HOk X.prog X.w H' h') (hg : AllBare g')
    (hch : ∀ b ∈ ch, (b ∈ X.ex ∨ X.s₀.heap.objs.size ≤ b) ∧ b ≠ X.env.locals ∧ (∀ x c, X.env.cells.lookup x = some c → c ≠ b) ∧ ∀ p ∈ X.pn ++ pins, p.1 ≠ b) :
    Inv X pins σ H' { s with heap := h', gens := g', drawn := d', toks := t' } := by
  obtain ⟨m, ⟨o, es, ep, ho, r⟩, _⟩ := id I.loc
  obtain ⟨sl, hL⟩ := u.any ho I.free fun z => (hch _ z).2.1 rfl
  exact I.step (ch := ch) hch (fun b o hL hb hc e n => u.keep b o e n (fun z => (List.mem_cons.mp (I.stkSub b z)).elim hL hb) hc) (fun b o _ _ hc e n => u.any e n hc) (fun b o hc e n => u.free b o e n hc) (fun b o hc e => u.there b o e hc) u.tups u.frzs u.tbls (fun m' hm => by
    obtain ⟨o', es', ep', ho', r'⟩ := hm
    rw [ho] at ho'; cases ho'
    exact ⟨_, es', ep', hL, r'⟩) hok hg
theorem Inv.turned {t' : Nat} {it : Addr} (I : Inv X pins σ H s) (k : ∀ b o, b ≠ it → s.heap.get? b = some o → h'.get? b = some o) (hn : H it = none) (hL : it ≠ X.env.locals)
    (h1 : it ∈ X.ex ∨ X.s₀.heap.objs.size ≤ it) (h2 : ∀ x c, X.env.cells.lookup x = some c → c ≠ it) (h3 : ∀ p ∈ X.pn ++ pins, p.1 ≠ it) : Inv X pins σ H { s with heap := h', toks := t' } := by
  have nit : ∀ b u, H b = some u → b ≠ it := fun b u e z => by rw [z, hn] at e; cases e
  refine I.step (g' := s.gens) (d' := s.drawn) (ch := [it]) (fun b hb => ?_) (fun b o _ _ hc e _ => k b o (fun z => hc (by simp [z])) e) (fun b o _ _ hc e _ => ⟨o.slots, k b o (fun z => hc (by simp [z])) e⟩) (fun _ _ _ _ n => n)
    (fun b o hc e => ⟨o, k b o (fun z => hc (by simp [z])) e⟩) (fun _ _ e => e) (fun _ _ _ e => e) (fun b ps e => ⟨#[], by rw [e]; simp⟩) (fun m hm => ?_) (fun b u e => ?_) I.bare
  · have e : b = it := by simpa using hb
    subst e
    exact ⟨h1, hL, h2, h3⟩
  · obtain ⟨o, es, ep, ho, r⟩ := hm
    exact ⟨o, es, ep, k _ o (Ne.symm hL) ho, r⟩
  · refine (I.hok b u e).stay (fun c v hc q => k c v ?_ q) (fun _ q => q) fun _ _ q => q
    rcases hc with z | z
    · rw [z]; exact nit b u e
    · exact nit c _ z
theorem Inv.tok (I : Inv X pins σ H s) (t : Nat) : Inv X pins σ H { s with toks := t } := I.un (h' := s.heap) (t' := t) Un.refl I.hok
theorem Inv.kept {t' : Nat} (I : Inv X pins σ H s) (k : ∀ b u, s.heap.get? b = some u → h'.get? b = some u) : Inv X pins σ H { s with heap := h', toks := t' } := I.un (Un.kept k) (I.hok.kept k)
theorem Inv.laid {a : Addr} {o : HO} {t' : Nat} (I : Inv X pins σ H s) (k : ∀ b u, s.heap.get? b = some u → h'.get? b = some u) (hp : s.heap.objs.size ≤ a) (new : ObjOk X.prog X.w (upd H a o) h' a o) :
    Inv X pins σ (upd H a o) { s with heap := h', toks := t' } := I.un (Un.laid k hp (I.hok.fresh hp)) (I.hok.laid k hp new)
theorem Inv.write {x e : Addr} {o : HO} {t' : Nat} (I : Inv X pins σ H s) (mu : Mut (H x)) (he : e = x ∨ H e = some (.own x)) (k : ∀ b u, b ≠ e → s.heap.get? b = some u → h'.get? b = some u) (heo : ∃ u, h'.get? e = some u)
    (new : ObjOk X.prog X.w (upd H x o) h' x o) : Inv X pins σ (upd H x o) { s with heap := h', toks := t' } := I.un (Un.write mu he k heo) (I.hok.write mu he k heo new)
theorem Inv.pins_of {pins' : List (Addr × Obj)} (I : Inv X pins σ H s) (h : ∀ p ∈ pins', s.heap.get? p.1 = some p.2 ∧ H p.1 = none ∧ p.1 ≠ X.env.locals ∧ p.1 ∉ X.fs ∧ ∀ v, p.2.data ≠ .cell v) : Inv X pins' σ H s :=
  ⟨I.ok, I.os, I.bare, I.base, I.loc, I.cell, I.free, I.freeC, fun p hp => (List.mem_append.mp hp).elim (fun z => I.pin p (List.mem_append_left _ z)) (h p), I.hok, I.len⟩
theorem nodup_ix {N : List Str} (hN : N.Nodup) {i j : Nat} {x : Str} (a : N[i]? = some x) (b : N[j]? = some x) : i = j := by
  obtain ⟨h1, e1⟩ := List.getElem?_eq_some_iff.mp a
  obtain ⟨h2, e2⟩ := List.getElem?_eq_some_iff.mp b
  exact (List.getElem_inj hN).mp (e1.trans e2.symm)
theorem store_ok2 {M : Model} {A : Around} {E : Value → Shared → Prop} {i : Nat} {x : Str} {v : V} {u : Value} {Q : Unit → Shared → Prop} (I : Inv X pins σ H s) (hN : X.N.Nodup) (hi : X.N[i]? = some x) (hx : Loc X.env.scope x) (r : RelV v u)
    (h : ∀ s', Inv X pins (σ.set i (some v)) H s' → (∃ a, Heap.SameBut a s.heap s'.heap ∧ (a = X.env.locals ∨ X.env.cells.lookup x = some a)) → Q () s') (hf : X.fn x = true ∨ X.env.scope.names.lookup x = some .local := by first | exact .inl rfl | exact .inr rfl | assumption) : wpAny M A (storeName X.env x u) Q E s := by
  obtain ⟨m, hn, hl⟩ := id I.loc
  have hcls : (X.env.scope.kind == .class || (X.env.scope.kind == .module && X.env.locals != X.env.globals)) = false := by rw [I.ok.kind]; rfl
  have hiσ : i < σ.length := by rw [I.len]; exact (List.getElem?_eq_some_iff.mp hi).1
  have cne := I.cne
  have tracked : ∀ {a : Addr} {h' : Heap}, (∃ o, s.heap.get? a = some o ∧ H a = none) → Heap.SameBut a s.heap h' → HOk X.prog X.w H h' := fun {a h'} ha hs b ob e => by
    obtain ⟨_, _, hfree⟩ := ha
    refine (I.hok b ob e).stay (fun c w' hc q => (hs.2 c ?_).trans q) (fun _ q => q) fun _ _ q => q
    rintro rfl
    rcases hc with rfl | hc
    · rw [hfree] at e; cases e
    · rw [hfree] at hc; cases hc
  rcases hx with hk | hk
  · refine wpAny_storeName_local hk hn (fun h' hn' hs => ?_) hcls
    obtain ⟨oL, _, _, hoL, _⟩ := id hn
    refine h _ ⟨I.ok, I.os, I.bare, ⟨fun b o e n hb hx => ?_, fun b o e n hb hx => ?_, I.base.free, fun b o e hx => ?_, I.base.tups, I.base.frzs, I.base.tbls⟩, ⟨_, hn', fun j y v' e1 e2 e3 => ?_⟩, fun y c e => ?_, I.free, I.freeC, fun p hp => ?_, tracked ⟨oL, hoL, I.free⟩ hs, by simpa using I.len⟩ ⟨_, hs, .inl rfl⟩
    · exact (hs.2 b (Nat.ne_of_lt (Nat.lt_of_lt_of_le (Heap.lt_size e) I.ok.above))).trans (I.base.keep b o e n hb hx)
    · obtain ⟨sl, e1⟩ := I.base.slot b o e n hb hx
      exact ⟨sl, (hs.2 b (Nat.ne_of_lt (Nat.lt_of_lt_of_le (Heap.lt_size e) I.ok.above))).trans e1⟩
    · obtain ⟨o', e1⟩ := I.base.there b o e hx
      exact ⟨o', (hs.2 b (Nat.ne_of_lt (Nat.lt_of_lt_of_le (Heap.lt_size e) I.ok.above))).trans e1⟩
    · by_cases hj : j = i
      · subst hj
        rw [hi] at e1; cases e1
        rw [List.getElem?_set_self hiσ] at e2
        cases e2
        exact ⟨u, r, .inl ⟨hk, by simp⟩⟩
      · rw [List.getElem?_set_ne (Ne.symm hj)] at e2
        obtain ⟨u', r', q⟩ := hl j y v' e1 e2 e3
        refine ⟨u', r', ?_⟩
        rcases q with ⟨k, e⟩ | ⟨k, c, e, z⟩
        · refine .inl ⟨k, ?_⟩
          have : y ≠ x := fun e => hj (nodup_ix hN e1 (e ▸ hi))
          simp [this, e]
        · exact .inr ⟨k, c, e, z.sameBut hs (cne y c e)⟩
    · obtain ⟨w', z⟩ := I.cell y c e
      exact ⟨w', z.sameBut hs (cne y c e)⟩
    · obtain ⟨e, n, ne, nf, d⟩ := I.pin p hp
      exact ⟨(hs.2 p.1 ne).trans e, n, ne, nf, d⟩
  · have hfn : X.fn x = true := by
      rcases hf with z | z
      · exact z
      · rw [z] at hk; cases hk
    obtain ⟨c, hc⟩ := I.ok.has x (.inl hk)
    obtain ⟨w', z⟩ := I.cell x c hc
    refine wpAny_storeName_cell I.ok.kind hk hc z (fun h' hc' hs => ?_)
    obtain ⟨oc, hoc, hocd⟩ := id z
    refine h { s with heap := h' } ⟨I.ok, I.os, I.bare, ⟨fun b o e n hb hx => ?_, fun b o e n hb hx => ?_, I.base.free, fun b o e hx => ?_, I.base.tups, I.base.frzs, I.base.tbls⟩, ⟨m, hn.sameBut hs (Ne.symm (cne x c hc)), fun j y v' e1 e2 e3 => ?_⟩, fun y c' e => ?_, I.free, I.freeC, fun p hp => ?_, tracked ⟨oc, hoc, I.freeC x c hc⟩ hs, by simpa using I.len⟩ ⟨c, hs, .inr hc⟩
    · exact (hs.2 b (Nat.ne_of_lt (Nat.lt_of_lt_of_le (Heap.lt_size e) (I.ok.cab x c hfn hc)))).trans (I.base.keep b o e n hb hx)
    · obtain ⟨sl, e1⟩ := I.base.slot b o e n hb hx
      exact ⟨sl, (hs.2 b (Nat.ne_of_lt (Nat.lt_of_lt_of_le (Heap.lt_size e) (I.ok.cab x c hfn hc)))).trans e1⟩
    · obtain ⟨o', e1⟩ := I.base.there b o e hx
      exact ⟨o', (hs.2 b (Nat.ne_of_lt (Nat.lt_of_lt_of_le (Heap.lt_size e) (I.ok.cab x c hfn hc)))).trans e1⟩
    · by_cases hj : j = i
      · subst hj
        rw [hi] at e1; cases e1
        rw [List.getElem?_set_self hiσ] at e2
        cases e2
        exact ⟨u, r, .inr ⟨.inl hk, c, hc, hc'⟩⟩
      · rw [List.getElem?_set_ne (Ne.symm hj)] at e2
        obtain ⟨u', r', q⟩ := hl j y v' e1 e2 e3
        refine ⟨u', r', ?_⟩
        rcases q with q | ⟨k, c', e, z'⟩
        · exact .inl q
        · refine .inr ⟨k, c', e, z'.sameBut hs ?_⟩
          rintro rfl
          exact hj (nodup_ix hN e1 (I.ok.inj _ _ _ e hc ▸ hi))
    · by_cases hcc : c' = c
      · subst hcc; exact ⟨_, hc'⟩
      · obtain ⟨w2, z2⟩ := I.cell y c' e
        exact ⟨w2, z2.sameBut hs hcc⟩
    · obtain ⟨e, n, ne, nf, d⟩ := I.pin p hp
      refine ⟨(hs.2 p.1 ?_).trans e, n, ne, nf, d⟩
      intro q
      rw [q, hoc] at e
      have q' : oc = p.2 := Option.some.inj e
      exact d w' (by rw [← q']; exact hocd)
theorem store_ok {M : Model} {A : Around} {E : Value → Shared → Prop} {i : Nat} {x : Str} {v : V} {u : Value} {Q : Unit → Shared → Prop} (I : Inv X pins σ H s) (hN : X.N.Nodup) (hi : X.N[i]? = some x) (hx : Loc X.env.scope x) (r : RelV v u)
    (h : ∀ s', Inv X pins (σ.set i (some v)) H s' → Q () s') (hf : X.fn x = true ∨ X.env.scope.names.lookup x = some .local := by first | exact .inl rfl | exact .inr rfl | assumption) : wpAny M A (storeName X.env x u) Q E s :=
  store_ok2 I hN hi hx r (fun s' I' _ => h s' I') hf
end
noncomputable abbrev XK := Value → Option Addr → Hp → Prop
noncomputable abbrev St := List (Option V)
noncomputable abbrev VK := V → Hp → Prop
noncomputable abbrev TE := St → Hp → VK → Prop
noncomputable abbrev TT := St → Hp → (Bool → Hp → Prop) → Prop
noncomputable abbrev TA := St → Hp → (List V → Hp → Prop) → Prop
structure Ends where
  nx : St → Hp → Prop
  rt : VK
  bk : St → Hp → Prop := fun _ _ => False
  ct : St → Hp → Prop := fun _ _ => False
noncomputable abbrev TS := Ends → St → Hp → Prop
noncomputable def EP (X : Cx) (pins : List (Addr × Obj)) (σ : St) (Q : VK) (u : Value) (s' : Shared) : Prop := ∃ v H', Inv X pins σ H' s' ∧ RelV v u ∧ Q v H'
noncomputable def TP (X : Cx) (pins : List (Addr × Obj)) (σ : St) (Q : Bool → Hp → Prop) (b : Bool) (s' : Shared) : Prop := ∃ H', Inv X pins σ H' s' ∧ Q b H'
noncomputable def AP (X : Cx) (pins : List (Addr × Obj)) (σ : St) (Q : List V → Hp → Prop) (us : List Value) (s' : Shared) : Prop := ∃ vs H', Inv X pins σ H' s' ∧ Vals vs us ∧ Q vs H'
noncomputable def SP (X : Cx) (pins : List (Addr × Obj)) (D : Ends) (f : Flow) (s' : Shared) : Prop :=
  match f with
  | .next => ∃ σ' H', Inv X pins σ' H' s' ∧ D.nx σ' H'
  | .brk => ∃ σ' H', Inv X pins σ' H' s' ∧ D.bk σ' H'
  | .cont => ∃ σ' H', Inv X pins σ' H' s' ∧ D.ct σ' H'
  | .ret u => ∃ v σ' H', Inv X pins σ' H' s' ∧ RelV v u ∧ D.rt v H'
noncomputable def PE (X : Cx) (e : Expr) (t : TE) : Prop :=
  ∀ (pins : List (Addr × Obj)) (s : Shared) (σ : St) (H : Hp) (Q : VK), Inv X pins σ H s → t σ H Q → wpAny (model X.prog X.w) X.A (eval e X.env) (EP X pins σ Q) X.xe s
noncomputable def PT (X : Cx) (e : Expr) (t : TT) : Prop :=
  ∀ (pins : List (Addr × Obj)) (s : Shared) (σ : St) (H : Hp) (Q : Bool → Hp → Prop), Inv X pins σ H s → t σ H Q → wpAny (model X.prog X.w) X.A (isTrue e X.env (eval e X.env)) (TP X pins σ Q) X.xe s
noncomputable def PW (X : Cx) (e : Expr) (t : TT) : Prop :=
  ∀ (whole : Sem Value) (pins : List (Addr × Obj)) (s : Shared) (σ : St) (H : Hp) (Q : Bool → Hp → Prop), Inv X pins σ H s → t σ H Q → wpAny (model X.prog X.w) X.A (isTrue e X.env whole) (TP X pins σ Q) X.xe s
theorem PW.pt {X : Cx} {e : Expr} {t : TT} (h : PW X e t) : PT X e t := h _
noncomputable def PA (X : Cx) (es : List Expr) (t : TA) : Prop :=
  ∀ (pos : Pos) (pins : List (Addr × Obj)) (s : Shared) (σ : St) (H : Hp) (Q : List V → Hp → Prop), Inv X pins σ H s → t σ H Q → wpAny (model X.prog X.w) X.A (spliced (backTo pos (starEach es X.env))) (AP X pins σ Q) X.xe s
noncomputable def PS (X : Cx) (st : Stmt) (t : TS) : Prop :=
  ∀ (pins : List (Addr × Obj)) (s : Shared) (σ : St) (H : Hp) (D : Ends), Inv X pins σ H s → t D σ H → wpAny (model X.prog X.w) X.A (exec st X.env) (SP X pins D) X.xe s
noncomputable def PSs (X : Cx) (st : List Stmt) (t : TS) : Prop :=
  ∀ (pins : List (Addr × Obj)) (s : Shared) (σ : St) (H : Hp) (D : Ends), Inv X pins σ H s → t D σ H → wpAny (model X.prog X.w) X.A (execs st X.env) (SP X pins D) X.xe s
theorem thn {α : Type} {t : Sem α} {Q Q' : α → Shared → Prop} {M : Model} {A : Around} {E : Value → Shared → Prop} {s : Shared} (h : wpAny M A t Q E s) (hQ : ∀ a s, Q a s → Q' a s) : wpAny M A t Q' E s := wpAny_mono h hQ fun _ _ x => x
end L2
namespace L2
open PySem PySem.Spec PyProof.Rows
section
variable {X : Cx}
noncomputable def tVar (i : Nat) : TE := fun σ H Q => ∃ v, σ[i]? = some (some v) ∧ Q v H
noncomputable def tC (v : V) : TE := fun _ H Q => Q v H
theorem pe_var {i : Nat} {x : Str} {pos : Pos} (hN : X.N[i]? = some x) (hv : Vis X.env.scope x) (hd : (x == ("__debug__" : Str)) = false := by decide) (hcd : (x == ("__classdict__" : Str)) = false := by decide) : PE X (.Name x pos) (tVar i) := by
  intro pins s σ H Q I h
  obtain ⟨v, e, h⟩ := h
  obtain ⟨m, hn, hl⟩ := I.loc
  obtain ⟨u, r, l⟩ := hl i x v hN e hv
  have fin : EP X pins σ Q u s := ⟨v, H, I, r, h⟩
  rcases l with ⟨hk, hm⟩ | ⟨hk, c, hc, hcell⟩
  · exact wpAny_Name (wpAny_loadName_local I.ok.kind hk hn hm fin) hd
  · rcases hk with hk | hk
    · exact wpAny_Name (wpAny_loadName_cell I.ok.kind hk hc hcell fin) hd
    · exact wpAny_Name (wpAny_loadName_free I.ok.kind hk hc hcell fin hcd) hd
theorem pe_int {i j pos} : PE X (.Constant (.int i) j pos) (tC (.int i)) := fun _ _ _ H _ I h => wpAny_Constant_int ⟨.int i, H, I.tok _, ⟨_, rfl⟩, h⟩
theorem pe_bl {b j pos} : PE X (.Constant (.bool b) j pos) (tC (.bl b)) := fun _ _ _ H _ I h => Constant_bool ⟨.bl b, H, I, rfl, h⟩
theorem pe_str {x j pos} : PE X (.Constant (.str x) j pos) (tC (.str x)) := fun _ _ _ H _ I h => Calls.Constant_str ⟨.str x, H, I.tok _, ⟨_, rfl⟩, h⟩
noncomputable def Gl (X : Cx) (x : Str) : Prop := X.env.kindOf x = some .globalImplicit
theorem ld_glob {E : Value → Shared → Prop} {pins : List (Addr × Obj)} {s : Shared} {σ : St} {H : Hp} {x : Str} {u : Value} {pos : Pos} {Q : Value → Shared → Prop} (I : Inv X pins σ H s) (hg : Gl X x) (hm : X.mg x = some u) (h : Q u s)
    (hd : (x == ("__debug__" : Str)) = false := by decide) : wpAny (model X.prog X.w) X.A (eval (.Name x pos) X.env) Q E s :=
  Calls.Name_function_global I.ok.kind hg (Calls.loadGlobal_global (by rw [I.ok.glob]; exact I.mod.glob.keeps I.bk) hm h) hd
theorem ld_blt {E : Value → Shared → Prop} {pins : List (Addr × Obj)} {s : Shared} {σ : St} {H : Hp} {x : Str} {u : Value} {pos : Pos} {Q : Value → Shared → Prop} (I : Inv X pins σ H s) (hg : Gl X x) (hm : X.mg x = none) (hv : bootBuiltins x = some u) (h : Q u s)
    (hn : x ≠ "__name__" := by decide) (hd : (x == ("__debug__" : Str)) = false := by decide) : wpAny (model X.prog X.w) X.A (eval (.Name x pos) X.env) Q E s := by
  obtain ⟨mb, h1, h2⟩ := I.mod.blt
  exact Calls.Name_function_global I.ok.kind hg (Calls.loadGlobal_builtin (by rw [I.ok.glob]; exact I.mod.glob.keeps I.bk) hm (by rw [I.ok.blt]; exact h1.keeps I.bk) ((h2 x hn).trans hv) h) hd
theorem pe_bltn {x : Str} {v : V} {u : Value} {pos : Pos} (hg : Gl X x) (hm : X.mg x = none) (hv : bootBuiltins x = some u) (r : RelV v u) (hn : x ≠ "__name__" := by decide) (hd : (x == ("__debug__" : Str)) = false := by decide) : PE X (.Name x pos) (tC v) :=
  fun _ _ _ H _ I h => ld_blt I hg hm hv ⟨v, H, I, r, h⟩ hn hd
variable {a b : Expr} {ta tb : TE} {pos : Pos}
noncomputable def tB (t : TE) : TT := fun σ H Q => t σ H fun x H1 => ∃ c, x = .bl c ∧ Q c H1
theorem pt_val {e : Expr} {t : TE} (h : PE X e t) (he : ∀ whole, isTrue e X.env whole = (do let v ← whole; standAt e.pos; holding [v] (truthy v)) := by intro _; rfl) : PT X e (tB t) := by
  intro pins s σ H Q I hw
  refine isTrue_plain (thn (h pins s σ H _ I hw) fun v s1 ⟨x, H1, I1, r1, q1⟩ => ?_) (he _)
  obtain ⟨d, rfl, q⟩ := q1
  cases r1
  exact wpAny_truthy_bool ⟨H1, I1, q⟩
variable {tA tB' : TT} {rest : List Expr}
noncomputable def tAnd (t u : TT) : TT := fun σ H Q => t σ H fun c H1 => if c = true then u σ H1 Q else Q false H1
noncomputable def tOr (t u : TT) : TT := fun σ H Q => t σ H fun c H1 => if c = true then Q true H1 else u σ H1 Q
noncomputable def tNot (t : TT) : TT := fun σ H Q => t σ H fun c H1 => Q (!c) H1
theorem pw_and1 (ha : PT X a tA) : PW X (.BoolOp .And [a] pos) tA := by
  intro wh pins s σ H Q I h
  refine isTrue_and (thn (ha pins s σ H Q I h) fun c s1 e => ?_)
  cases c with
  | true => exact isTrue_and_nil e
  | false => exact e
theorem pw_or1 (ha : PT X a tA) : PW X (.BoolOp .Or [a] pos) tA := by
  intro wh pins s σ H Q I h
  refine isTrue_or (thn (ha pins s σ H Q I h) fun c s1 e => ?_)
  cases c with
  | false => exact isTrue_or_nil e
  | true => exact e
theorem pw_and (ha : PT X a tA) (hb : PW X (.BoolOp .And (b :: rest) pos) tB') : PW X (.BoolOp .And (a :: b :: rest) pos) (tAnd tA tB') := by
  intro wh pins s σ H Q I h
  refine isTrue_and (thn (ha pins s σ H _ I h) fun c s1 ⟨H1, I1, q1⟩ => ?_)
  cases c with
  | true => exact hb wh pins s1 σ H1 Q I1 q1
  | false => exact ⟨H1, I1, q1⟩
theorem pw_or (ha : PT X a tA) (hb : PW X (.BoolOp .Or (b :: rest) pos) tB') : PW X (.BoolOp .Or (a :: b :: rest) pos) (tOr tA tB') := by
  intro wh pins s σ H Q I h
  refine isTrue_or (thn (ha pins s σ H _ I h) fun c s1 ⟨H1, I1, q1⟩ => ?_)
  cases c with
  | true => exact ⟨H1, I1, q1⟩
  | false => exact hb wh pins s1 σ H1 Q I1 q1
theorem pt_not (ha : PT X a tA) : PT X (.UnaryOp .Not a pos) (tNot tA) := by
  intro pins s σ H Q I h
  exact isTrue_not (ha pins s σ H (fun c H1 => Q (!c) H1) I h)
noncomputable def tAndV (ta tb : TE) : TE := fun σ H Q => ta σ H fun x H1 => ∃ c, x = .bl c ∧ if c = true then tb σ H1 Q else Q (.bl false) H1
noncomputable def tNotV (ta : TE) : TE := fun σ H Q => ta σ H fun x H1 => ∃ c, x = .bl c ∧ Q (.bl (!c)) H1
theorem pe_one {op} {t : TE} (h : PE X a t) : PE X (.BoolOp op [a] pos) t := fun pins s σ H Q I hw => BoolOp_one (h pins s σ H Q I hw)
theorem pe_and (ha : PE X a ta) (hb : PE X (.BoolOp .And (b :: rest) pos) tb) : PE X (.BoolOp .And (a :: b :: rest) pos) (tAndV ta tb) := by
  intro pins s σ H Q I h
  refine BoolOp_and (thn (ha pins s σ H _ I h) fun v s1 ⟨x, H1, I1, r1, q1⟩ => ?_)
  obtain ⟨c, rfl, q1⟩ := q1
  cases r1
  refine wpAny_truthy_bool ?_
  cases c with
  | true => exact hb pins s1 σ H1 Q I1 q1
  | false => exact ⟨.bl false, H1, I1, rfl, q1⟩
theorem pe_not (ha : PE X a ta) : PE X (.UnaryOp .Not a pos) (tNotV ta) := by
  intro pins s σ H Q I h
  refine UnaryOp_ (thn (ha pins s σ H _ I h) fun v s1 ⟨x, H1, I1, r1, q1⟩ => ?_)
  obtain ⟨c, rfl, q1⟩ := q1
  cases r1
  exact not_of (wpAny_truthy_bool ⟨.bl (!c), H1, I1, rfl, q1⟩)
noncomputable def tIf (t : TT) (ta tb : TE) : TE := fun σ H Q => t σ H fun c H1 => if c = true then ta σ H1 Q else tb σ H1 Q
theorem pe_ifExp {c : Expr} (hc : PT X c tA) (ha : PE X a ta) (hb : PE X b tb) : PE X (.IfExp c a b pos) (tIf tA ta tb) := by
  intro pins s σ H Q I h
  refine wpAny_IfExp (thn (hc pins s σ H _ I h) fun d s1 ⟨H1, I1, q1⟩ => ?_)
  cases d with
  | true => exact ha pins s1 σ H1 Q I1 q1
  | false => exact hb pins s1 σ H1 Q I1 q1
end
end L2
namespace L2
open PySem PySem.Spec PyProof.Rows
noncomputable def SqL (K : W.Frag) (H : Hp) (a : Addr) (xs : List V) : Prop :=
  Rd H a (.lst xs) ∨
    ∃ (o : Obj) (its : Array Value) (n : Nat), K.lookup a = some o ∧ o.cls = .type "list" ∧ o.dict = none ∧ o.data = .seq its n ∧ its.size ≤ sizeLine ∧ Vals xs its.toList
noncomputable def SqT (K : W.Frag) (H : Hp) (a : Addr) (xs : List V) : Prop :=
  Rd H a (.tup xs) ∨
    ∃ (o : Obj) (its : Array Value) (n : Nat), K.lookup a = some o ∧ o.cls = .type "tuple" ∧ o.data = .seq its n ∧ its.size ≤ sizeLine ∧ Vals xs its.toList
noncomputable def absV : Value → Option V
  | .none => some .non
  | .bool b => some (.bl b)
  | .int i _ => some (.int i)
  | .str x _ => some (.str x)
  | .bytes b _ => some (.byt b)
  | .float b _ => some (.flt b)
  | .ref a => some (.ref a)
  | .type n => some (.ty n)
  | _ => none
theorem RelV.abs {x : V} {u : Value} (r : RelV x u) : absV u = some x := by
  cases x with
  | non => cases r; rfl
  | bl _ => cases r; rfl
  | int _ => obtain ⟨t, rfl⟩ := r; rfl
  | str _ => obtain ⟨t, rfl⟩ := r; rfl
  | byt _ => obtain ⟨t, rfl⟩ := r; rfl
  | flt _ => obtain ⟨t, rfl⟩ := r; rfl
  | ref _ => cases r; rfl
  | ty _ => cases r; rfl
theorem RelV.inj {x y : V} {u : Value} (r : RelV x u) (q : RelV y u) : x = y := Option.some.inj (r.abs.symm.trans q.abs)
theorem Vals.inj : ∀ {xs ys : List V} {us : List Value}, Vals xs us → Vals ys us → xs = ys
  | _, _, _, .nil, .nil => rfl
  | _, _, _, .cons r t, .cons r' t' => by rw [r.inj r', Vals.inj t t']
section
variable {X : Cx} {pins : List (Addr × Obj)} {σ : St} {H : Hp} {s : Shared} {a : Addr} {xs ys : List V}
theorem SqL.of {K : W.Frag} (h : H a = some (.lst xs)) : SqL K H a xs := .inl (.inl h)
theorem SqT.of {K : W.Frag} (h : H a = some (.tup xs)) : SqT K H a xs := .inl (.inl h)
theorem Inv.list (I : Inv X pins σ H s) (h : SqL X.K H a xs) : ∃ its : List Value, Vals xs its ∧ PlainL s.heap a its.toArray ∧ xs.length ≤ sizeLine := by
  rcases h with h | ⟨o, its, n, hk, hc, hd, hs, hz, r⟩
  · obtain ⟨z, its, n, r, e⟩ := h.ok I.hok
    exact ⟨its, r, ⟨_, n, e, rfl, rfl, rfl⟩, z⟩
  · refine ⟨its.toList, r, ⟨o, n, I.kIn a o hk, hc, hd, by simpa using hs⟩, ?_⟩
    have e := r.length
    simp only [Array.length_toList] at e
    omega
theorem Inv.tuple (I : Inv X pins σ H s) (h : SqT X.K H a xs) : ∃ its : List Value, Vals xs its ∧ IsTup s.heap a its.toArray ∧ xs.length ≤ sizeLine := by
  rcases h with h | ⟨o, its, n, hk, hc, hs, hz, r⟩
  · obtain ⟨z, its, r, p⟩ := h.ok I.hok
    exact ⟨its, r, p, z⟩
  · refine ⟨its.toList, r, ⟨o, I.kIn a o hk, hc, n, by simpa using hs⟩, ?_⟩
    have e := r.length
    simp only [Array.length_toList] at e
    omega
theorem Inv.list_inj (I : Inv X pins σ H s) (h : SqL X.K H a xs) (h' : SqL X.K H a ys) : xs = ys := by
  obtain ⟨its, r, ⟨o, n, e, _, _, d⟩, _⟩ := I.list h
  obtain ⟨its', r', ⟨o', n', e', _, _, d'⟩, _⟩ := I.list h'
  rw [e] at e'; cases e'
  rw [d] at d'
  injection d' with d1 _
  have : its = its' := by simpa using congrArg Array.toList d1
  subst this
  exact r.inj r'
theorem Inv.tuple_inj (I : Inv X pins σ H s) (h : SqT X.K H a xs) (h' : SqT X.K H a ys) : xs = ys := by
  obtain ⟨its, r, ⟨o, e, _, n, d⟩, _⟩ := I.tuple h
  obtain ⟨its', r', ⟨o', e', _, n', d'⟩, _⟩ := I.tuple h'
  rw [e] at e'; cases e'
  rw [d] at d'
  injection d' with d1 _
  have : its = its' := by simpa using congrArg Array.toList d1
  subst this
  exact r.inj r'
end
noncomputable abbrev Cx.wish (X : Cx) (E : Value → Shared → Prop) : Cx := { X with xe := E }
noncomputable abbrev Cx.nox (X : Cx) : Cx := X.wish fun _ _ => False
theorem Cx.Ok.wish {X : Cx} (ok : X.Ok) (E : Value → Shared → Prop) : (X.wish E).Ok :=
  ⟨ok.mod, ok.kind, ok.glob, ok.blt, ok.above, ok.inj, ok.has, ok.cab, ok.hd, ok.frames, ok.stk, ok.exf, ok.bs, ok.bsz, ok.noex, ok.exfs, ok.funs, ok.frf⟩
theorem Cx.Ok.unwish {X : Cx} {E : Value → Shared → Prop} (ok : (X.wish E).Ok) : X.Ok :=
  ⟨ok.mod, ok.kind, ok.glob, ok.blt, ok.above, ok.inj, ok.has, ok.cab, ok.hd, ok.frames, ok.stk, ok.exf, ok.bs, ok.bsz, ok.noex, ok.exfs, ok.funs, ok.frf⟩
section
variable {X : Cx} {pins : List (Addr × Obj)} {σ : St} {H : Hp} {s : Shared} {E : Value → Shared → Prop}
theorem Inv.wish (I : Inv X pins σ H s) (E : Value → Shared → Prop) : Inv (X.wish E) pins σ H s := ⟨I.ok.wish E, I.os, I.bare, I.base, I.loc, I.cell, I.free, I.freeC, I.pin, I.hok, I.len⟩
theorem Inv.unwish (I : Inv (X.wish E) pins σ H s) : Inv X pins σ H s := ⟨I.ok.unwish, I.os, I.bare, I.base, I.loc, I.cell, I.free, I.freeC, I.pin, I.hok, I.len⟩
theorem SP.unwish {D : Ends} {f : Flow} {s' : Shared} (h : SP (X.wish E) pins D f s') : SP X pins D f s' := by
  cases f with
  | next => obtain ⟨σ', H', I, q⟩ := h; exact ⟨σ', H', I.unwish, q⟩
  | brk => obtain ⟨σ', H', I, q⟩ := h; exact ⟨σ', H', I.unwish, q⟩
  | cont => obtain ⟨σ', H', I, q⟩ := h; exact ⟨σ', H', I.unwish, q⟩
  | ret u => obtain ⟨v, σ', H', I, r, q⟩ := h; exact ⟨v, σ', H', I.unwish, r, q⟩
theorem PSs.nox {st : List Stmt} {t : TS} (h : PSs X.nox st t) : PSs X st t := fun pins s σ H D I hw =>
  wpAny_mono (h pins s σ H D (I.wish _) hw) (fun _ _ q => q.unwish) fun _ _ z => False.elim z
end
section
variable {X : Cx} {st : Stmt} {rest : List Stmt} {t u : TS} {e : Expr} {te : TE} {pos : Pos}
noncomputable def tNext : TS := fun D σ H => D.nx σ H
noncomputable def tSeq (t u : TS) : TS := fun D σ H => t { D with nx := u D } σ H
theorem pss_nil : PSs X [] tNext := fun _ _ σ H _ I h => wpAny_execs_nil ⟨σ, H, I, h⟩
theorem pss_cons (h1 : PS X st t) (h2 : PSs X rest u) : PSs X (st :: rest) (tSeq t u) := by
  intro pins s σ H D I h
  refine wpAny_execs_cons (thn (h1 pins s σ H { D with nx := u D } I h) fun f s1 q => ?_)
  cases f with
  | next =>
    obtain ⟨σ', H', I', q⟩ := q
    exact h2 pins s1 σ' H' D I' q
  | ret v => exact q
  | brk => exact q
  | cont => exact q
theorem pss_one (h1 : PS X st t) : PSs X [st] t := by
  intro pins s σ H D I h
  refine wpAny_execs_cons (thn (h1 pins s σ H D I h) fun f s1 q => ?_)
  cases f with
  | next => exact wpAny_execs_nil q
  | ret v => exact q
  | brk => exact q
  | cont => exact q
theorem Inv.quiet {pins : List (Addr × Obj)} {σ : St} {H : Hp} {s : Shared} (I : Inv X pins σ H s) : interactive X.env = false := by simp [interactive, I.ok.kind]
noncomputable def tDrop (te : TE) : TS := fun D σ H => te σ H fun _ H1 => D.nx σ H1
theorem ps_expr (he : PE X e te) (hs : swapsWith e none pos.line X.env = pure false := by rfl) : PS X (.Expr e pos) (tDrop te) := by
  intro pins s σ H D I h
  exact wpAny_Expr_any (thn (he pins s σ H _ I h) fun v s1 ⟨x, H1, I1, r1, q1⟩ => ⟨σ, H1, I1, q1⟩) I.quiet hs
noncomputable def tRet (te : TE) : TS := fun D σ H => te σ H D.rt
theorem ps_ret (he : PE X e te) : PS X (.Return (some e) pos) (tRet te) := by
  intro pins s σ H D I h
  exact wpAny_Return_some (thn (he pins s σ H _ I h) fun v s1 ⟨x, H1, I1, r1, q1⟩ => ⟨x, σ, H1, I1, r1, q1⟩)
noncomputable def tIfS (c : TT) (t u : TS) : TS := fun D σ H => c σ H fun b H1 => if b = true then t D σ H1 else u D σ H1
theorem ps_if {c : Expr} {a b : List Stmt} {tc : TT} (hc : PT X c tc) (ha : PSs X a t) (hb : PSs X b u) : PS X (.If c a b pos) (tIfS tc t u) := by
  intro pins s σ H D I h
  refine wpAny_If (thn (hc pins s σ H _ I h) fun d s1 ⟨H1, I1, q1⟩ => ?_)
  cases d with
  | true => exact ha pins s1 σ H1 D I1 q1
  | false => exact hb pins s1 σ H1 D I1 q1
noncomputable def tNever : TS := fun _ _ _ => False
theorem pss_never {sts : List Stmt} : PSs X sts tNever := fun _ _ _ _ _ _ h => h.elim
end
noncomputable abbrev TG := V → St → Hp → (St → Hp → Prop) → Prop
noncomputable def PG (X : Cx) (target : Expr) (t : TG) : Prop :=
  ∀ (pins : List (Addr × Obj)) (s : Shared) (σ : St) (H : Hp) (v : V) (u : Value) (Q : St → Hp → Prop), Inv X pins σ H s → RelV v u → t v σ H Q →
    wpAny (model X.prog X.w) X.A (assign target X.env u) (fun _ s' => ∃ σ' H', Inv X pins σ' H' s' ∧ Q σ' H') X.xe s
noncomputable abbrev TSet := V → V → V → Hp → (Hp → Prop) → Prop
noncomputable def PSet (X : Cx) (t : TSet) : Prop :=
  ∀ (pins : List (Addr × Obj)) (s : Shared) (σ : St) (H : Hp) (o i v : V) (ov iv u : Value) (Q : Hp → Prop), Inv X pins σ H s → RelV o ov → RelV i iv → RelV v u → t o i v H Q →
    wpAny (model X.prog X.w) X.A (setItem ov iv u) (fun _ s' => ∃ H', Inv X pins σ H' s' ∧ Q H') X.xe s
section
variable {X : Cx} {pos : Pos}
noncomputable def gName (i : Nat) : TG := fun v σ H Q => Q (σ.set i (some v)) H
theorem pg_name {i : Nat} {x : Str} (hN : X.N.Nodup) (hi : X.N[i]? = some x) (hx : Loc X.env.scope x) (hf : X.fn x = true ∨ X.env.scope.names.lookup x = some .local := by first | exact .inl rfl | exact .inr rfl | assumption) : PG X (.Name x pos) (gName i) := by
  intro pins s σ H v u Q I r h
  exact wpAny_assign_Name (store_ok I hN hi hx r (fun s' I' => ⟨_, H, I', h⟩) hf)
noncomputable def gSub (to ti : TE) (t : TSet) : TG := fun v σ H Q => to σ H fun o H1 => ti σ H1 fun i H2 => t o i v H2 fun H3 => Q σ H3
theorem pg_sub {o i : Expr} {to ti : TE} {t : TSet} (ho : PE X o to) (hi : PE X i ti) (hs : PSet X t)
    (ha : ∀ v, assign (.Subscript o i pos) X.env v = (do
      let ov ← holding [v] (eval o X.env)
      let iv ← holding [v, ov] (eval i X.env)
      standAt pos
      holding [v, ov, iv] (setItem ov iv v)
      release [v, ov, iv] []) := by intro _; rfl) : PG X (.Subscript o i pos) (gSub to ti t) := by
  intro pins s σ H v u Q I r h
  rw [ha]
  refine wpAny_bind (wpAny_holding (thn (ho pins s σ H _ I h) fun ov s1 ⟨x, H1, I1, r1, q1⟩ => ?_))
  refine wpAny_bind (wpAny_holding (thn (hi pins s1 σ H1 _ I1 q1) fun iv s2 ⟨y, H2, I2, r2, q2⟩ => ?_))
  refine wpAny_bind (wpAny_standAt (wpAny_bind (wpAny_holding (thn (hs pins s2 σ H2 x y v ov iv u _ I2 r1 r2 r q2) fun _ s3 ⟨H3, I3, q3⟩ => ?_))))
  exact wpAny_release ⟨σ, H3, I3, q3⟩
noncomputable def tAsg (te : TE) (g : TG) : TS := fun D σ H => te σ H fun x H1 => g x σ H1 D.nx
theorem ps_asg {tg e : Expr} {te : TE} {g : TG} (he : PE X e te) (hg : PG X tg g) (hs : swapsWithSole [tg] e pos.line X.env = pure false := by rfl) (hw : swappedStores [tg] e X.env = pure none := by rfl)
    (h1 : (assignEach [tg] X.env).map (·.2) = [assign tg X.env] := by rfl) : PS X (.Assign [tg] e pos) (tAsg te g) := by
  intro pins s σ H D I h
  refine wpAny_Assign_stores (thn (he pins s σ H _ I h) fun v s1 ⟨x, H1, I1, r1, q1⟩ => ?_) hs hw
  rw [h1]
  exact thn (hg pins s1 σ H1 x v _ I1 r1 q1) fun _ s2 q => q
theorem ps_set {i : Nat} {x : Str} {e : Expr} {te : TE} {pos' : Pos} (hN : X.N.Nodup) (hi : X.N[i]? = some x) (hx : Loc X.env.scope x) (he : PE X e te) (hs : swapsWith e (some (.Name x pos')) pos.line X.env = pure false := by rfl) (hf : X.fn x = true ∨ X.env.scope.names.lookup x = some .local := by first | exact .inl rfl | exact .inr rfl | assumption) :
    PS X (.Assign [.Name x pos'] e pos) (tAsg te (gName i)) := by
  intro pins s σ H D I h
  refine wpAny_Assign_Name (thn (he pins s σ H _ I h) fun v s1 ⟨y, H1, I1, r1, q1⟩ => ?_) hs
  exact store_ok I1 hN hi hx r1 (fun s2 I2 => ⟨_, H1, I2, q1⟩) hf
end
section
variable {X : Cx} {pos : Pos}
end
structure It where
  go : Nat → Hp → Prop
  yld : Nat → Hp → V → Hp → Prop
  stop : Nat → Hp → Prop
noncomputable def FpOk (X : Cx) (pins : List (Addr × Obj)) (H : Hp) (b : Addr) : Prop :=
  H b = none ∧ b ≠ X.env.locals ∧ b ∉ X.fs ∧ (b ∈ X.ex ∨ X.s₀.heap.objs.size ≤ b) ∧ (∀ x c, X.env.cells.lookup x = some c → c ≠ b) ∧ ∀ p ∈ X.pn ++ pins, p.1 ≠ b
theorem Inv.fpOk {X : Cx} {pins : List (Addr × Obj)} {σ : St} {H H' : Hp} {s : Shared} {b : Addr} (I : Inv X pins σ H s) (hb : s.heap.objs.size ≤ b) (hn : H' b = none) : FpOk X pins H' b := by
  refine ⟨hn, Nat.ne_of_gt (Nat.lt_of_lt_of_le I.lt hb), I.nofs hb, .inr (Nat.le_trans I.sz hb), fun x c e z => ?_, fun p hp z => ?_⟩
  · obtain ⟨v, q⟩ := I.cell x c e
    exact absurd (Nat.lt_of_lt_of_le q.lt (by rw [z]; exact hb)) (Nat.lt_irrefl _)
  · exact absurd (Nat.lt_of_lt_of_le (Heap.lt_size (I.pin p hp).1) (by rw [z]; exact hb)) (Nat.lt_irrefl _)
structure Turn (P : Program) (w : World) (K : W.Frag) (tg : Expr) (J : It) (fp : List Addr) (it : Addr) (tn : Nat → Heap → Prop) : Prop where
  mem : it ∈ fp
  obj : ∀ i h, tn i h → ∀ b ∈ fp, ∃ o, h.get? b = some o ∧ ∀ v, o.data ≠ .cell v
  keep : ∀ i h h', tn i h → (∀ b ∈ fp, ∀ o, h.get? b = some o → h'.get? b = some o) → tn i h'
  item : ∀ (X : Cx), X.prog = P → X.w = w → X.K = K → X.calm = true → ∀ (i : Nat) (pins : List (Addr × Obj)) (s : Shared) (σ : St) (H : Hp) (E : Value → Shared → Prop), Inv X pins σ H s → (∀ b ∈ fp, FpOk X pins H b) → tn i s.heap → J.go i H →
    wpAny (model P w) X.A (pyNext (.ref it)) (fun r s1 => ∃ u, r = some u ∧
      wpAny (model P w) X.A (letOwnedTupleGo tg (.ref it) u) (fun _ s2 => ∃ x H', Inv X pins σ H' s2 ∧ RelV x u ∧ J.yld i H x H' ∧ tn (i + 1) s2.heap ∧ ∀ b ∈ fp, H' b = none) E s1) E s
  done : ∀ (X : Cx), X.prog = P → X.w = w → X.K = K → X.calm = true → ∀ (i : Nat) (pins : List (Addr × Obj)) (s : Shared) (σ : St) (H : Hp) (E : Value → Shared → Prop), Inv X pins σ H s → (∀ b ∈ fp, FpOk X pins H b) → tn i s.heap → J.stop i H →
    wpAny (model P w) X.A (pyNext (.ref it)) (fun r s1 => r = none ∧ Inv X pins σ H s1) E s
  self : ∀ (A : Around) (i : Nat) (s : Shared) (Q : Value → Shared → Prop) (E : Value → Shared → Prop), tn i s.heap → Q (.ref it) s → wpAny (model P w) A (pyIter (.ref it)) Q E s
noncomputable abbrev TI := St → Hp → (It → Hp → Prop) → Prop
noncomputable def PIE (X : Cx) (pins : List (Addr × Obj)) (σ : St) (tg : Expr) (R : It → Hp → Prop) (itv : Value) (s2 : Shared) : Prop :=
  ∃ (it : Addr) (fp : List Addr) (tn : Nat → Heap → Prop) (J : It) (H' : Hp), itv = .ref it ∧ Inv X pins σ H' s2 ∧ Turn X.prog X.w X.K tg J fp it tn ∧ tn 0 s2.heap ∧ (∀ b ∈ fp, FpOk X pins H' b) ∧ R J H'
noncomputable def PI (X : Cx) (tg iter : Expr) (wi : TI) : Prop :=
  ∀ (pins : List (Addr × Obj)) (s : Shared) (σ : St) (H : Hp) (R : It → Hp → Prop), Inv X pins σ H s → wi σ H R →
    wpAny (model X.prog X.w) X.A (eval iter X.env) (fun v s1 => wpAny (model X.prog X.w) X.A (pyIter v) (PIE X pins σ tg R) X.xe s1) X.xe s
theorem go_of {M : Model} {A : Around} {E : Value → Shared → Prop} {s : Shared} {tg : Expr} {it : Addr} {u : Value} {o : Obj} {n : String} {vs : Array Value} {Q : Unit → Shared → Prop} (ho : s.heap.get? it = some o) (hc : o.cls = .type n) (hd : o.data = .fields vs)
    (hn : ["enumerate", "zip", "dict_itemiterator", "dict_reverseitemiterator", "odict_iterator", "itertools.zip_longest", "itertools.pairwise"].contains n = false) (hQ : Q () s) : wpAny M A (letOwnedTupleGo tg (.ref it) u) Q E s := by
  unfold letOwnedTupleGo
  cases tg <;> first
    | exact wpAny_pure hQ
    | (cases u <;> first
        | exact wpAny_pure hQ
        | (refine wpAny_bind (wpAny_load ho ?_)
           rw [hc, hd]
           show wpAny M A (if (["enumerate", "zip", "dict_itemiterator", "dict_reverseitemiterator", "odict_iterator", "itertools.zip_longest", "itertools.pairwise"].contains n && vs[0]? == some (rawInt _)) = true then _ else _) Q E s
           rw [if_neg (by intro h; rw [hn, Bool.false_and] at h; cases h)]
           exact wpAny_pure hQ))
noncomputable def Itl (K : W.Frag) (a : Addr) : It :=
  ⟨fun i H => ∃ xs x, SqL K H a xs ∧ xs[i]? = some x, fun i H x H' => H' = H ∧ ∀ xs, SqL K H a xs → xs[i]? = some x, fun i H => ∃ xs, SqL K H a xs ∧ xs.length ≤ i⟩
noncomputable def Itt (K : W.Frag) (a : Addr) : It :=
  ⟨fun i H => ∃ xs x, SqT K H a xs ∧ xs[i]? = some x, fun i H x H' => H' = H ∧ ∀ xs, SqT K H a xs → xs[i]? = some x, fun i H => ∃ xs, SqT K H a xs ∧ xs.length ≤ i⟩
noncomputable def Itr (lo : Int) (n : Nat) : It := ⟨fun i _ => i < n, fun i H x H' => H' = H ∧ x = .int (lo + i), fun i _ => n ≤ i⟩
theorem turn_list {P : Program} {w : World} {K : W.Frag} {tg : Expr} (a it : Addr) : Turn P w K tg (Itl K a) [it] it (fun i h => h.IsListIter it a i) where
  mem := by simp
  obj := fun i h st b hb => by
    have e : b = it := by simpa using hb
    subst e
    obtain ⟨o, e, c, d⟩ := st
    exact ⟨o, e, fun v z => by rw [d] at z; cases z⟩
  keep := fun i h h' st k => st.at fun o e => k it (by simp) o e
  item := by
    intro X hP hw hK hc i pins s σ H E I hf st hg
    subst hP hw hK
    obtain ⟨xs, x, hq, hx⟩ := hg
    obtain ⟨its, rv, p, hz⟩ := I.list hq
    obtain ⟨u, hu, ru⟩ := rv.get hx
    obtain ⟨f0, f1, f2, f3, f4, f5⟩ := hf it (by simp)
    refine wpAny_pyNext_list_item st p.isList (x := u) (by simpa using hu) fun h' st' sb => ?_
    have I1 : Inv X pins σ H { s with heap := h' } := I.turned (t' := s.toks) (fun b o hb e => (sb.2 b hb).trans e) f0 f1 f3 f4 f5
    obtain ⟨o, e, c, d⟩ := id st'
    exact ⟨u, rfl, go_of (s := { s with heap := h' }) e c d (by decide) ⟨x, H, I1, ru, ⟨rfl, fun ys hy => by rw [I.list_inj hy hq]; exact hx⟩, st', fun b hb => (hf b hb).1⟩⟩
  done := by
    intro X hP hw hK hc i pins s σ H E I hf st hg
    subst hP hw hK
    obtain ⟨xs, hq, hx⟩ := hg
    obtain ⟨its, rv, p, hz⟩ := I.list hq
    obtain ⟨f0, f1, f2, f3, f4, f5⟩ := hf it (by simp)
    have hl := rv.length
    exact wpAny_pyNext_list_end (I.ok.hd hc) st p.isList (by simp; omega) fun h' eb => ⟨rfl, I.turned (t' := s.toks) (fun b o hb e => eb b o hb e) f0 f1 f3 f4 f5⟩
  self := fun _ _ _ _ _ st h => wpAny_pyIter_listiter st h
theorem turn_tuple {P : Program} {w : World} {K : W.Frag} {tg : Expr} (a it : Addr) : Turn P w K tg (Itt K a) [it] it (fun i h => h.IsTupleIter it a i) where
  mem := by simp
  obj := fun i h st b hb => by
    have e : b = it := by simpa using hb
    subst e
    obtain ⟨o, e, c, d⟩ := st
    exact ⟨o, e, fun v z => by rw [d] at z; cases z⟩
  keep := fun i h h' st k => st.at fun o e => k it (by simp) o e
  item := by
    intro X hP hw hK hc i pins s σ H E I hf st hg
    subst hP hw hK
    obtain ⟨xs, x, hq, hx⟩ := hg
    obtain ⟨its, rv, p, hz⟩ := I.tuple hq
    obtain ⟨u, hu, ru⟩ := rv.get hx
    obtain ⟨f0, f1, f2, f3, f4, f5⟩ := hf it (by simp)
    refine wpAny_pyNext_tuple_item st (show s.heap.IsTuple a its.toArray from p) (x := u) (by simpa using hu) fun h' st' sb => ?_
    have I1 : Inv X pins σ H { s with heap := h' } := I.turned (t' := s.toks) (fun b o hb e => (sb.2 b hb).trans e) f0 f1 f3 f4 f5
    obtain ⟨o, e, c, d⟩ := id st'
    exact ⟨u, rfl, go_of (s := { s with heap := h' }) e c d (by decide) ⟨x, H, I1, ru, ⟨rfl, fun ys hy => by rw [I.tuple_inj hy hq]; exact hx⟩, st', fun b hb => (hf b hb).1⟩⟩
  done := by
    intro X hP hw hK hc i pins s σ H E I hf st hg
    subst hP hw hK
    obtain ⟨xs, hq, hx⟩ := hg
    obtain ⟨its, rv, p, hz⟩ := I.tuple hq
    obtain ⟨f0, f1, f2, f3, f4, f5⟩ := hf it (by simp)
    have hl := rv.length
    exact wpAny_pyNext_tuple_end (I.ok.hd hc) st (show s.heap.IsTuple a its.toArray from p) (by simp; omega) fun h' eb => ⟨rfl, I.turned (t' := s.toks) (fun b o hb e => eb b o hb e) f0 f1 f3 f4 f5⟩
  self := fun _ _ _ _ _ st h => wpAny_pyIter_tupleiter st h
theorem turn_range {P : Program} {w : World} {K : W.Frag} {tg : Expr} (it : Addr) (lo : Int) (n : Nat) : Turn P w K tg (Itr lo n) [it] it (fun i h => IsRangeIter h it (lo + (i : Nat) * 1) ((n : Int) - (i : Nat)) 1) where
  mem := by simp
  obj := fun i h st b hb => by
    have e : b = it := by simpa using hb
    subst e
    exact ⟨_, st, fun v z => by
      have z' : Data.fields _ = Data.cell v := z
      cases z'⟩
  keep := fun i h h' st k => k it (by simp) _ st
  item := by
    intro X hP hw hK hc i pins s σ H E I hf st hg
    subst hP hw hK
    obtain ⟨f0, f1, f2, f3, f4, f5⟩ := hf it (by simp)
    have W := Walks.range (prog := X.prog) (w := X.w) (I.ok.hd hc) it lo 1 n
    refine W.item i s _ _ hg st fun v h' tk hv st' kk => ?_
    obtain ⟨t, rfl⟩ := hv
    have I1 : Inv X pins σ H { s with heap := h', toks := tk } := I.turned (fun b o hb e => kk b o (by simpa using hb) e) f0 f1 f3 f4 f5
    refine ⟨_, rfl, go_of (s := { s with heap := h', toks := tk }) (n := "range_iterator") st' rfl rfl (by decide) ⟨.int (lo + i), H, I1, ⟨t, ?_⟩, ⟨rfl, rfl⟩, st', fun b hb => (hf b hb).1⟩⟩
    rw [Int.mul_one]
  done := by
    intro X hP hw hK hc i pins s σ H E I hf st hg
    subst hP hw hK
    obtain ⟨f0, f1, f2, f3, f4, f5⟩ := hf it (by simp)
    exact wpAny_pyNext_range_end (I.ok.hd hc) st (by have : n ≤ i := hg; omega) fun h' eb => ⟨rfl, I.turned (t' := s.toks) (fun b o hb e => eb b o hb e) f0 f1 f3 f4 f5⟩
  self := fun _ _ _ _ _ st h => wpAny_pyIter_rangeiter st h
end L2
namespace L2
open PySem PySem.Spec PyProof.Rows
section
variable {X : Cx} {tg : Expr}
theorem range_it {pins : List (Addr × Obj)} {σ : St} {H : Hp} {s : Shared} {R : It → Hp → Prop} {E : Value → Shared → Prop} {lo hi : Int} {t u v : Tok} {tk : Nat} (I : Inv X pins σ H s) (h1 : -(2 ^ 62) ≤ lo) (h2 : lo < 2 ^ 62) (h3 : -(2 ^ 62) ≤ hi) (h4 : hi < 2 ^ 62)
    (q : R (Itr lo (hi - lo).toNat) H) : wpAny (model X.prog X.w) X.A (pyIter (.ref s.heap.objs.size)) (PIE X pins σ tg R) E { s with heap := s.heap.push { cls := .type "range", data := .fields #[.int lo t, .int hi u, .int 1 v] }, toks := tk } := by
  refine wpAny_pyIter_range (IsRange.new ..) (small_one h1 h2 h3 h4) ?_
  have I1 : Inv X pins σ H { s with heap := s.heap.push { cls := .type "range", data := .fields #[.int lo t, .int hi u, .int 1 v] }, toks := tk } := I.kept fun b o e => Heap.get?_push_of_some _ e
  refine ⟨(s.heap.push { cls := .type "range", data := .fields #[.int lo t, .int hi u, .int 1 v] }).objs.size, [(s.heap.push { cls := .type "range", data := .fields #[.int lo t, .int hi u, .int 1 v] }).objs.size], _, _, H, rfl,
    I1.kept (t' := tk) fun b o e => Heap.get?_push_of_some _ e, turn_range _ lo (hi - lo).toNat, ?_, fun b hb => ?_, q⟩
  · have e1 : lo + ((0 : Nat) : Int) * 1 = lo := by simp
    have e2 : (((hi - lo).toNat : Nat) : Int) - ((0 : Nat) : Int) = Builtin.Range.rangeSize lo hi 1 := by rw [rangeSize_one]; split <;> omega
    show IsRangeIter _ _ (lo + ((0 : Nat) : Int) * 1) ((((hi - lo).toNat : Nat) : Int) - ((0 : Nat) : Int)) 1
    rw [e1, e2]
    exact Heap.get?_push_size _ rfl
  · have e : b = (s.heap.push { cls := .type "range", data := .fields #[.int lo t, .int hi u, .int 1 v] }).objs.size := by simpa using hb
    subst e
    exact I1.fpOk (Nat.le_refl _) (I1.hok.fresh (Nat.le_refl _))
noncomputable def iRng1 (ta : TA) : TI := fun σ H R => ta σ H fun vs H1 => ∃ j : Int, vs = [.int j] ∧ -(2 ^ 62) ≤ j ∧ j < 2 ^ 62 ∧ R (Itr 0 j.toNat) H1
noncomputable def iRng2 (ta : TA) : TI := fun σ H R => ta σ H fun vs H1 => ∃ i j : Int, vs = [.int i, .int j] ∧ (-(2 ^ 62) ≤ i ∧ i < 2 ^ 62 ∧ -(2 ^ 62) ≤ j ∧ j < 2 ^ 62) ∧ R (Itr i (j - i).toNat) H1
theorem pi_range1 {a : Expr} {ta : TA} {p pos : Pos} (hg : Gl X "range") (hm : X.mg "range" = none) (ha : PA X [a] ta) (hs : starEach [a] X.env = [(false, eval a X.env)] := by rfl) : PI X tg (.Call (.Name "range" p) [a] [] pos) (iRng1 ta) := by
  intro pins s σ H R I h
  refine Call_ (ld_blt I hg hm boot_range (PyProof.Rows.callWith_type1 (thn (ha pos pins s σ H _ I h) fun us s1 ⟨vs, H1, I1, r1, q1⟩ => ?_) hs rfl))
  obtain ⟨j, e, q1, q2, q⟩ := q1
  subst e
  cases r1 with
  | cons r rr =>
    cases rr
    obtain ⟨t, rfl⟩ := r
    exact call_range_1 (range_it I1 (by omega) (by omega) q1 q2 (by simpa using q))
theorem pi_range2 {a b : Expr} {ta : TA} {p pos : Pos} (hg : Gl X "range") (hm : X.mg "range" = none) (ha : PA X [a, b] ta) (hs : starEach [a, b] X.env = [(false, eval a X.env), (false, eval b X.env)] := by rfl) (hs2 : starEach [b] X.env = [(false, eval b X.env)] := by rfl) :
    PI X tg (.Call (.Name "range" p) [a, b] [] pos) (iRng2 ta) := by
  intro pins s σ H R I h
  refine Call_ (ld_blt I hg hm boot_range (PyProof.Rows.callWith_type1 (thn (ha pos pins s σ H _ I h) fun us s1 ⟨vs, H1, I1, r1, q1⟩ => ?_) (by rw [hs, hs2]) (by rw [hs2]; rfl)))
  obtain ⟨i, j, e, ⟨q1, q2, q3, q4⟩, q⟩ := q1
  subst e
  cases r1 with
  | cons r rr =>
    cases rr with
    | cons r' rr =>
      cases rr
      obtain ⟨t, rfl⟩ := r
      obtain ⟨t', rfl⟩ := r'
      exact call_range_2 (range_it I1 q1 q2 q3 q4 q)
noncomputable def tFor (wi : TI) (g : TG) (tb : TS) : TS := fun D σ H => wi σ H fun J H1 => ∃ W : Nat → Nat → St → Hp → Prop, (∃ m, W 0 m σ H1) ∧ ∀ i m σ H, W i m σ H →
  (J.stop i H ∧ D.nx σ H) ∨ (J.go i H ∧ ∃ N : St → Hp → Prop, (∀ σ' H', N σ' H' → ∃ m', m' < m ∧ W (i + 1) m' σ' H') ∧ ∀ x H', J.yld i H x H' → g x σ H' fun σ2 H2 => tb { D with nx := N, ct := N, bk := D.nx } σ2 H2)
noncomputable def pinsAt (fp : List Addr) (h : Heap) : List (Addr × Obj) := fp.filterMap fun b => (h.get? b).map fun o => (b, o)
theorem mem_pinsAt {fp : List Addr} {h : Heap} {b : Addr} {o : Obj} (hb : b ∈ fp) (e : h.get? b = some o) : (b, o) ∈ pinsAt fp h := List.mem_filterMap.mpr ⟨b, hb, by rw [e]; rfl⟩
theorem of_pinsAt {fp : List Addr} {h : Heap} {p : Addr × Obj} (hp : p ∈ pinsAt fp h) : p.1 ∈ fp ∧ h.get? p.1 = some p.2 := by
  obtain ⟨b, hb, e⟩ := List.mem_filterMap.mp hp
  cases q : h.get? b with
  | none => rw [q] at e; cases e
  | some o =>
    rw [q] at e
    have e' : (b, o) = p := Option.some.inj e
    subst e'
    exact ⟨hb, q⟩
theorem Inv.pinned {pins : List (Addr × Obj)} {σ : St} {H : Hp} {s : Shared} {fp : List Addr} (I : Inv X pins σ H s) (hf : ∀ b ∈ fp, FpOk X pins H b) (ho : ∀ b ∈ fp, ∃ o, s.heap.get? b = some o ∧ ∀ v, o.data ≠ .cell v) : Inv X (pins ++ pinsAt fp s.heap) σ H s :=
  I.pins_of fun p hp => (List.mem_append.mp hp).elim (fun z => I.pin p (List.mem_append_right _ z)) fun z => by
    obtain ⟨hb, e⟩ := of_pinsAt z
    obtain ⟨f0, f1, f2, _⟩ := hf p.1 hb
    obtain ⟨o, e', d⟩ := ho p.1 hb
    rw [e] at e'; cases e'
    exact ⟨e, f0, f1, f2, d⟩
theorem Inv.unpinned {pins pl : List (Addr × Obj)} {σ : St} {H : Hp} {s : Shared} (I : Inv X (pins ++ pl) σ H s) : Inv X pins σ H s := I.pins_of fun p hp => I.pin p (List.mem_append_right _ (List.mem_append_left _ hp))
theorem ps_for {iter : Expr} {body : List Stmt} {wi : TI} {g : TG} {tb : TS} {pos : Pos} (hp : PassesOwn (model X.prog X.w) X.A X.env X.xe) (hc : X.calm = true) (hi : PI X tg iter wi) (hg : PG X tg g) (hb : PSs X body tb)
    (hs : ∀ x, foldedSetIterable iter X.env x = pure x := by intro _; rfl) : PS X (.For tg iter body [] pos) (tFor wi g tb) := by
  intro pins s σ H D I h
  refine wpAny_For (thn (hi pins s σ H _ I h) fun v s1 h1 => thn h1 fun itv s2 h2 => ?_) hs
  obtain ⟨it, fp, tn, J, H2, e, I2, T, st2, f2, W, ⟨m0, w0⟩, turn⟩ := h2
  subst e
  -- what stays true of the iterator's objects through the loop
  have stat : ∀ {H' : Hp}, (∀ b ∈ fp, H' b = none) → ∀ b ∈ fp, FpOk X pins H' b := fun hn b hb => ⟨hn b hb, (f2 b hb).2⟩
  refine codeAny_forLoop_any (fun n s' => ∃ i σ' H', Inv X pins σ' H' s' ∧ tn i s'.heap ∧ (∀ b ∈ fp, H' b = none) ∧ W i n σ' H') ?_ m0 ⟨0, σ, H2, I2, st2, fun b hb => (f2 b hb).1, w0⟩
  rintro n s3 ⟨i, σ3, H3, I3, st3, fr3, w3⟩
  rcases turn i n σ3 H3 w3 with ⟨stop, qn⟩ | ⟨go, N, hN, step⟩
  · refine wpAny_passesOwn hp (thn (T.done X rfl rfl rfl hc i pins s3 σ3 H3 X.xe I3 (stat fr3) st3 stop) fun r s4 ⟨hr, I4⟩ => ?_)
    subst hr
    exact wpAny_execs_nil ⟨σ3, H3, I4, qn⟩
  · refine wpAny_passesOwn hp (thn (T.item X rfl rfl rfl hc i pins s3 σ3 H3 X.xe I3 (stat fr3) st3 go) fun r s4 ⟨u, hr, h4⟩ => ?_)
    subst hr
    refine wpAny_passesOwn hp (thn h4 fun _ s5 ⟨x, H5, I5, r5, y5, st5, fr5⟩ => ?_)
    have I5' := I5.pinned (stat fr5) (T.obj _ _ st5)
    refine wpAny_passesOwn hp (thn (hg _ s5 σ3 H5 x u _ I5' r5 (step x H5 y5)) fun _ s6 ⟨σ6, H6, I6, q6⟩ => ?_)
    refine wpAny_passesOwn hp (thn (hb _ s6 σ6 H6 _ I6 q6) fun f s7 q7 => ?_)
    have again : ∀ {σ7 : St} {H7 : Hp}, Inv X (pins ++ pinsAt fp s5.heap) σ7 H7 s7 → N σ7 H7 → ∃ m, m < n ∧ ∃ i σ' H', Inv X pins σ' H' s7 ∧ tn i s7.heap ∧ (∀ b ∈ fp, H' b = none) ∧ W i m σ' H' := fun {σ7 H7} I7 n7 => by
      obtain ⟨m', hm, w7⟩ := hN σ7 H7 n7
      refine ⟨m', hm, i + 1, σ7, H7, I7.unpinned, T.keep _ _ _ st5 fun b hb o e => (I7.pin (b, o) (List.mem_append_right _ (List.mem_append_right _ (mem_pinsAt hb e)))).1, fun b hb => ?_, w7⟩
      obtain ⟨o, e, d⟩ := T.obj _ _ st5 b hb
      exact (I7.pin (b, o) (List.mem_append_right _ (List.mem_append_right _ (mem_pinsAt hb e)))).2.1
    cases f with
    | next => obtain ⟨σ7, H7, I7, n7⟩ := q7; exact again I7 n7
    | cont => obtain ⟨σ7, H7, I7, n7⟩ := q7; exact again I7 n7
    | brk => obtain ⟨σ7, H7, I7, q7⟩ := q7; exact ⟨σ7, H7, I7.unpinned, q7⟩
    | ret v => obtain ⟨x7, σ7, H7, I7, r7, q7⟩ := q7; exact ⟨x7, σ7, H7, I7.unpinned, r7, q7⟩
end
end L2
namespace L2
open PySem PySem.Spec PyProof.Rows
noncomputable abbrev R2 := V → V → Hp → VK → Prop
noncomputable def OpR (X : Cx) (f : Value → Value → Sem Value) (r : R2) : Prop :=
  ∀ (pins : List (Addr × Obj)) (s : Shared) (σ : St) (H : Hp) (x y : V) (v u : Value) (Q : VK), Inv X pins σ H s → RelV x v → RelV y u → r x y H Q →
    wpAny (model X.prog X.w) X.A (f v u) (EP X pins σ Q) X.xe s
noncomputable def UnR (X : Cx) (f : Value → Sem Value) (r : V → Hp → VK → Prop) : Prop :=
  ∀ (pins : List (Addr × Obj)) (s : Shared) (σ : St) (H : Hp) (x : V) (v : Value) (Q : VK), Inv X pins σ H s → RelV x v → r x H Q →
    wpAny (model X.prog X.w) X.A (f v) (EP X pins σ Q) X.xe s
noncomputable def CallR (X : Cx) (f : Value) (r : List V → Hp → VK → Prop) : Prop :=
  ∀ (pins : List (Addr × Obj)) (s : Shared) (σ : St) (H : Hp) (xs : List V) (us : List Value) (Q : VK), Inv X pins σ H s → Vals xs us → r xs H Q →
    wpAny (model X.prog X.w) X.A (call f us) (EP X pins σ Q) X.xe s
noncomputable def tOp (r : R2) (ta tb : TE) : TE := fun σ H Q => ta σ H fun x H1 => tb σ H1 fun y H2 => r x y H2 Q
noncomputable def tUn (r : V → Hp → VK → Prop) (ta : TE) : TE := fun σ H Q => ta σ H fun x H1 => r x H1 Q
noncomputable def rI (C : Int → Int → Prop) (g : Int → Int → V) : R2 := fun x y H Q => ∃ i j, x = .int i ∧ y = .int j ∧ C i j ∧ Q (g i j) H
noncomputable def rI0 (g : Int → Int → V) : R2 := fun x y H Q => ∃ i j, x = .int i ∧ y = .int j ∧ Q (g i j) H
noncomputable def rU (g : Int → V) : V → Hp → VK → Prop := fun x H Q => ∃ i, x = .int i ∧ Q (g i) H
section
variable {X : Cx} {a b c : Expr} {ta tb tc : TE} {pos : Pos}
theorem binT (ha : PE X a ta) (hb : PE X b tb) {pins : List (Addr × Obj)} {s : Shared} {σ : St} {H : Hp} {R : V → V → Hp → Prop} (I : Inv X pins σ H s)
    (h : ta σ H fun x H1 => tb σ H1 fun y H2 => R x y H2) {Q : Value → Shared → Prop} {f : Value → Value → Sem Value}
    (hf : ∀ v u s2 x y H2, Inv X pins σ H2 s2 → RelV x v → RelV y u → R x y H2 → wpAny (model X.prog X.w) X.A (f v u) Q X.xe s2) :
    wpAny (model X.prog X.w) X.A (eval a X.env) (fun v s₁ => wpAny (model X.prog X.w) X.A (eval b X.env) (fun u s₂ => wpAny (model X.prog X.w) X.A (f v u) Q X.xe s₂) X.xe s₁) X.xe s := by
  refine thn (ha pins s σ H _ I h) fun v s1 ⟨x, H1, I1, r1, q1⟩ => ?_
  refine thn (hb pins s1 σ H1 _ I1 q1) fun u s2 ⟨y, H2, I2, r2, q2⟩ => ?_
  exact hf v u s2 x y H2 I2 r1 r2 q2
theorem pe_op {op : Operator} {r : R2} (ho : OpR X (binaryOp op) r) (ha : PE X a ta) (hb : PE X b tb) : PE X (.BinOp a op b pos) (tOp r ta tb) := by
  intro pins s σ H Q I h
  exact wpAny_BinOp (binT ha hb I h fun v u s2 x y H2 I2 rx ry q => ho pins s2 σ H2 x y v u Q I2 rx ry q)
theorem pe_un {op : UnaryOp} {r : V → Hp → VK → Prop} (ho : UnR X (unaryOp op) r) (ha : PE X a ta) : PE X (.UnaryOp op a pos) (tUn r ta) := by
  intro pins s σ H Q I h
  exact UnaryOp_ (thn (ha pins s σ H _ I h) fun v s1 ⟨x, H1, I1, r1, q1⟩ => ho pins s1 σ H1 x v Q I1 r1 q1)
theorem opI {f : Value → Value → Sem Value} {C : Int → Int → Prop} {g : Int → Int → Int}
    (rule : ∀ (i j : Int) (t u : Tok) (s : Shared) (Q : Value → Shared → Prop) (E : Value → Shared → Prop), C i j → Q (.int (g i j) s.toks) { s with toks := s.toks + 1 } → wpAny (model X.prog X.w) X.A (f (.int i t) (.int j u)) Q E s) :
    OpR X f (rI C fun i j => .int (g i j)) := by
  intro pins s σ H x y v u Q I rx ry h
  obtain ⟨i, j, rfl, rfl, hc, q⟩ := h
  obtain ⟨t, rfl⟩ := rx
  obtain ⟨t', rfl⟩ := ry
  exact rule i j t t' s _ _ hc ⟨.int (g i j), H, I.tok _, ⟨_, rfl⟩, q⟩
theorem opI0 {f : Value → Value → Sem Value} {g : Int → Int → Int}
    (rule : ∀ (i j : Int) (t u : Tok) (s : Shared) (Q : Value → Shared → Prop) (E : Value → Shared → Prop), Q (.int (g i j) s.toks) { s with toks := s.toks + 1 } → wpAny (model X.prog X.w) X.A (f (.int i t) (.int j u)) Q E s) :
    OpR X f (rI0 fun i j => .int (g i j)) := by
  intro pins s σ H x y v u Q I rx ry h
  obtain ⟨i, j, rfl, rfl, q⟩ := h
  obtain ⟨t, rfl⟩ := rx
  obtain ⟨t', rfl⟩ := ry
  exact rule i j t t' s _ _ ⟨.int (g i j), H, I.tok _, ⟨_, rfl⟩, q⟩
theorem opB0 {f : Value → Value → Sem Value} {g : Int → Int → Bool}
    (rule : ∀ (i j : Int) (t u : Tok) (s : Shared) (Q : Value → Shared → Prop) (E : Value → Shared → Prop), Q (.bool (g i j)) s → wpAny (model X.prog X.w) X.A (f (.int i t) (.int j u)) Q E s) :
    OpR X f (rI0 fun i j => .bl (g i j)) := by
  intro pins s σ H x y v u Q I rx ry h
  obtain ⟨i, j, rfl, rfl, q⟩ := h
  obtain ⟨t, rfl⟩ := rx
  obtain ⟨t', rfl⟩ := ry
  exact rule i j t t' s _ _ ⟨.bl (g i j), H, I, rfl, q⟩
noncomputable def CPow (i j : Int) : Prop := 0 ≤ j ∧ j ≤ 1000000 ∧ i.natAbs < 2 ^ 64
noncomputable def CMul (i j : Int) : Prop := (-(2 ^ 64) < i ∧ i < 2 ^ 64) ∨ (-(2 ^ 64) < j ∧ j < 2 ^ 64)
theorem CMul.ok {i j : Int} (h : CMul i j) : IntMulOk i j := by
  rcases h with ⟨h1, h2⟩ | ⟨h1, h2⟩
  · exact .of_left (intBits_le_64 h1 h2)
  · exact .of_right (intBits_le_64 h1 h2)
theorem op_add : OpR X (binaryOp .Add) (rI0 fun i j => .int (i + j)) := opI0 fun _ _ _ _ _ _ _ q => add_int q
theorem op_sub : OpR X (binaryOp .Sub) (rI0 fun i j => .int (i - j)) := opI0 fun _ _ _ _ _ _ _ q => sub_int q
theorem op_mul : OpR X (binaryOp .Mult) (rI CMul fun i j => .int (i * j)) := opI fun _ _ _ _ _ _ _ hc q => mul_int q hc.ok
theorem op_mod : OpR X (binaryOp .Mod) (rI (fun _ j => 0 < j) fun i j => .int (i % j)) := opI fun i j _ _ _ _ _ hc q => by
  have h1 : (0 : Int) < j := hc
  exact mod_int' (by omega) (by rw [Int.fmod_eq_emod_of_nonneg i (by omega)]; exact q)
theorem op_pow : OpR X (binaryOp .Pow) (rI CPow fun i j => .int (i ^ j.toNat)) := opI fun _ _ _ _ _ _ _ hc q => pow_int_small hc.1 hc.2.1 hc.2.2 q
theorem unI {f : Value → Sem Value} {g : Int → Int}
    (rule : ∀ (i : Int) (t : Tok) (s : Shared) (Q : Value → Shared → Prop) (E : Value → Shared → Prop), Q (.int (g i) s.toks) { s with toks := s.toks + 1 } → wpAny (model X.prog X.w) X.A (f (.int i t)) Q E s) :
    UnR X f (rU fun i => .int (g i)) := by
  intro pins s σ H x v Q I rx h
  obtain ⟨i, rfl, q⟩ := h
  obtain ⟨t, rfl⟩ := rx
  exact rule i t s _ _ ⟨.int (g i), H, I.tok _, ⟨_, rfl⟩, q⟩
theorem un_neg : UnR X (unaryOp .USub) (rU fun i => .int (-i)) := unI fun _ _ _ _ _ q => neg_int q
end
section
variable {X : Cx} {a b c : Expr} {ta tb tc : TE} {pos : Pos}
theorem op_lt : OpR X (compareOp .Lt) (rI0 fun i j => .bl (decide (i < j))) := opB0 fun _ _ _ _ _ _ _ q => lt_int q
theorem op_gt : OpR X (compareOp .Gt) (rI0 fun i j => .bl (decide (j < i))) := opB0 fun _ _ _ _ _ _ _ q => gt_int q
theorem op_ge : OpR X (compareOp .GtE) (rI0 fun i j => .bl (decide (j ≤ i))) := opB0 fun _ _ _ _ _ _ _ q => ge_int q
theorem nomark (b : Expr) {op : CmpOp} (h : op ≠ .In := by decide) (h2 : op ≠ .NotIn := by decide) : behindInMarks op b = false := by
  have e1 : (op == CmpOp.In) = false := by cases op <;> first | rfl | exact absurd rfl h
  have e2 : (op == CmpOp.NotIn) = false := by cases op <;> first | rfl | exact absurd rfl h2
  cases b <;> simp [behindInMarks, e1, e2]
noncomputable def tTest (t : TE) : TT := fun σ H Q => t σ H fun x H' => ∃ k, x = .bl k ∧ Q k H'
theorem pt_cmpR {op : CmpOp} {r : R2} (ho : OpR X (compareOp op) r) (ha : PE X a ta) (hb : PE X b tb) (hm : behindInMarks op b = false) : PT X (.Compare a [op] [b] pos) (tTest (tOp r ta tb)) := by
  intro pins s σ H Q I h
  refine wpAny_isTrue_Compare1 (thn (ha pins s σ H _ I h) fun v s1 ⟨x, H1, I1, r1, q1⟩ => thn (hb pins s1 σ H1 _ I1 q1) fun u s2 ⟨y, H2, I2, r2, q2⟩ =>
    thn (ho pins s2 σ H2 x y v u _ I2 r1 r2 q2) fun c s3 ⟨z, H3, I3, r3, k, e, q3⟩ => ?_) hm
  subst e
  cases r3
  exact wpAny_truthy_bool ⟨H3, I3, q3⟩
theorem line63 : (sizeLine : Nat) < 2 ^ 63 := by rw [sizeLine_eq]; decide
theorem op_add_str : OpR X (binaryOp .Add) (fun x y H Q => ∃ i j, x = .str i ∧ y = .str j ∧ i.length + j.length ≤ sizeLine ∧ Q (.str (i ++ j)) H) := by
  intro pins s σ H x y v u Q I rx ry h
  obtain ⟨i, j, rfl, rfl, hz, q⟩ := h
  obtain ⟨t, rfl⟩ := rx
  obtain ⟨t', rfl⟩ := ry
  exact add_str (fun t' tk => ⟨.str (i ++ j), H, I.tok _, ⟨_, rfl⟩, q⟩) hz
theorem vals1 {x : V} {us : List Value} (r : Vals [x] us) : ∃ u, us = [u] ∧ RelV x u := by
  cases r with
  | cons r1 r2 => cases r2; exact ⟨_, rfl, r1⟩
theorem vals2 {x y : V} {us : List Value} (r : Vals [x, y] us) : ∃ u w', us = [u, w'] ∧ RelV x u ∧ RelV y w' := by
  cases r with
  | cons r1 r2 =>
    cases r2 with
    | cons r3 r4 => cases r4; exact ⟨_, _, rfl, r1, r3⟩
theorem call_max2 (hc : X.calm = true) : CallR X (.builtin "max") (fun xs H Q => ∃ i j, xs = [.int i, .int j] ∧ Q (.int (if j > i then j else i)) H) := by
  intro pins s σ H xs us Q I r h
  obtain ⟨i, j, rfl, q⟩ := h
  obtain ⟨u, w', rfl, ⟨t, rfl⟩, ⟨t', rfl⟩⟩ := vals2 r
  refine max_two_ints (I.ok.hd hc) fun h' tk k => ⟨_, H, I.kept k, ?_, q⟩
  by_cases hj : j > i
  · rw [if_pos hj, if_pos hj]; exact ⟨_, rfl⟩
  · rw [if_neg hj, if_neg hj]; exact ⟨_, rfl⟩
theorem call_min2 (hc : X.calm = true) : CallR X (.builtin "min") (fun xs H Q => ∃ i j, xs = [.int i, .int j] ∧ Q (.int (if j < i then j else i)) H) := by
  intro pins s σ H xs us Q I r h
  obtain ⟨i, j, rfl, q⟩ := h
  obtain ⟨u, w', rfl, ⟨t, rfl⟩, ⟨t', rfl⟩⟩ := vals2 r
  refine min_two_ints (I.ok.hd hc) fun h' tk k => ⟨_, H, I.kept k, ?_, q⟩
  by_cases hj : j < i
  · rw [if_pos hj, if_pos hj]; exact ⟨_, rfl⟩
  · rw [if_neg hj, if_neg hj]; exact ⟨_, rfl⟩
end
end L2
namespace L2
open PySem PySem.Spec PyProof.Rows
structure ObjM (h : Heap) (x dx C : Addr) (mA : Str → Option Value) : Prop where
  obj : h.get? x = some (W.instObj C dx)
  ns : h.Ns1 dx mA
  ne : dx ≠ x
theorem lookIn_ns {h : Heap} {dx : Addr} {mA : Str → Option Value} (n : h.Ns1 dx mA) : ∃ od, h.get? dx = some od ∧ ∀ name, W.lookIn name od = some (mA name) := by
  obtain ⟨o, es, ep, ho, hd, hk, _, hm⟩ := n
  refine ⟨o, ho, fun name => ?_⟩
  have e := hm name
  unfold nsFind findBy at e
  rw [← Array.find?_toList] at e
  unfold W.lookIn
  rw [hd]
  dsimp only
  split
  · rename_i y q
    rw [q] at e
    exact congrArg some e
  · rename_i q
    rw [q] at e
    have a : es.toList.any (·.refKey) = false := by
      rw [List.any_eq_false]
      intro y hy
      obtain ⟨z, t, hkey⟩ := hk y (Array.mem_toList_iff.mp hy)
      simp [DictEntry.refKey, hkey]
    have a' : ¬ es.toList.any (·.refKey) = true := by rw [a]; exact Bool.false_ne_true
    rw [if_neg a']
    exact congrArg some e
theorem ObjM.look {h : Heap} {x dx C : Addr} {mA : Str → Option Value} (I : ObjM h x dx C mA) : ∃ od, W.InstAt h x (W.instObj C dx) C (some od) ∧ ∀ name, W.lookIn name od = some (mA name) :=
  let ⟨od, ho, hl⟩ := lookIn_ns I.ns
  ⟨od, ⟨I.obj, rfl, rfl, ho⟩, hl⟩
section
variable {prog : Program} {w : World} {A : Around} {E : Value → Shared → Prop} {s : Shared} {K : W.Frag} {x dx C f : Addr} {mA : Str → Option Value} {name : Str} {v : Value}
theorem get_map {expr : Bool} {Q : Value → Shared → Prop} (X : K.In s.heap) (I : ObjM s.heap x dx C mA) (hg : W.plainGet K C name = true) (hh : W.hasDictIn K C = true)
    (ha : W.findIn K (.ref C) name = some none) (hv : mA name = some v) (hv' : W.handedIn v = true) (h : Q v { s with toks := s.toks + 1 }) :
    wpAny (model prog w) A (getAttr (.ref x) name expr) Q E s := by
  obtain ⟨od, J, hl⟩ := I.look
  exact W.get_value X J (W.plainGet_of hg).1 (W.findObj_own hh ha rfl (by rw [hl, hv])) hv' h
theorem get_meth {pl : Sem Bool} {Q : Value × List Value → Shared → Prop} (X : K.In s.heap) (I : ObjM s.heap x dx C mA) (hg : W.plainGet K C name = true)
    (hf : W.findIn K (.ref C) name = some (some (.ref f))) (ht : W.isFn K (.ref f) = true) (hv : mA name = none) (h : Q (.ref f, [.ref x]) s) :
    wpAny (model prog w) A (getMethod (.ref x) name pl) Q E s := by
  obtain ⟨od, J, hl⟩ := I.look
  exact W.method_fn X J (W.plainGet_of hg).1 (W.plainGet_of hg).2 hf (beq_iff_eq.mp ht) (by show (W.lookIn name od).map (·.isSome) = some false; rw [hl, hv]; rfl) h
theorem set_map {ns : List Str} {Q : Unit → Shared → Prop} (X : K.In s.heap) (I : ObjM s.heap x dx C mA)
    (hs : W.findIn K (.ref C) "__setattr__" = some (some (.builtin "object.__setattr__"))) (hp : W.plainOver K C = true) (ht : W.takerIn K C name = some none) (hh : W.hasDictIn K C = true)
    (hw : PySem.Within mA ns) (hsz : ns.length ≤ sizeLine)
    (h : ∀ h', ObjM h' x dx C (fun y => if y = name then some v else mA y) → Heap.SameBut dx s.heap h' → Q () { s with heap := h', toks := s.toks + 2 }) :
    wpAny (model prog w) A (setAttr (.ref x) name v) Q E s := by
  obtain ⟨od, J, hl⟩ := I.look
  refine W.set_plain X J hs (W.osa_open (s := { s with toks := s.toks + 1 }) (r := none) X J hp ht fun b => ?_)
  obtain ⟨cd, hc, hd'⟩ := W.any_some hh
  have hx : s.heap.get? x = some ⟨.ref C, some dx, .plain, #[]⟩ := I.obj
  refine wpAny_bind (wpAny_pure (wpAny_bind (wpAny_bind (wpAny_loadPart hx (wpAny_bind (W.Looks.here (s := { s with toks := s.toks + 1 }) (W.looks_clsIn X hc) ?_))))))
  rw [hd']
  refine wpAny_pure (a := some dx) (wpAny_bind (wpAny_pure (wpAny_bind ?_)))
  refine wpAny_nsSet1 (s := { s with toks := s.toks + 1 }) I.ns fun h' hn2 hs2 => ?_
  obtain ⟨oD, esD, epD, hoD, hdD, hcD⟩ := hn2.count (PySem.Within.cons name v hw)
  refine wpAny_bind (wpAny_lookBehind hoD (by rw [hdD]; exact pastItsLine_dict (Nat.le_trans hcD (by rw [List.length_cons]; omega))) ?_)
  exact wpAny_pure (h _ ⟨(hs2.2 _ (Ne.symm I.ne)).trans I.obj, hn2, I.ne⟩ hs2)
theorem make_map {R : Result → Shared → Prop} {vs : List Value} {kw : List (Str × Value)} (X : K.In s.heap) (hm : W.makesIn K C = true)
    (hi : W.findIn K (.ref C) "__init__" = some (some (.ref f))) (hf : W.typeIn K (.ref f) = some (.type "function"))
    (h : codeAny (model prog w) (A.under (.builtin "type.__call__" ⟨.ref C :: vs, kw⟩)) (.call (.ref f) ⟨.ref (s.heap.objs.size + 1) :: vs, kw⟩) (W.InitBack (s.heap.objs.size + 1) R)
      { s with heap := (s.heap.push W.emptyDict).push (W.instObj C s.heap.objs.size) }) :
    codeAny (model prog w) A (.call (.ref C) ⟨vs, kw⟩) R s := by
  obtain ⟨hh, g, d, t, os⟩ := s
  exact W.make_core (W.makes_of X hm) (W.looks_findIn X hi) (fun self => W.bind_fn X self hf) (.inl rfl) h
end
noncomputable def putF (f : Str) (v : V) : List (Str × V) → List (Str × V)
  | [] => [(f, v)]
  | (g, x) :: r => if g = f then (g, v) :: r else (g, x) :: putF f v r
theorem lookup_putF (f g : Str) (v : V) : ∀ fs : List (Str × V), (putF f v fs).lookup g = if g = f then some v else fs.lookup g
  | [] => by
    show List.lookup g [(f, v)] = _
    by_cases h : g = f
    · have hb : (g == f) = true := beq_iff_eq.mpr h
      simp only [List.lookup, hb, if_pos h]
    · have hb : (g == f) = false := beq_eq_false_iff_ne.mpr h
      simp only [List.lookup, hb, if_neg h]
  | (k, x) :: r => by
    have ih := lookup_putF f g v r
    rw [show putF f v ((k, x) :: r) = (if k = f then (k, v) :: r else (k, x) :: putF f v r) from rfl]
    by_cases hk : k = f
    · rw [if_pos hk]
      by_cases h : g = k
      · have hb : (g == k) = true := beq_iff_eq.mpr h
        simp only [List.lookup, hb, if_pos (h.trans hk)]
      · have hb : (g == k) = false := beq_eq_false_iff_ne.mpr h
        simp only [List.lookup, hb, if_neg (fun e : g = f => h (e.trans hk.symm))]
    · rw [if_neg hk]
      by_cases h : g = k
      · have hb : (g == k) = true := beq_iff_eq.mpr h
        simp only [List.lookup, hb, if_neg (fun e : g = f => hk (h.symm.trans e))]
      · have hb : (g == k) = false := beq_eq_false_iff_ne.mpr h
        simp only [List.lookup, hb]
        exact ih
theorem keys_putF (f : Str) (v : V) : ∀ fs : List (Str × V), f ∈ (putF f v fs).map (·.1) ∧ ∀ g, g ∈ fs.map (·.1) → g ∈ (putF f v fs).map (·.1)
  | [] => ⟨by simp [putF], fun g h => by simp at h⟩
  | (k, x) :: r => by
    obtain ⟨i1, i2⟩ := keys_putF f v r
    rw [show putF f v ((k, x) :: r) = (if k = f then (k, v) :: r else (k, x) :: putF f v r) from rfl]
    by_cases hk : k = f
    · rw [if_pos hk]
      subst hk
      exact ⟨by simp, fun g h => by simpa using h⟩
    · rw [if_neg hk]
      refine ⟨?_, fun g h => ?_⟩
      · rw [List.map_cons]
        exact List.mem_cons_of_mem _ i1
      · rw [List.map_cons] at h ⊢
        rcases List.mem_cons.mp h with e | e
        · exact List.mem_cons.mpr (.inl e)
        · exact List.mem_cons_of_mem _ (i2 g e)
theorem length_putF (f : Str) (v : V) : ∀ fs : List (Str × V), (putF f v fs).length ≤ fs.length + 1
  | [] => by simp [putF]
  | (k, x) :: r => by
    have ih := length_putF f v r
    rw [show putF f v ((k, x) :: r) = (if k = f then (k, v) :: r else (k, x) :: putF f v r) from rfl]
    by_cases hk : k = f
    · rw [if_pos hk, List.length_cons, List.length_cons]; omega
    · rw [if_neg hk, List.length_cons, List.length_cons]; omega
theorem RelO.some_of {v : V} {o : Option Value} (r : RelO (some v) o) : ∃ u, o = some u ∧ RelV v u := by
  cases o with
  | none => exact (show False from r).elim
  | some u => exact ⟨u, rfl, r⟩
theorem RelO.none_of {o : Option Value} (r : RelO none o) : o = none := by
  cases o with
  | none => rfl
  | some u => exact (show False from r).elim
theorem handed_of {v : V} {u : Value} (r : RelV v u) : W.handedIn u = true := by
  cases v with
  | non => cases (show u = Value.none from r); rfl
  | bl b => cases (show u = Value.bool b from r); rfl
  | int i => obtain ⟨t, e⟩ := (show ∃ t, u = Value.int i t from r); cases e; rfl
  | str x => obtain ⟨t, e⟩ := (show ∃ t, u = Value.str x t from r); cases e; rfl
  | byt b => obtain ⟨t, e⟩ := (show ∃ t, u = Value.bytes b t from r); cases e; rfl
  | flt b => obtain ⟨t, e⟩ := (show ∃ t, u = Value.float b t from r); cases e; rfl
  | ref a => cases (show u = Value.ref a from r); rfl
  | ty n => cases (show u = Value.type n from r); rfl
section
variable {P : Program} {w : World} {H H' : Hp} {h h' : Heap} {a C dx : Addr} {fs fs' : List (Str × V)}
theorem ins_get (hok : HOk P w H h) (e : H a = some (.ins C dx fs)) : ∃ mA, ObjM h a dx C mA ∧ (∀ f, RelO (fs.lookup f) (mA f)) ∧ PySem.Within mA (fs.map (·.1)) ∧ fs.length ≤ 1000 ∧ H dx = some (.own a) := by
  obtain ⟨d, z, ne, ob, mA, n, r, q⟩ := (show ObjOk P w H h a (.ins C dx fs) from hok a _ e)
  exact ⟨mA, ⟨ob, n, ne⟩, r, q, z, d⟩
end
structure Cls (K : W.Frag) (C : Addr) : Prop where
  pg : W.plainGet K C Str.empty = true
  hd : W.hasDictIn K C = true
  po : W.plainOver K C = true
  sa : W.findIn K (.ref C) "__setattr__" = some (some (.builtin "object.__setattr__"))
theorem Cls.get {K : W.Frag} {C : Addr} (c : Cls K C) (f : Str) : W.plainGet K C f = true := c.pg
noncomputable def NoAttr (K : W.Frag) (C : Addr) (f : Str) : Prop := W.findIn K (.ref C) f = some none
theorem NoAttr.taker {K : W.Frag} {C : Addr} {f : Str} (n : NoAttr K C f) : W.takerIn K C f = some none := by
  unfold W.takerIn
  rw [show W.findIn K (.ref C) f = some none from n]
  rfl
structure Meth (K : W.Frag) (C : Addr) (m : Str) (f : Addr) : Prop where
  at_ : W.findIn K (.ref C) m = some (some (.ref f))
  fn : W.isFn K (.ref f) = true
  kp : W.keepIn K (.ref f) = true
section
variable {X : Cx} {pins : List (Addr × Obj)} {σ : St} {H : Hp} {s : Shared} {a C dx : Addr} {fs : List (Str × V)} {f : Str} {v : V} {A : Around} {E : Value → Shared → Prop}
theorem getattr_ok {b : Bool} {Q : Value → Shared → Prop} (I : Inv X pins σ H s) (e : H a = some (.ins C dx fs)) (c : Cls X.K C) (n : NoAttr X.K C f) (l : fs.lookup f = some v)
    (h : ∀ u s', Inv X pins σ H s' → RelV v u → Q u s') : wpAny (model X.prog X.w) A (getAttr (.ref a) f b) Q E s := by
  obtain ⟨mA, O, r, _, _, _⟩ := ins_get I.hok e
  obtain ⟨u, hu, ru⟩ := RelO.some_of (v := v) (o := mA f) (by rw [← l]; exact r f)
  exact get_map I.kIn O (c.get f) c.hd n hu (handed_of ru) (h u _ (I.tok _) ru)
theorem getmeth_ok {m : Str} {g : Addr} {pl : Sem Bool} {Q : Value × List Value → Shared → Prop} (I : Inv X pins σ H s) (e : H a = some (.ins C dx fs)) (c : Cls X.K C) (k : Meth X.K C m g) (l : fs.lookup m = none)
    (h : Q (.ref g, [.ref a]) s) : wpAny (model X.prog X.w) A (getMethod (.ref a) m pl) Q E s := by
  obtain ⟨mA, O, r, _, _, _⟩ := ins_get I.hok e
  have hn : mA m = none := RelO.none_of (by rw [← l]; exact r m)
  exact get_meth I.kIn O (c.get m) k.at_ k.fn hn h
theorem setattr_ok {y : V} {u : Value} {Q : Unit → Shared → Prop} (I : Inv X pins σ H s) (e : H a = some (.ins C dx fs)) (c : Cls X.K C) (n : NoAttr X.K C f) (hl : fs.length < 1000) (ry : RelV y u)
    (h : ∀ s', Inv X pins σ (upd H a (.ins C dx (putF f y fs))) s' → Q () s') : wpAny (model X.prog X.w) A (setAttr (.ref a) f u) Q E s := by
  obtain ⟨mA, O, r, wi, _, ho⟩ := ins_get I.hok e
  have hz : (fs.map (·.1)).length ≤ sizeLine := by rw [List.length_map, sizeLine_eq]; omega
  refine set_map I.kIn O c.sa c.po n.taker c.hd wi hz fun h' O' sb => h _ ?_
  have hd : ∃ o, h'.get? dx = some o := let ⟨o, _, _, e', _⟩ := O'.ns; ⟨o, e'⟩
  refine I.write (x := a) (e := dx) (by rw [e]; exact True.intro) (.inr ho) (fun b q hb z => (sb.2 b hb).trans z) hd ?_
  refine ⟨by rw [upd_ne O.ne]; exact ho, ?_, O.ne, O'.obj, _, O'.ns, fun g => ?_, fun g hg => ?_⟩
  · have := length_putF f y fs; omega
  · show RelO ((putF f y fs).lookup g) (if g = f then some u else mA g)
    rw [lookup_putF]
    by_cases q : g = f
    · rw [if_pos q, if_pos q]; exact ry
    · rw [if_neg q, if_neg q]; exact r g
  · by_cases q : g = f
    · rw [q]; exact (keys_putF f y fs).1
    · refine (keys_putF f y fs).2 g (wi g fun z => hg ?_)
      show (if g = f then some u else mA g) = none
      rw [if_neg q]; exact z
theorem Inv.made (I : Inv X pins σ H s) : Inv X pins σ (upd (upd H s.heap.objs.size (.own (s.heap.objs.size + 1))) (s.heap.objs.size + 1) (.ins C s.heap.objs.size []))
    { s with heap := (s.heap.push W.emptyDict).push (W.instObj C s.heap.objs.size) } := by
  have e1 : (s.heap.push W.emptyDict).get? s.heap.objs.size = some W.emptyDict := Heap.get?_push_size s.heap rfl
  have e2 : ((s.heap.push W.emptyDict).push (W.instObj C s.heap.objs.size)).get? (s.heap.objs.size + 1) = some (W.instObj C s.heap.objs.size) := by
    have := Heap.get?_push_size (s.heap.push W.emptyDict) (o := W.instObj C s.heap.objs.size) rfl
    rwa [Heap.size_push] at this
  have e3 : (s.heap.push W.emptyDict).Ns s.heap.objs.size (fun _ => none) := ⟨W.emptyDict, #[], _, e1, rfl, (fun e he => absurd he (by simp)), fun _ => rfl⟩
  have I1 := I.laid (a := s.heap.objs.size) (o := .own (s.heap.objs.size + 1)) (h' := s.heap.push W.emptyDict) (t' := s.toks) (fun b u q => Heap.get?_push_of_some _ q) (Nat.le_refl _) ⟨_, e1⟩
  refine I1.laid (a := s.heap.objs.size + 1) (o := .ins C s.heap.objs.size []) (t' := s.toks) (fun b u q => Heap.get?_push_of_some _ q) (Nat.le_of_eq (Heap.size_push _ _)) ?_
  have ne : s.heap.objs.size ≠ s.heap.objs.size + 1 := Nat.ne_of_lt (Nat.lt_succ_self _)
  refine ⟨by rw [upd_ne ne, upd_same], Nat.zero_le _, ne, e2, fun _ => none, (Heap.Ns1.of_empty e3).at fun o q => Heap.get?_push_of_some _ q, fun _ => True.intro, fun y hy => absurd rfl hy⟩
theorem attr_of {prog : Program} {w : World} {env : Env} {e : Expr} {f : Str} {pos : Pos} {s : Shared} {Q : Value → Shared → Prop} (hb : attributeBase e f env (eval e env) = eval e env)
    (h : wpAny (model prog w) A (eval e env) (fun o s₁ => wpAny (model prog w) A (getAttr o f true) Q E s₁) E s) : wpAny (model prog w) A (eval (.Attribute e f pos) env) Q E s :=
  Attribute_any_ h (by rw [arm_eval_Attribute, hb])
end
noncomputable def tFld (K : W.Frag) (ta : TE) (f : Str) : TE := fun σ H Q => ta σ H fun x H1 => ∃ a C dx fs v, x = .ref a ∧ H1 a = some (.ins C dx fs) ∧ Cls K C ∧ NoAttr K C f ∧ fs.lookup f = some v ∧ Q v H1
noncomputable def sFld (K : W.Frag) (ta tv : TE) (f : Str) : TS := fun D σ H => tv σ H fun y H1 => ta σ H1 fun x H2 => ∃ a C dx fs, x = .ref a ∧ H2 a = some (.ins C dx fs) ∧ Cls K C ∧ NoAttr K C f ∧ fs.length < 1000 ∧
  D.nx σ (upd H2 a (.ins C dx (putF f y fs)))
section
variable {X : Cx} {o e value : Expr} {f : Str} {pos pos' tpos : Pos} {ta tv : TE}
theorem pe_fld (he : PE X e ta) (hb : attributeBase e f X.env (eval e X.env) = eval e X.env) : PE X (.Attribute e f pos) (tFld X.K ta f) := by
  intro pins s σ H Q I h
  refine attr_of hb (thn (he pins s σ H _ I h) fun u s1 ⟨x, H1, I1, rx, a, C, dx, fs, v, ex, ea, c, n, l, q⟩ => ?_)
  subst ex
  obtain rfl : u = Value.ref a := rx
  exact getattr_ok I1 ea c n l fun u' s2 I2 ru => ⟨v, H1, I2, ru, q⟩
theorem ps_fld (ha : PE X o ta) (hv : PE X value tv) (hs : swapsWith value (some (.Attribute o f pos')) pos.line X.env = pure false) : PS X (.Assign [.Attribute o f pos'] value pos) (sFld X.K ta tv f) := by
  intro pins s σ H D I h
  refine plainObj_wpAny_Assign_Attribute (thn (hv pins s σ H _ I h) fun u s1 ⟨y, H1, I1, ry, q⟩ => thn (ha pins s1 σ H1 _ I1 q) fun ov s2 ⟨x, H2, I2, rx, a, C, dx, fs, ex, ea, c, n, l, q2⟩ => ?_) hs
  subst ex
  obtain rfl : ov = Value.ref a := rx
  exact setattr_ok I2 ea c n l ry fun s3 I3 => ⟨σ, _, I3, q2⟩
end
section
variable {X : Cx} {pins : List (Addr × Obj)} {σ : St} {H : Hp} {s : Shared} {A : Around} {E : Value → Shared → Prop} {Q : Value → Shared → Prop} {c : Value} {b : Bool}
inductive TyOf (K : W.Frag) (H : Hp) : V → Value → Prop where
  | non : TyOf K H .non (.type "NoneType")
  | bl (x : Bool) : TyOf K H (.bl x) (.type "bool")
  | int (i : Int) : TyOf K H (.int i) (.type "int")
  | str (x : Str) : TyOf K H (.str x) (.type "str")
  | flt (x : UInt64) : TyOf K H (.flt x) (.type "float")
  | lst {a : Addr} {xs : List V} (e : H a = some (.lst xs)) : TyOf K H (.ref a) (.type "list")
  | frz {a : Addr} {o : Obj} {xs : List V} (e : H a = some (.frz o (.lst xs))) : TyOf K H (.ref a) (.type "list")
  | tup {a : Addr} {xs : List V} (e : H a = some (.tup xs)) : TyOf K H (.ref a) (.type "tuple")
  | dK {a : Addr} {kvs : List (Key × V)} (e : H a = some (.dK kvs)) : TyOf K H (.ref a) (.type "dict")
  | dT {a : Addr} {kvs : List (List Key × V)} (e : H a = some (.dT kvs)) : TyOf K H (.ref a) (.type "dict")
  | ins {a C dx : Addr} {fs : List (Str × V)} (e : H a = some (.ins C dx fs)) (cl : Cls K C) (ha : W.findIn K (.ref C) "__class__" = some (some (.builtin "object.__class__")))
      (hn : W.specialIn K (.builtin "object.__class__") "__get__" = some (some (.builtin "getset_descriptor.__get__"))) (htk : W.takesIn K (.builtin "object.__class__") = some true)
      (hm : W.mroIn K C (.type "object") = some true) : TyOf K H (.ref a) (.ref C)
theorem isinst_ok {x : V} {u t : Value} (I : Inv X pins σ H s) (rx : RelV x u) (ty : TyOf X.K H x t) (e : W.kitOne X.K t c = some b) (h : ∀ tk, Q (.bool b) { s with toks := tk }) :
    wpAny (model X.prog X.w) A (call (.builtin "isinstance") [u, c]) Q E s := by
  cases ty with
  | non => cases (show u = Value.none from rx); exact W.kia_one W.kitx_none I.kIn True.intro e (fun z => nomatch z) h
  | bl y => cases (show u = Value.bool y from rx); exact W.kia_one W.kitx_bool I.kIn True.intro e (fun z => nomatch z) h
  | int i => obtain ⟨t, q⟩ := (show ∃ t, u = Value.int i t from rx); cases q; exact W.kia_one W.kitx_int I.kIn True.intro e (fun z => nomatch z) h
  | str y => obtain ⟨t, q⟩ := (show ∃ t, u = Value.str y t from rx); cases q; exact W.kia_one W.kitx_str I.kIn True.intro e (fun z => nomatch z) h
  | flt y => obtain ⟨t, q⟩ := (show ∃ t, u = Value.float y t from rx); cases q; exact W.kia_one W.kitx_float I.kIn True.intro e (fun z => nomatch z) h
  | @lst a xs ea =>
    cases (show u = Value.ref a from rx)
    obtain ⟨_, _, n, _, h1⟩ := (show ObjOk X.prog X.w H s.heap a (.lst xs) from I.hok a _ ea)
    exact W.kia_one W.kitx_list I.kIn ⟨_, h1, rfl⟩ e (fun z => nomatch z) h
  | @frz a ob xs ea =>
    cases (show u = Value.ref a from rx)
    obtain ⟨_, _, _, n, _, h1⟩ := (show ObjOk X.prog X.w H s.heap a (.frz ob (.lst xs)) from I.hok a _ ea)
    exact W.kia_one W.kitx_list I.kIn ⟨_, h1, rfl⟩ e (fun z => nomatch z) h
  | @tup a xs ea =>
    cases (show u = Value.ref a from rx)
    obtain ⟨_, _, _, p⟩ := (show ObjOk X.prog X.w H s.heap a (.tup xs) from I.hok a _ ea)
    obtain ⟨o, h1, h2, _⟩ := p
    exact W.kia_one W.kitx_tuple I.kIn ⟨o, h1, h2⟩ e (fun z => nomatch z) h
  | @dK a kvs ea =>
    cases (show u = Value.ref a from rx)
    obtain ⟨_, _, vs, _, p⟩ := (show ObjOk X.prog X.w H s.heap a (.dK kvs) from I.hok a _ ea)
    obtain ⟨o, es, ep, h1, h2, _⟩ := p
    exact W.kia_one W.kitx_dict I.kIn ⟨o, h1, h2.1⟩ e (fun z => nomatch z) h
  | @dT a kvs ea =>
    cases (show u = Value.ref a from rx)
    obtain ⟨_, _, xs, _, o, es, ep, h1, h2, _⟩ := (show ObjOk X.prog X.w H s.heap a (.dT kvs) from I.hok a _ ea)
    exact W.kia_one W.kitx_dict I.kIn ⟨o, h1, h2.1⟩ e (fun z => nomatch z) h
  | @ins a C dx fs ea cl ha hn htk hm =>
    cases (show u = Value.ref a from rx)
    obtain ⟨mA, O, _⟩ := ins_get I.hok ea
    obtain ⟨od, J, _⟩ := O.look
    exact W.kia_one (W.kitx_own (cl.get _) cl.hd ha hn htk hm) I.kIn J e (fun z => nomatch z) h
end
end L2
namespace L2
open PySem PySem.Spec PyProof.Rows
structure Room (k : Nat) (A : Around) : Prop where
  hd : A.handled = none
  dp : A.depth + 3 * k + 5 < recursionLimit
  un : A.units + 16 * k + 200 < cLine
  gd : A.guards = some []
theorem Room.mono {j k : Nat} {A : Around} (r : Room k A) (h : j ≤ k) : Room j A := ⟨r.hd, by have := r.dp; omega, by have := r.un; omega, r.gd⟩
theorem Room.deeper {k : Nat} {A : Around} (r : Room (k + 1) A) (env : Env) : Room k (A.deeper env) :=
  ⟨r.hd, by have := r.dp; show A.depth + 1 + 3 * k + 5 < _; omega, by have := r.un; show A.units + 3 + 16 * k + 200 < _; omega, r.gd⟩
theorem Room.in1 {k : Nat} {A : Around} (r : Room (k + 1) A) : Room k A.in1 :=
  ⟨r.hd, by have := r.dp; show A.depth + 3 * k + 5 < _; omega, by have := r.un; show A.units + 1 + 16 * k + 200 < _; omega, r.gd⟩
theorem make_depth {A : Around} {C : Addr} {us : List Value} {kw : List (Str × Value)} : (A.under (.builtin "type.__call__" ⟨.ref C :: us, kw⟩)).depth = A.depth + 1 := by
  first | rfl | simp [Around.under, Code.weight, Code.isCreation, Code.isGuard, Code.isCaller, Code.frames, Code.isFrame, guardIds]
theorem make_units {A : Around} {C : Addr} {us : List Value} {kw : List (Str × Value)} : (A.under (.builtin "type.__call__" ⟨.ref C :: us, kw⟩)).units = A.units + 1 := by
  first | rfl | simp [Around.under, Code.cUnits, Code.frames, Code.isFrame]
theorem Room.make {k : Nat} {A : Around} (r : Room (k + 1) A) (C : Addr) (us : List Value) (kw : List (Str × Value)) : Room k (A.under (.builtin "type.__call__" ⟨.ref C :: us, kw⟩)) :=
  ⟨r.hd, by have := r.dp; rw [make_depth]; omega, by have := r.un; rw [make_units]; omega, by first | exact r.gd | (have := r.gd; simpa [Around.under, Code.isGuard, guardIds] using this)⟩
theorem Room.depth {k : Nat} {A : Around} (r : Room k A) : A.depth < recursionLimit := by have := r.dp; omega
theorem Room.units {k : Nat} {A : Around} (r : Room k A) : A.units + 64 < cLine := by have := r.un; omega
noncomputable def tNil : TA := fun _ H Q => Q [] H
noncomputable def tCons (ta : TE) (tr : TA) : TA := fun σ H Q => ta σ H fun x H1 => tr σ H1 fun xs H2 => Q (x :: xs) H2
section
variable {X : Cx} {e : Expr} {es : List Expr} {te : TE} {t : TA} {pos : Pos}
theorem pa_nil : PA X [] tNil := fun _ _ _ _ H Q I h => Calls.spliced_nil ⟨[], H, I, .nil, h⟩
theorem pa_cons (ha : PE X e te) (hr : PA X es t) (hs : starEach (e :: es) X.env = (false, eval e X.env) :: starEach es X.env := by rfl) : PA X (e :: es) (tCons te t) := by
  intro pos pins s σ H Q I h
  rw [hs]
  show wpAny _ _ (spliced ((false, eval e X.env) :: backTo pos (starEach es X.env))) _ _ s
  refine Calls.spliced_cons (thn (ha pins s σ H _ I h) fun u s1 ⟨x, H1, I1, r1, q1⟩ => ?_)
  exact thn (hr pos pins s1 σ H1 _ I1 q1) fun us s2 ⟨xs, H2, I2, r2, q2⟩ => ⟨x :: xs, H2, I2, .cons r1 r2, q2⟩
noncomputable def tTup (t : TA) : TE := fun σ H Q => t σ H fun xs H1 => xs.length ≤ sizeLine ∧ ∀ p, H1 p = none → Q (.ref p) (upd H1 p (.tup xs))
noncomputable def tLst (t : TA) : TE := fun σ H Q => t σ H fun xs H1 => xs.length ≤ sizeLine ∧ ∀ p, H1 p = none → Q (.ref p) (upd H1 p (.lst xs))
theorem pe_tup {x1} (h : PA X es t) : PE X (.Tuple es x1 pos) (tTup t) := by
  intro pins s σ H Q I hq
  refine wpAny_Tuple_spliced (thn (h pos pins s σ H _ I hq) fun us s1 ⟨xs, H1, I1, r, z, q⟩ => ⟨by rw [← r.length]; exact z, ?_⟩)
  have hf : H1 s1.heap.objs.size = none := I1.hok.fresh (Nat.le_refl _)
  refine ⟨.ref s1.heap.objs.size, upd H1 s1.heap.objs.size (.tup xs), I1.laid (t' := s1.toks) (fun b u e => Heap.get?_push_of_some _ e) (Nat.le_refl _) ?_, rfl, q _ hf⟩
  exact ⟨z, us, r, ⟨_, Heap.get?_push_size _ rfl, rfl, _, rfl⟩⟩
theorem pe_lst (h : PA X es t) : PE X (.List es pos) (tLst t) := by
  intro pins s σ H Q I hq
  refine wpAny_List_spliced (thn (h pos pins s σ H _ I hq) fun us s1 ⟨xs, H1, I1, r, z, q⟩ => ⟨by rw [← r.length]; exact z, ?_⟩)
  have hf : H1 s1.heap.objs.size = none := I1.hok.fresh (Nat.le_refl _)
  refine ⟨.ref s1.heap.objs.size, upd H1 s1.heap.objs.size (.lst xs), I1.laid (t' := s1.toks) (fun b u e => Heap.get?_push_of_some _ e) (Nat.le_refl _) ?_, rfl, q _ hf⟩
  exact ⟨z, us, 0, r, Heap.get?_push_size _ rfl⟩
end
noncomputable abbrev Sp := List V → Hp → VK → XK → Prop
noncomputable abbrev CXT := List Env → Hp → Shared → XK → Value → Shared → Prop
structure Env0 (P : Program) (w : World) (K : W.Frag) (mg : Str → Option Value) (base : Heap) (A : Around) (outer : List Env) (s : Shared) (H : Hp) : Prop where
  frames : A.frames = some outer
  mod : Mod K mg base
  bs : ∀ b o, base.get? b = some o → s.heap.get? b = some o ∧ H b = none
  bsz : base.objs.size ≤ s.heap.objs.size
  funs : s.heap.FunFrames base outer
  frf : ∀ b ∈ frs outer, H b = none
  hok : HOk P w H s.heap
  bare : AllBare s.gens
noncomputable def CE (outer : List Env) (P : Program) (w : World) (H : Hp) (s : Shared) (Q : VK) (u : Value) (s' : Shared) : Prop :=
  ∃ v H', s'.os = s.os ∧ AllBare s'.gens ∧ Un (frs outer) [] H H' s.heap s'.heap ∧ HOk P w H' s'.heap ∧ RelV v u ∧ Q v H'
noncomputable def CR (CX : CXT) (outer : List Env) (P : Program) (w : World) (H : Hp) (s : Shared) (Q : VK) (E : XK) (r : Result) (s' : Shared) : Prop :=
  match r with
  | .ok (.ret u) => CE outer P w H s Q u s'
  | .ok _ => False
  | .error e => CX outer H s E e s'
structure FnOk (P : Program) (w : World) (K : W.Frag) (mg : Str → Option Value) (base : Heap) (CX : CXT) (k : Nat) (f : Addr) (fd : FuncData) (ps : List Str) (sp : Sp) : Prop where
  len : ∀ vs H Q E, sp vs H Q E → vs.length = ps.length
  run : ∀ (A : Around) (outer : List Env) (s : Shared) (H : Hp) (args : Args) (us : List Value) (vs : List V) (Q : VK) (E : XK), Room k A → Env0 P w K mg base A outer s H → BindsTo s fd args (ps.zip us) → Vals vs us → sp vs H Q E →
    codeAny (model P w) A (.call (.ref f) args) (CR CX outer P w H s Q E) s
theorem FnOk.imp {P : Program} {w : World} {K : W.Frag} {mg : Str → Option Value} {base : Heap} {CX : CXT} {k : Nat} {f : Addr} {fd : FuncData} {ps : List Str} {sp sp' : Sp} (F : FnOk P w K mg base CX k f fd ps sp)
    (h : ∀ vs H Q E, sp' vs H Q E → sp vs H Q E) : FnOk P w K mg base CX k f fd ps sp' :=
  ⟨fun vs H Q E q => F.len vs H Q E (h _ _ _ _ q), fun A outer s H args us vs Q E hr he hb hv hs => F.run A outer s H args us vs Q E hr he hb hv (h _ _ _ _ hs)⟩
theorem Env0.make {P : Program} {w : World} {K : W.Frag} {mg : Str → Option Value} {base : Heap} {A : Around} {outer : List Env} {s : Shared} {H : Hp} (e : Env0 P w K mg base A outer s H) (C : Addr) (us : List Value) (kw : List (Str × Value)) :
    Env0 P w K mg base (A.under (.builtin "type.__call__" ⟨.ref C :: us, kw⟩)) outer s H := ⟨by first | exact e.frames | (simpa [Around.under, Code.envs, Code.isFrame, pushEnvs] using e.frames), e.mod, e.bs, e.bsz, e.funs, e.frf, e.hok, e.bare⟩
theorem Env0.in1 {P : Program} {w : World} {K : W.Frag} {mg : Str → Option Value} {base : Heap} {A : Around} {outer : List Env} {s : Shared} {H : Hp} (e : Env0 P w K mg base A outer s H) :
    Env0 P w K mg base A.in1 outer s H := ⟨e.frames, e.mod, e.bs, e.bsz, e.funs, e.frf, e.hok, e.bare⟩
section
variable {X : Cx} {pins : List (Addr × Obj)} {σ : St} {H : Hp} {s s' : Shared}
theorem Inv.env0 (I : Inv X pins σ H s) : Env0 X.prog X.w X.K X.mg X.base X.A X.stack s H :=
  ⟨I.ok.frames, I.ok.mod, I.bs, Nat.le_trans I.ok.bsz I.sz, I.stack, I.stkFree, I.hok, I.bare⟩
theorem Inv.after {Q : VK} {u : Value} (I : Inv X pins σ H s) (h : CE X.stack X.prog X.w H s Q u s') : EP X pins σ Q u s' := by
  obtain ⟨v, H', os, bare, un, hok, r, q⟩ := h
  obtain ⟨hh, g, d, t, os'⟩ := s'
  obtain rfl : os' = s.os := os
  exact ⟨v, H', I.call (h' := hh) (g' := g) (d' := d) (t' := t) (ch := []) un hok bare (fun b z => absurd z (by simp)), r, q⟩
end
noncomputable def tCall (sp : Sp) (dvs : List V) (E : XK) (t : TA) : TE := fun σ H Q => t σ H fun vs H1 => sp (vs ++ dvs) H1 Q E
noncomputable def tMeth (C : Addr) (m : Str) (sp : Sp) (dvs : List V) (E : XK) (ta : TE) (t : TA) : TE := fun σ H Q => ta σ H fun x H1 => ∃ a dx fs, x = .ref a ∧ H1 a = some (.ins C dx fs) ∧ fs.lookup m = none ∧
  t σ H1 fun vs H2 => sp (x :: (vs ++ dvs)) H2 Q E
noncomputable def tMake (C : Addr) (sp : Sp) (dvs : List V) (E : XK) (t : TA) : TE := fun σ H Q => t σ H fun vs H1 => ∀ x dx, H1 x = none → H1 dx = none → dx ≠ x →
  sp (.ref x :: (vs ++ dvs)) (upd (upd H1 dx (.own x)) x (.ins C dx [])) (fun v H2 => v = .non ∧ Q (.ref x) H2) E
noncomputable def Binds (K : W.Frag) (fd : FuncData) (ps : List Str) (ds : List Value) : Prop :=
  ∀ (s : Shared) (us : List Value), K.In s.heap → (us ++ ds).length = ps.length → BindsTo s fd ⟨us, []⟩ (ps.zip (us ++ ds))
theorem Binds.all {K : W.Frag} {fd : FuncData} {ps : List Str} (h : ∀ us : List Value, us.length = ps.length → bindArgs fd ⟨us, []⟩ = pure (ps.zip us)) : Binds K fd ps [] := fun s us _ hl => by
  rw [List.append_nil] at hl ⊢
  exact .of_eq (h us hl)
noncomputable def Passes (CX : CXT) (X : Cx) (E : XK) : Prop := ∀ (pins : List (Addr × Obj)) (σ : St) (H : Hp) (s : Shared) (e : Value) (s' : Shared), Inv X pins σ H s → CX X.stack H s E e s' → X.xe e s'
section
variable {X : Cx} {CX : CXT} {k : Nat} {f C : Addr} {fd : FuncData} {ps : List Str} {sp : Sp} {dvs : List V} {ds : List Value} {E : XK} {x m : Str} {p pos apos : Pos} {e o : Expr} {es : List Expr} {ta : TE} {t : TA}
theorem run_fn {pins : List (Addr × Obj)} {σ : St} {H : Hp} {s : Shared} {Q : VK} {us : List Value} {vs : List V} (F : FnOk X.prog X.w X.K X.mg X.base CX k f fd ps sp) (hr : Room k X.A) (hb : Binds X.K fd ps ds) (hd : Vals dvs ds) (hx : Passes CX X E)
    (I : Inv X pins σ H s) (r : Vals vs us) (h : sp (vs ++ dvs) H Q E) : wpAny (model X.prog X.w) X.A (call (.ref f) us) (EP X pins σ Q) X.xe s := by
  have r2 : Vals (vs ++ dvs) (us ++ ds) := r.append hd
  have hl : (us ++ ds).length = ps.length := by rw [← r2.length]; exact F.len _ _ _ _ h
  refine wpAny_call (codeAny_mono (F.run X.A X.stack s H ⟨us, []⟩ (us ++ ds) (vs ++ dvs) Q E hr I.env0 (hb s us I.kIn hl) r2 h) fun r s' hq => ?_)
  cases r with
  | error e => exact hx pins σ H s e s' I hq
  | ok fl =>
    cases fl with
    | ret u => exact I.after hq
    | next => exact False.elim hq
    | brk => exact False.elim hq
    | cont => exact False.elim hq
theorem pe_call (F : FnOk X.prog X.w X.K X.mg X.base CX k f fd ps sp) (hr : Room k X.A) (hg : Gl X x) (hm : X.mg x = some (.ref f)) (hk : W.keepIn X.K (.ref f) = true) (hb : Binds X.K fd ps ds) (hd : Vals dvs ds) (hx : Passes CX X E)
    (ha : PA X (e :: es) t) (hdb : (x == ("__debug__" : Str)) = false := by decide) (he : starEach (e :: es) X.env = (false, eval e X.env) :: starEach es X.env := by rfl) (hpl : (backTo pos (starEach es X.env)).any (·.1) = false := by rfl) :
    PE X (.Call (.Name x p) (e :: es) [] pos) (tCall sp dvs E t) := by
  intro pins s σ H Q I h
  refine wpAny_Call_Name_kw (ld_glob I hg hm ?_ hdb)
  refine W.callWith_K (h₀ := X.base) I.ok.mod.kin hk (thn (ha pos pins s σ H _ I h) fun us s1 ⟨vs, H1, I1, r, q⟩ => ⟨I1.kIn, ?_⟩) he hpl
  exact run_fn F hr hb hd hx I1 r q
theorem pe_meth {pl : Sem Bool} (he : PE X o ta) (c : Cls X.K C) (hm : Meth X.K C m f) (F : FnOk X.prog X.w X.K X.mg X.base CX k f fd ps sp) (hr : Room k X.A) (hb : Binds X.K fd ps ds) (hd : Vals dvs ds) (hx : Passes CX X E) (ha : PA X (e :: es) t)
    (hst : starEach (e :: es) X.env = (false, eval e X.env) :: starEach es X.env := by rfl) (hpl : (backTo pos (starEach es X.env)).any (·.1) = false := by rfl)
    (ht : eval (.Call (.Attribute o m apos) (e :: es) [] pos) X.env = (do
      let ov ← eval o X.env
      standAt apos.atName
      let (f, first) ← holding [ov] (getMethod ov m pl)
      callWith pos f first (backTo pos (starEach (e :: es) X.env)) (backToKw pos (keywordEach [] X.env))) := by rfl) :
    PE X (.Call (.Attribute o m apos) (e :: es) [] pos) (tMeth C m sp dvs E ta t) := by
  intro pins s σ H Q I h
  refine W.methodCall_KW (pl := pl) (thn (he pins s σ H _ I h) fun u s1 ⟨x, H1, I1, rx, a, dx, fs, ex, ea, l, q⟩ => ?_) ht
  subst ex
  obtain rfl : u = Value.ref a := rx
  refine getmeth_ok I1 ea c hm l ?_
  refine W.callWith_K (first := [.ref a]) (h₀ := X.base) I.ok.mod.kin hm.kp (thn (ha pos pins s1 σ H1 _ I1 q) fun us s2 ⟨vs, H2, I2, r, q2⟩ => ⟨I2.kIn, ?_⟩) hst hpl
  exact run_fn (us := .ref a :: us) (vs := .ref a :: vs) F hr hb hd hx I2 (.cons rfl r) q2
structure Mk (K : W.Frag) (C f : Addr) : Prop where
  makes : W.makesIn K C = true
  init : W.findIn K (.ref C) "__init__" = some (some (.ref f))
  fn : W.isFn K (.ref f) = true
  kp : W.keepIn K (.ref C) = true
theorem run_make {pins : List (Addr × Obj)} {σ : St} {H : Hp} {s : Shared} {Q : VK} {us : List Value} {vs : List V} (M : Mk X.K C f) (F : FnOk X.prog X.w X.K X.mg X.base CX k f fd ps sp) (hr : Room (k + 1) X.A) (hb : Binds X.K fd ps ds) (hd : Vals dvs ds)
    (hx : Passes CX X E) (I : Inv X pins σ H s) (r : Vals vs us)
    (h : ∀ x dx, H x = none → H dx = none → dx ≠ x → sp (.ref x :: (vs ++ dvs)) (upd (upd H dx (.own x)) x (.ins C dx [])) (fun v H2 => v = .non ∧ Q (.ref x) H2) E) :
    wpAny (model X.prog X.w) X.A (call (.ref C) us) (EP X pins σ Q) X.xe s := by
  have hq := h (s.heap.objs.size + 1) s.heap.objs.size (I.hok.fresh (Nat.le_succ _)) (I.hok.fresh (Nat.le_refl _)) (Nat.ne_of_lt (Nat.lt_succ_self _))
  have I2 := Inv.made (C := C) I
  have r2 : Vals (V.ref (s.heap.objs.size + 1) :: (vs ++ dvs)) (Value.ref (s.heap.objs.size + 1) :: (us ++ ds)) := .cons rfl (r.append hd)
  have hl : (Value.ref (s.heap.objs.size + 1) :: us ++ ds).length = ps.length := by
    have e := r2.length
    rw [F.len _ _ _ _ hq] at e
    exact e.symm
  refine wpAny_call (make_map (f := f) I.kIn M.makes M.init (beq_iff_eq.mp M.fn) (codeAny_mono (F.run _ X.stack _ _ ⟨Value.ref (s.heap.objs.size + 1) :: us, []⟩ (Value.ref (s.heap.objs.size + 1) :: (us ++ ds)) _ _ E (hr.make C us [])
    (I2.env0.make C us []) (hb _ (Value.ref (s.heap.objs.size + 1) :: us) I2.kIn hl) r2 hq) fun r s' hq' => ?_))
  cases r with
  | error e => exact hx pins σ _ _ e s' I2 hq'
  | ok fl =>
    cases fl with
    | ret u =>
      obtain ⟨v, H', I3, rv, ev, q3⟩ := I2.after hq'
      subst ev
      exact ⟨rv, ⟨V.ref (s.heap.objs.size + 1), H', I3, rfl, q3⟩⟩
    | next => exact False.elim hq'
    | brk => exact False.elim hq'
    | cont => exact False.elim hq'
theorem pe_make (M : Mk X.K C f) (F : FnOk X.prog X.w X.K X.mg X.base CX k f fd ps sp) (hr : Room (k + 1) X.A) (hg : Gl X x) (hm : X.mg x = some (.ref C)) (hb : Binds X.K fd ps ds) (hd : Vals dvs ds) (hx : Passes CX X E)
    (ha : PA X (e :: es) t) (hdb : (x == ("__debug__" : Str)) = false := by decide) (he : starEach (e :: es) X.env = (false, eval e X.env) :: starEach es X.env := by rfl) (hpl : (backTo pos (starEach es X.env)).any (·.1) = false := by rfl) :
    PE X (.Call (.Name x p) (e :: es) [] pos) (tMake C sp dvs E t) := by
  intro pins s σ H Q I h
  refine wpAny_Call_Name_kw (ld_glob I hg hm ?_ hdb)
  refine W.callWith_K (h₀ := X.base) I.ok.mod.kin M.kp (thn (ha pos pins s σ H _ I h) fun us s1 ⟨vs, H1, I1, r, q⟩ => ⟨I1.kIn, ?_⟩) he hpl
  exact run_make M F hr hb hd hx I1 r q
end
section
variable {X : Cx} {CX : CXT} {k : Nat} {f C : Addr} {fd : FuncData} {ps ks : List Str} {sp : Sp} {E : XK} {x m : Str} {p pos apos kpos : Pos} {e o : Expr} {es : List Expr} {kws : List Keyword} {te ta : TE} {t tk : TA} {nm : Option Str}
variable {g : List Value → List Value → List Value} {gV : List V → List V → List V}
end
structure FnScope (N P : List Str) (sc : Scope) : Prop where
  kind : sc.kind = .function
  co : sc.isCoroutine = false
  gen : sc.isGenerator = false
  nd : N.Nodup
  pre : N.take P.length = P
  par : ∀ x ∈ P, sc.names.lookup x = some .local ∨ sc.names.lookup x = some .cell
  nofree : ∀ y ∈ sc.names, y.2 ≠ .free
theorem bindL_out {kindOf : Str → Option NameKind} {x : Str} : ∀ {binds : List (Str × Value)} {m : Str → Option Value}, (∀ v, (x, v) ∉ binds) → bindL kindOf binds m x = m x
  | [], _, _ => rfl
  | (n, v) :: r, m, h => by
    unfold bindL
    rw [bindL_out fun w hw => h w (List.mem_cons_of_mem _ hw)]
    split
    · have : x ≠ n := by rintro rfl; exact h v List.mem_cons_self
      simp [this]
    · rfl
theorem bindC_out {kindOf : Str → Option NameKind} {x : Str} : ∀ {binds : List (Str × Value)} {m : Str → Option Value}, (∀ v, (x, v) ∉ binds) → bindC kindOf binds m x = m x
  | [], _, _ => rfl
  | (n, v) :: r, m, h => by
    unfold bindC
    rw [bindC_out fun w hw => h w (List.mem_cons_of_mem _ hw)]
    split
    · rfl
    · have : x ≠ n := by rintro rfl; exact h v List.mem_cons_self
      simp [this]
theorem bindL_get {kindOf : Str → Option NameKind} {x : Str} {v : Value} : ∀ {P : List Str} {vs : List Value} {i : Nat} {m : Str → Option Value}, P.Nodup → P[i]? = some x → vs[i]? = some v → kindOf x = some .local →
    bindL kindOf (P.zip vs) m x = some v
  | [], _, _, _, _, h, _, _ => by simp at h
  | _ :: _, [], _, _, _, _, h, _ => by simp at h
  | p :: P, w :: vs, 0, m, nd, h1, h2, hk => by
    simp at h1 h2; subst h1; subst h2
    show bindL kindOf ((p, w) :: P.zip vs) m p = _
    unfold bindL
    rw [bindL_out fun v hv => (List.nodup_cons.mp nd).1 (List.of_mem_zip hv).1, if_pos hk]
    simp
  | p :: P, w :: vs, i + 1, m, nd, h1, h2, hk => by
    show bindL kindOf ((p, w) :: P.zip vs) m x = _
    unfold bindL
    exact bindL_get (i := i) (List.nodup_cons.mp nd).2 (by simpa using h1) (by simpa using h2) hk
theorem bindC_get {kindOf : Str → Option NameKind} {x : Str} {v : Value} : ∀ {P : List Str} {vs : List Value} {i : Nat} {m : Str → Option Value}, P.Nodup → P[i]? = some x → vs[i]? = some v → kindOf x ≠ some .local →
    bindC kindOf (P.zip vs) m x = some v
  | [], _, _, _, _, h, _, _ => by simp at h
  | _ :: _, [], _, _, _, _, h, _ => by simp at h
  | p :: P, w :: vs, 0, m, nd, h1, h2, hk => by
    simp at h1 h2; subst h1; subst h2
    show bindC kindOf ((p, w) :: P.zip vs) m p = _
    unfold bindC
    rw [bindC_out fun v hv => (List.nodup_cons.mp nd).1 (List.of_mem_zip hv).1, if_neg hk]
    simp
  | p :: P, w :: vs, i + 1, m, nd, h1, h2, hk => by
    show bindC kindOf ((p, w) :: P.zip vs) m x = _
    unfold bindC
    exact bindC_get (i := i) (List.nodup_cons.mp nd).2 (by simpa using h1) (by simpa using h2) hk
noncomputable def start (N : List Str) (vs : List V) : St := vs.map some ++ List.replicate (N.length - vs.length) none
noncomputable def cxOf (CX : CXT) (P : Program) (w : World) (K : W.Frag) (mg : Str → Option Value) (base : Heap) (N : List Str) (qual : Str) (scope : Scope) (f : Addr) (cd : Value) (A : Around) (outer : List Env) (s : Shared) (H : Hp) (E : XK) : Cx where
  prog := P
  w := w
  K := K
  mg := mg
  base := base
  A := A.deeper (envOfC qual scope s.heap.objs.size f cd)
  N := N
  s₀ := s
  H₀ := H
  env := envOfC qual scope s.heap.objs.size f cd
  outer := outer
  stack := envOfC qual scope s.heap.objs.size f cd :: outer
  ex := []
  calm := true
  fn := fun _ => true
  pn := []
  xe := fun e s' => wpAny (model P w) (A.deeper (envOfC qual scope s.heap.objs.size f cd)) (leaving (envOfC qual scope s.heap.objs.size f cd) e) (fun _ s'' => CX outer H s E e s'') (fun e' s'' => CX outer H s E e' s'') s'
theorem cell_has {sc : Scope} {n : Nat} {x : Str} (h : sc.names.lookup x = some .cell) : ∃ c, (cellsFrom n sc.names []).lookup x = some c := by
  have q := W.cellsFrom_some sc.names n [] (.inl h)
  exact Option.isSome_iff_exists.mp q
theorem inv_start {CX : CXT} {P : Program} {w : World} {K : W.Frag} {mg : Str → Option Value} {base : Heap} {N ps : List Str} {qual : Str} {scope : Scope} {f : Addr} {cd : Value} {A : Around} {outer : List Env} {s s1 : Shared} {H : Hp} {E : XK} {us : List Value} {vs : List V}
    (S : FnScope N ps scope) (hd : A.handled = none) (e0 : Env0 P w K mg base A outer s H) (hl : vs.length = ps.length) (r : Vals vs us)
    (x : InCallC s s.heap.objs.size (bindL (envOfC qual scope s.heap.objs.size f cd).kindOf (ps.zip us) fun _ => none) (cellsFrom (s.heap.objs.size + 1) scope.names []) (bindC (envOfC qual scope s.heap.objs.size f cd).kindOf (ps.zip us) fun _ => none) s1) :
    Inv (cxOf CX P w K mg base N qual scope f cd A outer s H E) [] (start N vs) H s1 := by
  have hpl : ps.length ≤ N.length := by have := congrArg List.length S.pre; rw [List.length_take] at this; omega
  obtain ⟨h1, tk, rfl, hk⟩ := x.done
  have noA : ∀ b : Addr, b ∉ (cxOf CX P w K mg base N qual scope f cd A outer s H E).ex := fun b z => absurd (show b ∈ ([] : List Addr) from z) (by simp)
  refine ⟨⟨e0.mod, S.kind, rfl, rfl, Nat.le_refl _, fun y z c h1 h2 => ?_, fun y hy => ?_, fun y c _ h => ?_, fun _ => hd, Around.frames_deeper e0.frames, .inr ⟨rfl, rfl⟩, fun b z => absurd z (noA b), e0.bs, e0.bsz, fun b _ _ => noA b, fun b z => absurd z (noA b), e0.funs, e0.frf⟩,
    rfl, e0.bare, Un.kept hk, ⟨_, x.toInCall.ns, fun i y v h1 h2 h3 => ?_⟩, fun y c h => ⟨_, x.cell y c h⟩, e0.hok.fresh (Nat.le_refl _), fun y c h => ?_, fun p hp => absurd (show p ∈ ([] : List (Addr × Obj)) from hp) (by simp), e0.hok.kept hk, ?_⟩
  · exact name_of_addr x.apart (PySem.mem_of_lookup h1) (PySem.mem_of_lookup h2)
  · have hy : scope.names.lookup y = some .cell ∨ scope.names.lookup y = some .free := hy
    rcases hy with hy | hy
    · exact cell_has hy
    · exact absurd rfl (S.nofree _ (PySem.mem_of_lookup hy))
  · exact Nat.le_of_lt (x.above y c (PySem.mem_of_lookup h))
  · have hi : i < vs.length := by
      unfold start at h2
      by_cases hi : i < vs.length
      · exact hi
      · rw [List.getElem?_append_right (by simpa using hi)] at h2
        rw [List.getElem?_replicate] at h2
        split at h2 <;> cases h2
    have ha : vs[i]? = some v := by
      unfold start at h2
      rw [List.getElem?_append_left (by simpa using hi), List.getElem?_map] at h2
      cases e : vs[i]? with
      | none => rw [e] at h2; cases h2
      | some a => rw [e] at h2; cases h2; rfl
    obtain ⟨u, hu, rv⟩ := r.get ha
    have hp : ps[i]? = some y := by
      rw [← S.pre, List.getElem?_take_of_lt (by omega)]; exact h1
    have ndP : ps.Nodup := by rw [← S.pre]; exact S.nd.sublist (List.take_sublist _ _)
    refine ⟨u, rv, ?_⟩
    rcases S.par y (List.mem_of_getElem? hp) with k | k
    · exact .inl ⟨k, bindL_get ndP hp hu k⟩
    · obtain ⟨c, e⟩ := cell_has (n := s.heap.objs.size + 1) k
      refine .inr ⟨.inl k, c, e, ?_⟩
      have q := x.cell y c e
      rw [bindC_get ndP hp hu (by show scope.names.lookup y ≠ _; rw [k]; decide)] at q
      exact q
  · exact e0.hok.fresh (Nat.le_of_lt (x.above y c (PySem.mem_of_lookup h)))
  · unfold start
    show _ = N.length
    rw [List.length_append, List.length_map, List.length_replicate]
    omega
theorem fn_of {CX : CXT} {P : Program} {w : World} {K : W.Frag} {mg : Str → Option Value} {base : Heap} {k : Nat} {f : Addr} {name qual : Str} {params : Arguments} {body : List Stmt} {scope : Scope} {dV kV doc pm cdv ct oc : Value} {an od : Option Addr}
    {osl : Array (Option Value)} {N ps : List Str} {sp : Sp} (lk : K.lookup f = some ⟨oc, od, .func (W.fnOf name qual params body scope dV kV doc pm an cdv ct), osl⟩) (hcd : W.codeIn K cdv qual = true) (S : FnScope N ps scope)
    (len : ∀ vs H Q E, sp vs H Q E → vs.length = ps.length)
    (hbody : ∀ (A : Around) (outer : List Env) (s : Shared) (H : Hp) (vs : List V) (Q : VK) (E : XK), Room k (A.deeper (envOfC qual scope s.heap.objs.size f cdv)) → sp vs H Q E →
      ∃ t, PSs (cxOf CX P w K mg base N qual scope f cdv A outer s H E) body t ∧ t { nx := fun _ H' => Q .non H', rt := Q } (start N vs) H) :
    FnOk P w K mg base CX (k + 1) f (W.fnOf name qual params body scope dV kV doc pm an cdv ct) ps sp := by
  refine ⟨len, fun A outer s H args us vs Q E hr e0 hb r hsp => ?_⟩
  have hl := len _ _ _ _ hsp
  have KX : K.In s.heap := e0.mod.kin.keeps fun b o e => (e0.bs b o e).1
  have lim : s.heap.NoLimit := e0.mod.nolimit.keeps fun b o e => (e0.bs b o e).1
  have hkind : ∀ y ∈ ps.zip us, scope.names.lookup y.1 = some .local ∨ (scope.names.lookup y.1 = some .cell ∧ ((cellsFrom (s.heap.objs.size + 1) scope.names []).lookup y.1).isSome = true) := fun ⟨n, v⟩ hy => by
    rcases S.par n (List.of_mem_zip hy).1 with q | q
    · exact .inl q
    · exact .inr ⟨q, W.cellsFrom_some _ _ _ (.inl q)⟩
  refine codeAny_call_function hr.depth (KX _ _ lk) rfl S.co S.gen rfl (W.codeRec_of KX hcd) (hb _ _ _ _ ?_)
  refine wpAny_newFunctionEnv_cells S.kind hkind fun env he s1 x => ?_
  subst he
  refine ⟨lim.keeps x.toInCall.keep, codeAny_func ?_⟩
  obtain ⟨t, ht, hq⟩ := hbody A outer s H vs Q E (hr.deeper _) hsp
  have I : Inv (cxOf CX P w K mg base N qual scope f cdv A outer s H E) [] (start N vs) H s1 := inv_start S hr.hd e0 hl r x
  refine wpAny_mono (ht [] s1 (start N vs) H _ I hq) (fun fl s' hs => ?_) fun e s' hs => hs
  have fin : ∀ {σ' : St} {H' : Hp} {v : V} {u : Value}, Inv (cxOf CX P w K mg base N qual scope f cdv A outer s H E) [] σ' H' s' → RelV v u → Q v H' → CE outer P w H s Q u s' :=
    fun {σ' H' v u} J rv q => ⟨v, H', J.os, J.bare, J.base, J.hok, rv, q⟩
  cases fl with
  | ret u =>
    obtain ⟨v, σ', H', J, rv, q⟩ := hs
    exact fin J rv q
  | next =>
    obtain ⟨σ', H', J, q⟩ := hs
    exact fin (v := V.non) (u := Value.none) J rfl q
  | brk =>
    obtain ⟨_, _, _, q⟩ := hs
    exact False.elim q
  | cont =>
    obtain ⟨_, _, _, q⟩ := hs
    exact False.elim q
end L2
namespace L2
open PySem PySem.Spec PyProof.Rows
section
variable {X : Cx} {x : Str} {p pos : Pos} {e : Expr} {es : List Expr} {t : TA} {id T : String} {r : List V → Hp → VK → Prop}
noncomputable def tCB (r : List V → Hp → VK → Prop) (t : TA) : TE := fun σ H Q => t σ H fun vs H1 => r vs H1 Q
theorem pe_callB (hc : CallR X (.builtin id) r) (hg : Gl X x) (hm : X.mg x = none) (hv : bootBuiltins x = some (.builtin id)) (ha : PA X (e :: es) t) (hn : x ≠ "__name__" := by decide) (hdb : (x == ("__debug__" : Str)) = false := by decide)
    (he : starEach (e :: es) X.env = (false, eval e X.env) :: starEach es X.env := by rfl) (hpl : (backTo pos (starEach es X.env)).any (·.1) = false := by rfl) : PE X (.Call (.Name x p) (e :: es) [] pos) (tCB r t) := by
  intro pins s σ H Q I h
  refine wpAny_Call_Name_kw (ld_blt I hg hm hv ?_ hn hdb)
  exact PyProof.Rows.callWith_builtin1 (thn (ha pos pins s σ H _ I h) fun us s1 ⟨vs, H1, I1, r1, q1⟩ => hc pins s1 σ H1 vs us Q I1 r1 q1) he hpl
theorem pe_callTy (hc : CallR X (.type T) r) (hg : Gl X x) (hm : X.mg x = none) (hv : bootBuiltins x = some (.type T)) (ha : PA X (e :: es) t) (hn : x ≠ "__name__" := by decide) (hdb : (x == ("__debug__" : Str)) = false := by decide)
    (he : starEach (e :: es) X.env = (false, eval e X.env) :: starEach es X.env := by rfl) (hpl : (backTo pos (starEach es X.env)).any (·.1) = false := by rfl) : PE X (.Call (.Name x p) (e :: es) [] pos) (tCB r t) := by
  intro pins s σ H Q I h
  refine wpAny_Call_Name_kw (ld_blt I hg hm hv ?_ hn hdb)
  exact PyProof.Rows.callWith_type1 (thn (ha pos pins s σ H _ I h) fun us s1 ⟨vs, H1, I1, r1, q1⟩ => hc pins s1 σ H1 vs us Q I1 r1 q1) he hpl
end
end L2
namespace HT
open PySem PyProof.Rows
section
open PySem.SeqAt
open PySem.AutoSeq1 (wpAny_loadPart')
open PySem.MeetsSeq PySem.MeetsSeq2 PySem.MeetsSeq3
end
section
variable {prog : Program} {w : World} {A : Around} {E : Value → Shared → Prop} {s : Shared}
theorem cat_tup {t b : Addr} {vs ws : List Value} {Q : Value → Shared → Prop} (ht : IsTup s.heap t vs.toArray) (hb : IsTup s.heap b ws.toArray) (hv : vs ≠ [])
    (h1 : ws = [] → Q (.ref t) s) (h2 : ws ≠ [] → Q (.ref s.heap.objs.size) { s with heap := s.heap.push { cls := .type "tuple", data := .seq (vs ++ ws).toArray } })
    (hsz : vs.length + ws.length ≤ sizeLine) : wpAny (model prog w) A (binaryOp .Add (.ref t) (.ref b)) Q E s := by
  obtain ⟨⟨cls, dd, data, sl⟩, ho, hc, n, hd⟩ := id ht
  obtain ⟨⟨cls2, dd2, data2, sl2⟩, ho2, hc2, n2, hd2⟩ := id hb
  simp only at hc hd hc2 hd2
  subst hc hd hc2 hd2
  have e : vs.toArray ++ ws.toArray = (vs ++ ws).toArray := by simp
  by_cases hw : ws = []
  · exact concat_meets ⟨_, ho, rfl⟩ ⟨_, ho2, rfl⟩ noFill_tuple_add seq_tuple_add PySem.F.slot_tuple_add PySem.F.entry_tuple_add (PySem.F.args_tuple_add_2 _ _)
      (tuple_addW1 t b vs.toArray ws.toArray n n2 dd dd2 sl sl2 (by simpa using hv) (by simp [hw])) ⟨ho, ho2, h1 hw⟩
  · refine concat_meets ⟨_, ho, rfl⟩ ⟨_, ho2, rfl⟩ noFill_tuple_add seq_tuple_add PySem.F.slot_tuple_add PySem.F.entry_tuple_add (PySem.F.args_tuple_add_2 _ _)
      (tuple_addW2 t b vs.toArray ws.toArray n n2 dd dd2 sl sl2 (by simpa using hv) (by simpa using hw) (by rw [List.size_toArray, List.size_toArray]; exact hsz)) ⟨ho, ho2, ?_⟩
    rw [e]
    exact h2 hw
noncomputable def sIx (n d : Nat) : Option Int → Nat
  | none => d
  | some v => if v < 0 then (v + (n : Int)).toNat else min v.toNat n
theorem sIx_le (n d : Nat) (hd : d ≤ n) (o : Option Int) : sIx n d o ≤ n := by
  cases o with
  | none => exact hd
  | some v =>
    show (if v < 0 then (v + (n : Int)).toNat else min v.toNat n) ≤ n
    by_cases hv : v < 0
    · rw [if_pos hv]; omega
    · rw [if_neg hv]; exact Nat.min_le_right _ _
theorem clip_eq (v : Int) (n d : Nat) : (if v < 0 then max (v + (n : Int)) 0 else min v (n : Int)) = ((sIx n d (some v) : Nat) : Int) := by
  show (if v < 0 then max (v + (n : Int)) 0 else min v (n : Int)) = (((if v < 0 then (v + (n : Int)).toNat else min v.toNat n) : Nat) : Int)
  by_cases hv : v < 0
  · simp only [if_pos hv]; omega
  · simp only [if_neg hv]; omega
theorem adjust_gen (lo hi : Option Int) (n : Nat) : Builtin.Slice.sliceAdjust lo hi 1 (n : Int) = (((sIx n 0 lo : Nat) : Int), ((sIx n n hi : Nat) : Int)) := by
  have h1 : ¬ ((1 : Int) < 0) := by omega
  unfold Builtin.Slice.sliceAdjust
  simp only [h1, if_false]
  refine Prod.ext ?_ ?_
  · cases lo with
    | none => rfl
    | some v => exact clip_eq v n 0
  · cases hi with
    | none => rfl
    | some v => exact clip_eq v n n
theorem places_gen (i j : Nat) : Builtin.Slice.slicePlaces (i : Int) (j : Int) 1 = j - i := by
  unfold Builtin.Slice.slicePlaces
  have h1 : (1 : Int) > 0 := by omega
  simp only [h1, if_true, Int.ediv_one]
  split <;> omega
theorem slicePart_ {v : Value} {o : Option Int} {Q : Option Int → Shared → Prop} (p : IsPart v o) (h : Q o s) : wpAny (model prog w) A (Builtin.Slice.slicePartIndex v) Q E s := by
  cases p with
  | none => exact slicePart_none h
  | int i t => exact slicePart_int h
theorem sliceApplied_gen {sl : Addr} {vl vu : Value} {lo hi : Option Int} {n : Nat} {Q : Int × Int × Nat → Shared → Prop} (hs : s.heap.IsSliceOf sl vl vu .none) (pl : IsPart vl lo) (pu : IsPart vu hi)
    (h : Q (((sIx n 0 lo : Nat) : Int), 1, sIx n n hi - sIx n 0 lo) s) : wpAny (model prog w) A (Builtin.Slice.sliceApplied (.ref sl) (pure (n : Int))) Q E s := by
  obtain ⟨os, hos, hcs, hds⟩ := id hs
  unfold Builtin.Slice.sliceApplied Builtin.Slice.sliceFields
  refine wpAny_bind (wpAny_bind (wpAny_field hos hds (x := vl) rfl (wpAny_bind (wpAny_field hos hds (x := vu) rfl (wpAny_bind (wpAny_field hos hds (x := .none) rfl (wpAny_pure ?_)))))))
  refine wpAny_bind (slicePart_none ?_)
  show wpAny _ _ (if ((1 : Int) == 0) = true then _ else _) _ _ s
  rw [if_neg (by decide)]
  refine wpAny_bind (slicePart_ pl (wpAny_bind (slicePart_ pu (wpAny_bind (wpAny_pure ?_)))))
  show wpAny _ _ (match Builtin.Slice.sliceAdjust lo hi 1 (n : Int) with | (lo, hi) => pure (lo, (1 : Int), Builtin.Slice.slicePlaces lo hi 1)) _ _ s
  rw [adjust_gen lo hi n]
  show wpAny _ _ (pure (((sIx n 0 lo : Nat) : Int), (1 : Int), Builtin.Slice.slicePlaces ((sIx n 0 lo : Nat) : Int) ((sIx n n hi : Nat) : Int) 1)) _ _ s
  rw [places_gen]
  exact wpAny_pure h
theorem pick_gen (xs : Array Value) (i k : Nat) : ((List.range k).filterMap fun (m : Nat) => xs[((i : Int) + (m : Int) * 1).toNat]?).toArray = ((xs.toList.drop i).take k).toArray := by
  have e : (fun (m : Nat) => xs[((i : Int) + (m : Int) * 1).toNat]?) = fun m => xs[i + m]? := by
    funext m
    have : ((i : Int) + (m : Int) * 1).toNat = i + m := by omega
    rw [this]
  rw [e]
  have := pick_run xs i k
  rw [List.filterMap_map] at this
  have e2 : ((fun x => xs[x]?) ∘ fun x => i + x) = fun m => xs[i + m]? := rfl
  rw [e2] at this
  rw [this]
theorem getItem_tuple_cut {t sl : Addr} {items : Array Value} {vl vu : Value} {lo hi : Option Int} {Q : Value → Shared → Prop} (ht : IsTup s.heap t items) (hs : s.heap.IsSliceOf sl vl vu .none) (pl : IsPart vl lo) (pu : IsPart vu hi)
    (hw : ¬ (sIx items.size 0 lo = 0 ∧ sIx items.size items.size hi = items.size))
    (h : Q (.ref s.heap.objs.size) { s with heap := s.heap.push { cls := .type "tuple", data := .seq ((items.toList.drop (sIx items.size 0 lo)).take (sIx items.size items.size hi - sIx items.size 0 lo)).toArray } })
    (hsz : items.size ≤ sizeLine) : wpAny (model prog w) A (getItem (.ref t) (.ref sl)) Q E s := by
  have htake : sizeOk (.seq ((items.toList.drop (sIx items.size 0 lo)).take (sIx items.size items.size hi - sIx items.size 0 lo)).toArray) := by
    show ((items.toList.drop (sIx items.size 0 lo)).take (sIx items.size items.size hi - sIx items.size 0 lo)).toArray.size ≤ sizeLine
    rw [List.size_toArray, List.length_take, List.length_drop, Array.length_toList]
    omega
  have hj : sIx items.size items.size hi ≤ items.size := sIx_le _ _ (Nat.le_refl _) hi
  obtain ⟨os, hos, hcs, hds⟩ := id hs
  have hTs : s.TypeIs (.ref sl) "slice" := ⟨os, hos, hcs⟩
  unfold getItem
  try with_reducible refine wpAny_holding ?_
  first | refine wpAny_bind (wpAny_pure ?_) | skip
  refine wpAny_bind (wpAny_sequenceKey ht.typeIs (by decide) ?_)
  refine wpAny_bind (wpAny_callSpecial?_slot (name := Str.ofString "__getitem__") ht.typeIs PyProof.Rows.slot_tuple_getitem
    (wpAny_call_entry PyProof.Rows.slot_tuple_getitem ht.typeIs entry_tuple_getitem ?_ (args_tuple_getitem _ _)))
  show wpAny _ _ (Builtin.Tuple.tupleItemsOf (.ref t) >>= _) _ _ s
  refine wpAny_bind (tupleItemsOf_ ht ?_)
  refine wpAny_bind (wpAny_typeOf hTs ?_)
  rw [if_pos (by decide)]
  refine wpAny_bind (sliceApplied_gen hs pl pu ?_)
  have hno : ¬ ((((sIx items.size 0 lo : Nat) : Int) == 0 && (1 : Int) == 1 && (sIx items.size items.size hi - sIx items.size 0 lo) == items.size) = true) := by
    intro q
    rw [Bool.and_eq_true, Bool.and_eq_true] at q
    have q1 : ((sIx items.size 0 lo : Nat) : Int) = 0 := eq_of_beq q.1.1
    have q2 : sIx items.size items.size hi - sIx items.size 0 lo = items.size := eq_of_beq q.2
    exact hw ⟨by omega, by omega⟩
  show wpAny _ _ (if (((sIx items.size 0 lo : Nat) : Int) == 0 && (1 : Int) == 1 && (sIx items.size items.size hi - sIx items.size 0 lo) == items.size) = true then _ else _) _ _ s
  rw [if_neg hno, pick_gen]
  first
    | exact wpAny_bind (m := Builtin.Tuple.tupleExact _) (wpAny_newObj_type (wpAny_pure ⟨_, rfl, wpAny_pure h⟩) htake)
    | exact wpAny_bind (m := Builtin.Tuple.tupleExact _) (wpAny_newObj_type (wpAny_bind (wpAny_pure (wpAny_pure ⟨_, rfl, wpAny_pure h⟩))) htake)
    | exact wpAny_bind (wpAny_bind (m := Builtin.Tuple.tupleExact _) (wpAny_newObj_type (wpAny_pure (wpAny_pure ⟨_, rfl, wpAny_pure h⟩)) htake))
    | exact wpAny_bind (wpAny_bind (m := Builtin.Tuple.tupleExact _) (wpAny_newObj_type (wpAny_pure ⟨_, rfl, wpAny_pure h⟩) htake))
end
end HT
namespace L2
open PySem PySem.Spec PyProof.Rows
noncomputable abbrev TO := St → Hp → (Option Int → Hp → Prop) → Prop
noncomputable def PO (X : Cx) (e : Option Expr) (t : TO) : Prop :=
  ∀ (pins : List (Addr × Obj)) (s : Shared) (σ : St) (H : Hp) (Q : Option Int → Hp → Prop), Inv X pins σ H s → t σ H Q →
    wpAny (model X.prog X.w) X.A (evalPart e X.env) (fun u s' => ∃ o H', Inv X pins σ H' s' ∧ IsPart u o ∧ Q o H') X.xe s
noncomputable def tNoPart : TO := fun _ H Q => Q none H
noncomputable def tPart (t : TE) : TO := fun σ H Q => t σ H fun x H1 => ∃ i, x = .int i ∧ Q (some i) H1
section
variable {X : Cx} {e : Expr} {te : TE} {lo hi : Option Expr} {tl th : TO} {pos p2 : Pos}
theorem po_none : PO X none tNoPart := by
  intro pins s σ H Q I h
  rw [evalPart_none]
  exact wpAny_pure ⟨none, H, I, .none, h⟩
theorem po_some (h : PE X e te) : PO X (some e) (tPart te) := by
  intro pins s σ H Q I hw
  rw [evalPart_some]
  refine thn (h pins s σ H _ I hw) fun u s1 ⟨x, H1, I1, r1, q1⟩ => ?_
  obtain ⟨i, rfl, q⟩ := q1
  obtain ⟨t, rfl⟩ := r1
  exact ⟨some i, H1, I1, .int i t, q⟩
noncomputable def SlR (X : Cx) (r : V → Option Int → Option Int → Hp → VK → Prop) : Prop :=
  ∀ (pins : List (Addr × Obj)) (s : Shared) (σ : St) (H : Hp) (x : V) (v vl vu : Value) (lo hi : Option Int) (sl : Addr) (Q : VK), Inv X pins σ H s → RelV x v → s.heap.IsSliceOf sl vl vu .none → IsPart vl lo → IsPart vu hi → r x lo hi H Q →
    ∃ T id, typeLookup (.type T) "__getitem__" = pure (some (.builtin id)) ∧ s.TypeIs v T ∧ wpAny (model X.prog X.w) X.A (getItem v (.ref sl)) (EP X pins σ Q) X.xe s
theorem SlR.or {r r' : V → Option Int → Option Int → Hp → VK → Prop} (h : SlR X r) (h' : SlR X r') : SlR X (fun x lo hi H Q => r x lo hi H Q ∨ r' x lo hi H Q) := by
  intro pins s σ H x v vl vu lo hi sl Q I rx hs pl pu q
  rcases q with q | q
  · exact h pins s σ H x v vl vu lo hi sl Q I rx hs pl pu q
  · exact h' pins s σ H x v vl vu lo hi sl Q I rx hs pl pu q
noncomputable def tSl (r : V → Option Int → Option Int → Hp → VK → Prop) (te : TE) (tl th : TO) : TE := fun σ H Q => te σ H fun x H1 => tl σ H1 fun l H2 => th σ H2 fun u H3 => r x l u H3 Q
theorem pe_slice {r : V → Option Int → Option Int → Hp → VK → Prop} (hr : SlR X r) (he : PE X e te) (hl : PO X lo tl) (hu : PO X hi th) : PE X (.Subscript e (.Slice lo hi none p2) pos) (tSl r te tl th) := by
  intro pins s σ H Q I h
  refine Subscript_ (thn (he pins s σ H _ I h) fun v s1 ⟨x, H1, I1, r1, q1⟩ => ?_)
  refine wpAny_Slice (thn (hl pins s1 σ H1 _ I1 q1) fun vl s2 ⟨l, H2, I2, pl, q2⟩ => thn (hu pins s2 σ H2 _ I2 q2) fun vu s3 ⟨u, H3, I3, pu, q3⟩ => ?_)
  rw [evalPart_none]
  refine wpAny_pure ?_
  have I4 : Inv X pins σ H3 { s3 with heap := s3.heap.push { cls := .type "slice", data := .fields #[vl, vu, .none] } } := I3.kept (t' := s3.toks) fun b ob q => Heap.get?_push_of_some _ q
  obtain ⟨T, id, hT, ht, hg⟩ := hr pins { s3 with heap := s3.heap.push { cls := .type "slice", data := .fields #[vl, vu, .none] } } σ H3 x v vl vu l u s3.heap.objs.size Q I4 r1 (Heap.IsSliceOf.new ..) pl pu q3
  show wpAny (model X.prog X.w) X.A (subscriptTail e (.Slice lo hi none p2) v (.ref s3.heap.objs.size)) (EP X pins σ Q) X.xe { s3 with heap := s3.heap.push { cls := .type "slice", data := .fields #[vl, vu, .none] } }
  exact tail_any (ops := [.ref s3.heap.objs.size, v]) ht hT hg (by with_unfolding_all rfl)
noncomputable def cutV (xs : List V) (lo hi : Option Int) : List V := (xs.drop (HT.sIx xs.length 0 lo)).take (HT.sIx xs.length xs.length hi - HT.sIx xs.length 0 lo)
theorem cutV_length (xs : List V) (lo hi : Option Int) : (cutV xs lo hi).length ≤ xs.length := by
  unfold cutV
  rw [List.length_take, List.length_drop]
  omega
noncomputable def rSlT (K : W.Frag) : V → Option Int → Option Int → Hp → VK → Prop := fun x lo hi H Q => ∃ a xs, x = .ref a ∧ SqT K H a xs ∧
  ¬ (HT.sIx xs.length 0 lo = 0 ∧ HT.sIx xs.length xs.length hi = xs.length) ∧ ∀ p, H p = none → Q (.ref p) (upd H p (.tup (cutV xs lo hi)))
theorem sl_tup : SlR X (rSlT X.K) := by
  intro pins s σ H x v vl vu lo hi sl Q I rx hs pl pu h
  obtain ⟨a, xs, rfl, hx, hw, q⟩ := h
  cases rx
  obtain ⟨its, r, ht, hz⟩ := I.tuple hx
  have hlen : its.toArray.size = xs.length := by rw [List.size_toArray]; exact r.length.symm
  refine ⟨"tuple", _, PyProof.Rows.slot_tuple_getitem.lookup, ht.typeIs, ?_⟩
  refine HT.getItem_tuple_cut ht hs pl pu (by rw [hlen]; exact hw) ?_ (by rw [hlen]; exact hz)
  rw [hlen]
  refine ⟨.ref s.heap.objs.size, _, I.laid (t' := s.toks) (o := .tup (cutV xs lo hi)) (fun b ob q => Heap.get?_push_of_some _ q) (Nat.le_refl _) ?_, rfl, q _ (I.hok.fresh (Nat.le_refl _))⟩
  exact ⟨Nat.le_trans (cutV_length xs lo hi) hz, _, (r.drop (HT.sIx xs.length 0 lo)).take (HT.sIx xs.length xs.length hi - HT.sIx xs.length 0 lo), IsTup.new _ _⟩
noncomputable def rCatT (K : W.Frag) : R2 := fun x y H Q => ∃ a b xs ys, x = .ref a ∧ y = .ref b ∧ SqT K H a xs ∧ SqT K H b ys ∧ xs ≠ [] ∧ xs.length + ys.length ≤ sizeLine ∧
  (ys = [] → Q (.ref a) H) ∧ (ys ≠ [] → ∀ p, H p = none → Q (.ref p) (upd H p (.tup (xs ++ ys))))
theorem Vals.nil_iff {xs : List V} {us : List Value} (r : Vals xs us) : us = [] ↔ xs = [] := by
  cases r with
  | nil => simp
  | cons _ _ => simp
theorem op_catT : OpR X (binaryOp .Add) (rCatT X.K) := by
  intro pins s σ H x y v u Q I rx ry h
  obtain ⟨a, b, xs, ys, rfl, rfl, ha, hb, hx, hz, q1, q2⟩ := h
  cases rx
  cases ry
  obtain ⟨its, r1, p1, _⟩ := I.tuple ha
  obtain ⟨its2, r2, p2, _⟩ := I.tuple hb
  refine HT.cat_tup p1 p2 (fun z => hx (r1.nil_iff.mp z)) (fun z => ⟨.ref a, H, I, rfl, q1 (r2.nil_iff.mp z)⟩) (fun z => ?_) (by rw [← r1.length, ← r2.length]; exact hz)
  refine ⟨.ref s.heap.objs.size, _, I.laid (t' := s.toks) (o := .tup (xs ++ ys)) (fun b ob q => Heap.get?_push_of_some _ q) (Nat.le_refl _) ?_, rfl, q2 (fun w => z (r2.nil_iff.mpr w)) _ (I.hok.fresh (Nat.le_refl _))⟩
  exact ⟨by rw [List.length_append]; exact hz, _, r1.append r2, IsTup.new _ _⟩
end
end L2
namespace L2
open PySem PySem.Spec PyProof.Rows
noncomputable def ixN (n : Nat) (i : Int) : Option Nat := if 0 ≤ i then (if i < n then some i.toNat else none) else if -(n : Int) ≤ i then some (i + n).toNat else none
noncomputable def atI {α : Type} (xs : List α) (i : Int) : Option α := (ixN xs.length i).bind fun j => xs[j]?
theorem ixN_seq {n : Nat} {i : Int} {j : Nat} (h : ixN n i = some j) : seqIndex? i n = some j ∧ j < n ∧ -(n : Int) ≤ i ∧ i < n := by
  unfold ixN at h
  by_cases h0 : 0 ≤ i
  · rw [if_pos h0] at h
    by_cases h1 : i < n
    · rw [if_pos h1] at h
      have e : i.toNat = j := Option.some.inj h
      exact ⟨by rw [seqIndex_of h0 h1, e], by omega, by omega, h1⟩
    · rw [if_neg h1] at h; cases h
  · rw [if_neg h0] at h
    by_cases h1 : -(n : Int) ≤ i
    · rw [if_pos h1] at h
      have e : (i + n).toNat = j := Option.some.inj h
      exact ⟨by rw [seqIndex_neg (by omega) h1, e], by omega, h1, by omega⟩
    · rw [if_neg h1] at h; cases h
theorem atI_get {α : Type} {xs : List α} {i : Int} {v : α} (h : atI xs i = some v) : ∃ j, seqIndex? i xs.length = some j ∧ xs[j]? = some v ∧ j < xs.length ∧ -(xs.length : Int) ≤ i ∧ i < xs.length := by
  unfold atI at h
  cases e : ixN xs.length i with
  | none => rw [e] at h; cases h
  | some j =>
    rw [e] at h
    obtain ⟨h1, h2, h3, h4⟩ := ixN_seq e
    exact ⟨j, h1, h, h2, h3, h4⟩
noncomputable def PlainIx (b : Expr) : Prop := ∀ o i, subscripted b false o i = operate [o, i] (getItem o i)
noncomputable def IxR (X : Cx) (r : R2) : Prop :=
  ∀ (value slice : Expr) (pins : List (Addr × Obj)) (s : Shared) (σ : St) (H : Hp) (x y : V) (v u : Value) (Q : VK), Inv X pins σ H s → RelV x v → RelV y u → r x y H Q →
    subscripted slice false v u = operate [v, u] (getItem v u) → wpAny (model X.prog X.w) X.A (subscriptTail value slice v u) (EP X pins σ Q) X.xe s
noncomputable def MtR (X : Cx) (id : String) (r : V → List V → Hp → VK → Prop) : Prop :=
  ∀ (pins : List (Addr × Obj)) (s : Shared) (σ : St) (H : Hp) (x : V) (xs : List V) (v : Value) (us : List Value) (Q : VK), Inv X pins σ H s → RelV x v → Vals xs us → r x xs H Q →
    wpAny (model X.prog X.w) X.A (call (.builtin id) (v :: us)) (EP X pins σ Q) X.xe s
section
variable {X : Cx} {a b : Expr} {ta tb : TE} {pos : Pos}
theorem IxR.or {r r' : R2} (h : IxR X r) (h' : IxR X r') : IxR X (fun x y H Q => r x y H Q ∨ r' x y H Q) := by
  intro value slice pins s σ H x y v u Q I rx ry q hs
  rcases q with q | q
  · exact h value slice pins s σ H x y v u Q I rx ry q hs
  · exact h' value slice pins s σ H x y v u Q I rx ry q hs
theorem pe_ix {r : R2} (hr : IxR X r) (ha : PE X a ta) (hb : PE X b tb) (hs : PlainIx b) : PE X (.Subscript a b pos) (tOp r ta tb) := by
  intro pins s σ H Q I h
  exact Subscript_ (binT ha hb I h fun v u s2 x y H2 I2 rx ry q => hr a b pins s2 σ H2 x y v u Q I2 rx ry q (hs _ _))
noncomputable def rIxL (K : W.Frag) : R2 := fun x y H Q => ∃ p xs i v, x = .ref p ∧ y = .int i ∧ SqL K H p xs ∧ atI xs i = some v ∧ Q v H
noncomputable def rIxT (K : W.Frag) : R2 := fun x y H Q => ∃ p xs i v, x = .ref p ∧ y = .int i ∧ SqT K H p xs ∧ atI xs i = some v ∧ Q v H
noncomputable def rIxS : R2 := fun x y H Q => ∃ z i c, x = .str z ∧ y = .int i ∧ z.length ≤ sizeLine ∧ atI z.cps.toList i = some c ∧ Q (.str ⟨#[c]⟩) H
theorem ix_list : IxR X (rIxL X.K) := by
  intro value slice pins s σ H x y v u Q I rx ry h hs
  obtain ⟨p, xs, i, z, rfl, rfl, hq, he, q⟩ := h
  cases rx
  obtain ⟨t, rfl⟩ := ry
  obtain ⟨its, r, pl, hz⟩ := I.list hq
  obtain ⟨j, h1, h2, h3, h4, h5⟩ := atI_get he
  obtain ⟨w, ew, rw'⟩ := r.get h2
  have hl := r.length
  have hn := line63
  have fin : EP X pins σ Q w s := ⟨z, H, I, rw', q⟩
  by_cases h0 : 0 ≤ i
  · have hj : i.toNat = j := by
      rw [seqIndex_of h0 h5] at h1
      exact Option.some.inj h1
    exact item_listR pl.isList h0 (by omega) (by rw [hj]; simpa using ew) fin hs
  · have hj : (i + (its.toArray.size : Int)).toNat = j := by
      rw [seqIndex_neg (by omega) h4] at h1
      rw [List.size_toArray, ← hl]
      exact Option.some.inj h1
    exact subscriptTail_builtinR (x := w) pl.isList.typeIs slot_list_getitem.lookup
      (wpAny_getItem_list_neg (Q := fun r s' => r = w ∧ EP X pins σ Q r s') pl.isList (by omega) (by rw [List.size_toArray] <;> omega) (by omega) (by rw [hj]; simpa using ew) ⟨rfl, fin⟩) hs
theorem ix_tup : IxR X (rIxT X.K) := by
  intro value slice pins s σ H x y v u Q I rx ry h hs
  obtain ⟨p, xs, i, z, rfl, rfl, hq, he, q⟩ := h
  cases rx
  obtain ⟨t, rfl⟩ := ry
  obtain ⟨its, r, pl, hz⟩ := I.tuple hq
  obtain ⟨j, h1, h2, h3, h4, h5⟩ := atI_get he
  obtain ⟨w, ew, rw'⟩ := r.get h2
  have hl := r.length
  have hn := line63
  have fin : EP X pins σ Q w s := ⟨z, H, I, rw', q⟩
  exact subscriptTail_builtinR (x := w) pl.typeIs slot_tuple_getitem.lookup
    (getItem_tuple (j := j) (Q := fun r s' => r = w ∧ EP X pins σ Q r s') pl (by omega) (by omega) (by rw [List.size_toArray, ← hl]; exact h1) (by simpa using ew) ⟨rfl, fin⟩) hs
theorem ix_str : IxR X rIxS := by
  intro value slice pins s σ H x y v u Q I rx ry h hs
  obtain ⟨z, i, c, rfl, rfl, hz, he, q⟩ := h
  obtain ⟨t, rfl⟩ := rx
  obtain ⟨t', rfl⟩ := ry
  obtain ⟨j, h1, h2, h3, h4, h5⟩ := atI_get he
  have hl : z.cps.toList.length = z.length := by simp [Str.length]
  rw [hl] at h1 h4 h5
  have hn := line63
  exact tail_any (typeIs_str s z t) slot_str_getitem.lookup (getItem_str (c := c) (by
    have e1 : decide (i < -(2 ^ 63 : Int)) = false := decide_eq_false (by omega)
    have e2 : decide (i ≥ 2 ^ 63) = false := decide_eq_false (by omega)
    rw [e1, e2, Bool.or_false]) (by rw [h1]; simpa using h2) ⟨.str ⟨#[c]⟩, H, I.tok _, ⟨_, rfl⟩, q⟩) hs
noncomputable def rIx (K : W.Frag) : R2 := fun x y H Q => rIxL K x y H Q ∨ rIxT K x y H Q ∨ rIxS x y H Q
theorem ix_seq : IxR X (rIx X.K) := ix_list.or (ix_tup.or ix_str)
theorem mapSeq_set (its : List Value) (n j : Nat) (u : Value) : Obj.mapSeq (·.setIfInBounds j u) { cls := .type "list", data := .seq its.toArray n } = { cls := .type "list", data := .seq (its.set j u).toArray n } := by
  simp [Obj.mapSeq]
theorem Inv.lst {pins : List (Addr × Obj)} {σ : St} {H : Hp} {s : Shared} {p : Addr} {xs : List V} (I : Inv X pins σ H s) (h : H p = some (.lst xs)) :
    ∃ (its : List Value) (n : Nat), Vals xs its ∧ s.heap.get? p = some { cls := .type "list", data := .seq its.toArray n } ∧ xs.length ≤ sizeLine := by
  obtain ⟨z, its, n, r, e⟩ := I.hok p _ h
  exact ⟨its, n, r, e, z⟩
theorem Inv.lstUpd {pins : List (Addr × Obj)} {σ : St} {H : Hp} {s : Shared} {p : Addr} {xs ys : List V} {its its' : List Value} {n n' : Nat} {f : Obj → Obj} (I : Inv X pins σ H s) (h : H p = some (.lst xs))
    (ho : s.heap.get? p = some { cls := .type "list", data := .seq its.toArray n }) (hf : f { cls := .type "list", data := .seq its.toArray n } = { cls := .type "list", data := .seq its'.toArray n' }) (r : Vals ys its') (hz : ys.length ≤ sizeLine) (t : Nat) :
    Inv X pins σ (upd H p (.lst ys)) { s with heap := s.heap.update p f, toks := t } := by
  have e : (s.heap.update p f).get? p = some { cls := .type "list", data := .seq its'.toArray n' } := by
    rw [Heap.get?_update_self f ho (by rw [hf] <;> rfl), hf]
  refine I.write (x := p) (e := p) (by rw [h]; trivial) (.inl rfl) (fun b u hb q => (Heap.get?_update_other _ _ (Ne.symm hb)).trans q) ⟨_, e⟩ ?_
  exact ⟨hz, its', n', r, e⟩
noncomputable def rSetL : V → V → V → Hp → (Hp → Prop) → Prop := fun o i v H Q => ∃ p xs k j, o = .ref p ∧ i = .int k ∧ H p = some (.lst xs) ∧ ixN xs.length k = some j ∧ Q (upd H p (.lst (xs.set j v)))
theorem set_list : PSet X rSetL := by
  intro pins s σ H o i v ov iv u Q I ro ri rv h
  obtain ⟨p, xs, k, j, rfl, rfl, hp, hj, q⟩ := h
  cases ro
  obtain ⟨t, rfl⟩ := ri
  obtain ⟨its, n, r, ho, hz⟩ := I.lst hp
  obtain ⟨h1, h2, h3, h4⟩ := ixN_seq hj
  have hl := r.length
  have hn := line63
  have I' : Inv X pins σ (upd H p (.lst (xs.set j v))) { s with heap := s.heap.update p (Obj.mapSeq (·.setIfInBounds j u)) } :=
    I.lstUpd hp ho (mapSeq_set its n j u) (r.set rv j) (by rw [List.length_set]; exact hz) s.toks
  by_cases h0 : 0 ≤ k
  · have hk : k.toNat = j := by
      rw [seqIndex_of h0 h4] at h1
      exact Option.some.inj h1
    exact W.ki_setAt ho h0 (by omega) (by rw [List.size_toArray, ← hl]; exact h4) (by rw [hk]; exact ⟨_, I', q⟩)
  · have hk : (k + (its.toArray.size : Int)).toNat = j := by
      rw [seqIndex_neg (by omega) h3] at h1
      rw [List.size_toArray, ← hl]
      exact Option.some.inj h1
    exact W.ki_setBack ho (by omega) (by rw [List.size_toArray, ← hl]; exact h3) (by omega) (by rw [hk]; exact ⟨_, I', q⟩)
theorem slice_bounds (lo hi : Option Int) (n : Nat) : (sliceBounds lo hi none n).1 = ((HT.sIx n 0 lo : Nat) : Int) ∧ (sliceBounds lo hi none n).2.1 = ((HT.sIx n n hi : Nat) : Int) ∧ (sliceBounds lo hi none n).2.2 = 1 := by
  refine ⟨?_, ?_, rfl⟩
  · cases lo with
    | none => simp [sliceBounds, HT.sIx]
    | some i =>
      simp only [sliceBounds, HT.sIx, Option.getD_none, show (1 : Int) > 0 by decide, if_true]
      by_cases h : i < 0
      · simp only [h, if_true] <;> omega
      · simp only [h, if_false] <;> omega
  · cases hi with
    | none => simp [sliceBounds, HT.sIx]
    | some i =>
      simp only [sliceBounds, HT.sIx, Option.getD_none, show (1 : Int) > 0 by decide, if_true]
      by_cases h : i < 0
      · simp only [h, if_true] <;> omega
      · simp only [h, if_false] <;> omega
theorem slicePick_cut (its : List Value) (lo hi : Option Int) : slicePick its.toArray lo hi none = ((its.drop (HT.sIx its.length 0 lo)).take (HT.sIx its.length its.length hi - HT.sIx its.length 0 lo)).toArray := by
  obtain ⟨h1, h2, h3⟩ := slice_bounds lo hi its.toArray.size
  unfold slicePick
  rw [h1, h2, h3]
  simp only [sliceRange_one, pick_run, List.size_toArray] <;> rfl
noncomputable def rSlL (K : W.Frag) : V → Option Int → Option Int → Hp → VK → Prop := fun x lo hi H Q => ∃ a xs, x = .ref a ∧ SqL K H a xs ∧ ∀ p, H p = none → Q (.ref p) (upd H p (.lst (cutV xs lo hi)))
theorem sl_list : SlR X (rSlL X.K) := by
  intro pins s σ H x v vl vu lo hi sl Q I rx hs pl pu h
  obtain ⟨a, xs, rfl, hx, q⟩ := h
  cases rx
  obtain ⟨its, r, ht, hz⟩ := I.list hx
  have hlen := r.length
  refine ⟨"list", _, slot_list_getitem.lookup, ht.isList.typeIs, ?_⟩
  refine wpAny_getItem_list_slice ht.isList hs pl pu .none (by simp) ?_ (by rw [List.size_toArray] <;> omega)
  rw [slicePick_cut, ← hlen]
  refine ⟨.ref s.heap.objs.size, _, I.laid (t' := s.toks) (o := .lst (cutV xs lo hi)) (fun b ob q => Heap.get?_push_of_some _ q) (Nat.le_refl _) ?_, rfl, q _ (I.hok.fresh (Nat.le_refl _))⟩
  exact ⟨Nat.le_trans (cutV_length xs lo hi) hz, _, 0, (r.drop (HT.sIx xs.length 0 lo)).take (HT.sIx xs.length xs.length hi - HT.sIx xs.length 0 lo), Heap.get?_push_size _ rfl⟩
theorem call_len_seq : CallR X (.builtin "len") (fun xs H Q => ∃ p ys, xs = [.ref p] ∧ (SqL X.K H p ys ∨ SqT X.K H p ys) ∧ Q (.int ys.length) H) := by
  intro pins s σ H xs us Q I r h
  obtain ⟨p, ys, rfl, hq, q⟩ := h
  obtain ⟨u, rfl, rx⟩ := vals1 r
  cases rx
  have hn := line63
  rcases hq with hq | hq
  · obtain ⟨its, r', pl, hz⟩ := I.list hq
    have hlen := r'.length
    exact Calls.call_len_list pl.isList (by simp only [List.size_toArray] <;> omega) ⟨.int ys.length, H, I.tok _, ⟨s.toks + 1, by rw [List.size_toArray, hlen]⟩, q⟩
  · obtain ⟨its, r', pl, hz⟩ := I.tuple hq
    have hlen := r'.length
    exact len_tuple pl (by simp only [List.size_toArray] <;> omega) ⟨.int ys.length, H, I.tok _, ⟨s.toks + 1, by rw [List.size_toArray, hlen]⟩, q⟩
theorem call_len_str : CallR X (.builtin "len") (fun xs H Q => ∃ z, xs = [.str z] ∧ z.length ≤ sizeLine ∧ Q (.int z.length) H) := by
  intro pins s σ H xs us Q I r h
  obtain ⟨z, rfl, hz, q⟩ := h
  obtain ⟨u, rfl, t, rfl⟩ := vals1 r
  have hn := line63
  exact len_str (by omega) ⟨.int z.length, H, I.tok _, ⟨_, rfl⟩, q⟩
theorem call_list_of : CallR X (.type "list") (fun xs H Q => ∃ p ys, xs = [.ref p] ∧ (SqL X.K H p ys ∨ SqT X.K H p ys) ∧ ∀ l, H l = none → Q (.ref l) (upd H l (.lst ys))) := by
  intro pins s σ H xs us Q I r h
  obtain ⟨p, ys, rfl, hq, q⟩ := h
  obtain ⟨u, rfl, rx⟩ := vals1 r
  cases rx
  have fin : ∀ (its : List Value), Vals ys its → ys.length ≤ sizeLine → ∀ (h' : Heap) (c' : Nat), (∀ b o', s.heap.get? b = some o' → h'.get? b = some o') →
      h'.get? s.heap.objs.size = some { cls := .type "list", dict := none, data := .seq its.toArray c', slots := #[] } → EP X pins σ Q (.ref s.heap.objs.size) { s with heap := h' } := fun its r' hz h' c' kp e =>
    ⟨.ref s.heap.objs.size, _, I.laid (t' := s.toks) kp (Nat.le_refl _) (show ObjOk X.prog X.w _ h' _ (.lst ys) from ⟨hz, its, c', r', e⟩), rfl, q _ (I.hok.fresh (Nat.le_refl _))⟩
  rcases hq with hq | hq
  · obtain ⟨its, r', pl, hz⟩ := I.list hq
    have hlen := r'.length
    obtain ⟨o, ho, hc, n, hd⟩ := pl.isList
    exact call_list_seq p (.inl rfl) ho hc hd (fun h' c' kp e => fin its r' hz h' c' kp e) (by simp only [List.size_toArray] <;> omega)
  · obtain ⟨its, r', pl, hz⟩ := I.tuple hq
    have hlen := r'.length
    obtain ⟨o, ho, hc, n, hd⟩ := pl
    exact call_list_seq p (.inr rfl) ho hc hd (fun h' c' kp e => fin its r' hz h' c' kp e) (by simp only [List.size_toArray] <;> omega)
theorem call_tuple_of : CallR X (.type "tuple") (fun xs H Q => ∃ p ys, xs = [.ref p] ∧ ((SqL X.K H p ys ∧ ∀ l, H l = none → Q (.ref l) (upd H l (.tup ys))) ∨ (SqT X.K H p ys ∧ Q (.ref p) H))) := by
  intro pins s σ H xs us Q I r h
  obtain ⟨p, ys, rfl, h⟩ := h
  obtain ⟨u, rfl, rx⟩ := vals1 r
  cases rx
  rcases h with ⟨hq, q⟩ | ⟨hq, q⟩
  · obtain ⟨its, r', pl, hz⟩ := I.list hq
    have hlen := r'.length
    refine call_tuple_list pl.isList (fun h' kp => ?_) (by simp only [List.size_toArray] <;> omega)
    have I1 : Inv X pins σ H { s with heap := h' } := I.kept (t' := s.toks) kp
    have I2 : Inv X pins σ (upd H h'.objs.size (.tup ys)) { s with heap := h'.push { cls := .type "tuple", data := .seq its.toArray } } :=
      I1.laid (t' := s.toks) (fun b o e => Heap.get?_push_of_some _ e) (Nat.le_refl _) (show ObjOk X.prog X.w _ _ _ (.tup ys) from ⟨hz, its, r', IsTup.new _ _⟩)
    exact ⟨.ref h'.objs.size, _, I2, rfl, q _ (I1.hok.fresh (Nat.le_refl _))⟩
  · obtain ⟨its, r', pl, hz⟩ := I.tuple hq
    exact call_tuple_same pl ⟨.ref p, H, I, rfl, q⟩
noncomputable def tyV (K : W.Frag) (T : String) (x : V) (H : Hp) : Prop := match x with
  | .str _ => T = "str"
  | .int _ => T = "int"
  | .ref p => (T = "list" ∧ ∃ xs, SqL K H p xs) ∨ (T = "tuple" ∧ ∃ o, K.lookup p = some o ∧ o.cls = .type "tuple" ∧ o.dict = none) ∨
      (T = "dict" ∧ ((∃ kvs, H p = some (.dK kvs)) ∨ ∃ kvs, H p = some (.dT kvs))) ∨ (T = "set" ∧ ∃ S n, H p = some (.set S n))
  | _ => False
theorem tyV_is {pins : List (Addr × Obj)} {σ : St} {H : Hp} {s : Shared} {T : String} {x : V} {v : Value} (I : Inv X pins σ H s) (r : RelV x v) (ty : tyV X.K T x H) :
    s.TypeIs v T ∧ ∀ a, v = .ref a → ∃ ob, s.heap.get? a = some ob ∧ ob.dict = none := by
  cases x with
  | str z =>
    obtain ⟨t, rfl⟩ := r
    cases (show T = "str" from ty)
    exact ⟨typeIs_str s z t, fun _ e => nomatch e⟩
  | int i =>
    obtain ⟨t, rfl⟩ := r
    cases (show T = "int" from ty)
    exact ⟨typeIs_int s i t, fun _ e => nomatch e⟩
  | ref p =>
    cases r
    rcases ty with ⟨rfl, xs, hq⟩ | ⟨rfl, o, hk, hc, hd⟩ | ⟨rfl, hk⟩ | ⟨rfl, S, n, hk⟩
    · obtain ⟨its, _, pl, _⟩ := I.list hq
      refine ⟨pl.isList.typeIs, fun a e => ?_⟩
      cases e
      obtain ⟨o, n, e, c, hd, _⟩ := pl
      exact ⟨o, e, hd⟩
    · refine ⟨⟨o, I.kIn p o hk, hc⟩, fun a e => ?_⟩
      cases e
      exact ⟨o, I.kIn _ o hk, hd⟩
    · have z : ∃ o, s.heap.get? p = some o ∧ o.ExactDict := by
        rcases hk with ⟨kvs, hk⟩ | ⟨kvs, hk⟩
        · obtain ⟨_, _, _, _, o, _, _, e, ex, _⟩ := I.hok p _ hk
          exact ⟨o, e, ex⟩
        · obtain ⟨_, _, _, _, o, _, _, e, ex, _⟩ := I.hok p _ hk
          exact ⟨o, e, ex⟩
      obtain ⟨o, e, ex⟩ := z
      refine ⟨⟨o, e, ex.1⟩, fun a e2 => ?_⟩
      cases e2
      exact ⟨o, e, ex.2.1⟩
    · obtain ⟨o, _, _, _, e, ex, _⟩ := I.hok p _ hk
      refine ⟨⟨o, e, ex.1⟩, fun a e2 => ?_⟩
      cases e2
      exact ⟨o, e, ex.2.1⟩
  | _ => exact False.elim ty
noncomputable def tBM0 (K : W.Frag) (T : String) (r : V → List V → Hp → VK → Prop) (to : TE) : TE := fun σ H Q => to σ H fun x H1 => tyV K T x H1 ∧ r x [] H1 Q
noncomputable def tBM (K : W.Frag) (T : String) (r : V → List V → Hp → VK → Prop) (to : TE) (t : TA) : TE := fun σ H Q => to σ H fun x H1 => tyV K T x H1 ∧ t σ H1 fun xs H2 => r x xs H2 Q
variable {o e : Expr} {es : List Expr} {to : TE} {t : TA} {name : Str} {apos cpos : Pos} {T id : String} {r : V → List V → Hp → VK → Prop}
theorem pe_bm0 (pa : PlainAttrs T) (slot : Slot T name id) (hty : typeOf (.builtin id) = pure (.type "method_descriptor")) (hm : MtR X id r) (ho : PE X o to)
    (hbase : attributeBase o name X.env (eval o X.env) = eval o X.env := by rfl) (hline : (apos.endLine == cpos.line) = true := by rfl) : PE X (.Call (.Attribute o name apos) [] [] cpos) (tBM0 X.K T r to) := by
  intro pins s σ H Q I h
  refine wpAny_Call_method0_late hbase hline (thn (ho pins s σ H _ I h) fun v s1 ⟨x, H1, I1, r1, ty, q1⟩ => ?_)
  obtain ⟨h1, h2⟩ := tyV_is I1 r1 ty
  exact ⟨T, id, pa, slot, hty, h1, h2, Calls.callWith_builtin rfl (PySem.evalArgs_none (hm pins s1 σ H1 x [] v [] Q I1 r1 .nil q1))⟩
theorem pe_bm (pa : PlainAttrs T) (slot : Slot T name id) (hty : typeOf (.builtin id) = pure (.type "method_descriptor")) (hm : MtR X id r) (ho : PE X o to) (ha : PA X (e :: es) t)
    (hbase : attributeBase o name X.env (eval o X.env) = eval o X.env := by rfl)
    (hfew : ((backTo cpos (starEach (e :: es) X.env)).all (fun x => !x.1) && (backToKw cpos (keywordEach [] X.env)).all (fun x => x.1.isSome)
      && decide ((e :: es).length + ([] : List Keyword).length + (if ([] : List Keyword).isEmpty then 0 else 1) < 30)) = true := by rfl)
    (hline : (apos.endLine == cpos.line) = true := by rfl) (hs : starEach (e :: es) X.env = (false, eval e X.env) :: starEach es X.env := by rfl) (hplain : (backTo cpos (starEach es X.env)).any (·.1) = false := by rfl) :
    PE X (.Call (.Attribute o name apos) (e :: es) [] cpos) (tBM X.K T r to t) := by
  intro pins s σ H Q I h
  refine wpAny_Call_method_late hbase hfew hline rfl (thn (ho pins s σ H _ I h) fun v s1 ⟨x, H1, I1, r1, ty, q1⟩ => ?_)
  obtain ⟨h1, h2⟩ := tyV_is I1 r1 ty
  refine ⟨T, id, pa, slot, hty, h1, h2, ?_⟩
  have hA := ha cpos pins s1 σ H1 _ I1 q1
  rw [hs] at hA ⊢
  refine Calls.callWith_builtin (by show (false || (backTo cpos (starEach es X.env)).any (·.1)) = false; rw [hplain] <;> rfl) (Calls.evalArgs_plain ?_)
  exact thn hA fun us s2 ⟨vs, H2, I2, r2, q2⟩ => hm pins s2 σ H2 x vs v us Q I2 r1 r2 q2
/- xs.append(e), list.index on a module's tuple .. are MtR facts of 06m -/
end
end L2
namespace L2
open PySem PySem.Spec PyProof.Rows
noncomputable def MtM (X : Cx) (id : String) (r : V → List V → Hp → VK → Prop) : Prop :=
  ∀ (pins : List (Addr × Obj)) (s : Shared) (σ : St) (H : Hp) (x : V) (xs : List V) (v : Value) (us : List Value) (Q : VK), Inv X pins σ H s → RelV x v → Vals xs us → r x xs H Q →
    wpAny (model X.prog X.w) X.A (call (.builtin id) (v :: us)) (EP X pins σ Q) X.xe s
theorem Vals.one : ∀ {x : V} {us : List Value}, Vals [x] us → ∃ u, us = [u] ∧ RelV x u
  | _, _, .cons r .nil => ⟨_, rfl, r⟩
theorem Vals.zero : ∀ {us : List Value}, Vals [] us → us = []
  | _, .nil => rfl
theorem Vals.dropLast {xs : List V} {us : List Value} (h : Vals xs us) : Vals xs.dropLast us.dropLast := by
  induction h with
  | nil => exact .nil
  | cons r t ih =>
    cases t with
    | nil => exact .nil
    | cons q t' => exact .cons r ih
theorem Vals.eraseIdx : ∀ {xs : List V} {us : List Value} (i : Nat), Vals xs us → Vals (xs.eraseIdx i) (us.eraseIdx i)
  | _, _, _, .nil => .nil
  | _, _, 0, .cons _ t => t
  | _, _, i + 1, .cons r t => .cons r (Vals.eraseIdx i t)
theorem erase_last {α : Type} (l : List α) : l.eraseIdx (l.length - 1) = l.dropLast := by
  induction l with
  | nil => rfl
  | cons a r ih =>
    cases r with
    | nil => rfl
    | cons b r =>
      have e : (a :: b :: r).length - 1 = ((b :: r).length - 1) + 1 := by
        have h1 : (a :: b :: r).length = r.length + 2 := rfl
        have h2 : (b :: r).length = r.length + 1 := rfl
        omega
      rw [e, List.eraseIdx_cons_succ, ih]
      all_goals rfl
theorem len_erase {α : Type} : ∀ (l : List α) (i : Nat), (l.eraseIdx i).length ≤ l.length
  | [], _ => Nat.le_refl _
  | _ :: _, 0 => Nat.le_succ _
  | _ :: r, i + 1 => Nat.succ_le_succ (len_erase r i)
section
variable {X : Cx} {pins : List (Addr × Obj)} {σ : St} {H : Hp} {s : Shared} {l b : Addr} {xs ys zs : List V}
theorem Inv.lset {its its' : List Value} {n : Nat} {f : Array Value → Array Value} {t' : Nat} (I : Inv X pins σ H s) (hH : H l = some (.lst xs))
    (e : s.heap.get? l = some { cls := .type "list", data := .seq its.toArray n }) (hf : f its.toArray = its'.toArray) (hv : Vals ys its') (hz : ys.length ≤ sizeLine) :
    Inv X pins σ (upd H l (.lst ys)) { s with heap := s.heap.update l (Obj.mapSeq f), toks := t' } := by
  have q := PySem.IsL.update e f
  rw [hf] at q
  refine I.write (x := l) (e := l) (by rw [hH]; exact trivial) (.inl rfl) (fun b' u hb hu => (Heap.get?_update_other s.heap (Obj.mapSeq f) (Ne.symm hb)).trans hu) ⟨_, q⟩ ?_
  exact ⟨hz, its', _, hv, q⟩
theorem Inv.lnew {its : List Value} {t' : Nat} (I : Inv X pins σ H s) (hv : Vals ys its) (hz : ys.length ≤ sizeLine) :
    Inv X pins σ (upd H s.heap.objs.size (.lst ys)) { s with heap := s.heap.push { cls := .type "list", data := .seq its.toArray }, toks := t' } :=
  I.laid (fun _ _ q => Heap.get?_push_of_some _ q) (Nat.le_refl _) ⟨hz, its, 0, hv, Heap.get?_push_size _ rfl⟩
theorem Inv.fresh (I : Inv X pins σ H s) : H s.heap.objs.size = none := I.hok.fresh (Nat.le_refl _)
theorem Inv.lstM (I : Inv X pins σ H s) (hH : H l = some (.lst xs)) : xs.length ≤ sizeLine ∧ ∃ (its : List Value) (n : Nat), Vals xs its ∧ xs.length = its.length ∧ s.heap.get? l = some { cls := .type "list", data := .seq its.toArray n } := by
  obtain ⟨z, its, n, r, e⟩ := I.hok l _ hH
  exact ⟨z, its, n, r, r.length, e⟩
end
section
variable {X : Cx}
noncomputable def rAppend : V → List V → Hp → VK → Prop := fun x vs H Q => ∃ l xs y, x = .ref l ∧ vs = [y] ∧ H l = some (.lst xs) ∧ xs.length < sizeLine ∧ Q .non (upd H l (.lst (xs ++ [y])))
theorem mt_append : MtM X "list.append" rAppend := by
  intro pins s σ H x vs v us Q I rx rv h
  obtain ⟨l, xs, y, rfl, rfl, hH, hz, q⟩ := h
  cases rx
  obtain ⟨u, rfl, ru⟩ := rv.one
  obtain ⟨z, its, n, r, hl, e⟩ := I.lstM hH
  refine call_meets F.slot_list_append ⟨_, e, rfl⟩ F.entry_list_append (F.args_list_append_2 _ _) (PySem.list_append l its.toArray n u (by rw [List.size_toArray]; omega)) ⟨e, ?_⟩
  refine ⟨.non, _, I.lset (its' := its ++ [u]) hH e (by simp) (r.append (.cons ru .nil)) ?_, rfl, q⟩
  rw [List.length_append, List.length_singleton]
  omega
noncomputable def rPop : V → List V → Hp → VK → Prop := fun x vs H Q => ∃ l xs y, x = .ref l ∧ vs = [] ∧ H l = some (.lst xs) ∧ xs[xs.length - 1]? = some y ∧ Q y (upd H l (.lst xs.dropLast))
theorem mt_pop : MtM X "list.pop" rPop := by
  intro pins s σ H x vs v us Q I rx rv h
  obtain ⟨l, xs, y, rfl, rfl, hH, hy, q⟩ := h
  cases rx
  have hus := rv.zero
  subst hus
  obtain ⟨z, its, n, r, hl, e⟩ := I.lstM hH
  obtain ⟨u, hu, ru⟩ := r.get hy
  have hy' : its.toArray[its.toArray.size - 1]? = some u := by
    show its.toArray[its.length - 1]? = some u
    rw [← Array.getElem?_toList, ← hl]
    exact hu
  refine call_meets F.slot_list_pop ⟨_, e, rfl⟩ F.entry_list_pop (F.args_list_pop_1 _) (MeetsSeq.list_pop_last l its.toArray n u hy' (by rw [List.size_toArray]; omega)) ⟨e, ?_⟩
  refine ⟨y, _, I.lset (its' := its.dropLast) hH e ?_ r.dropLast ?_, ru, q⟩
  · show its.toArray.eraseIdxIfInBounds (its.toArray.size - 1) = its.dropLast.toArray
    rw [List.size_toArray, List.eraseIdxIfInBounds_toArray, erase_last]
  · rw [List.length_dropLast]
    omega
noncomputable def rPopAt : V → List V → Hp → VK → Prop := fun x vs H Q => ∃ l xs i k y, x = .ref l ∧ vs = [.int i] ∧ H l = some (.lst xs) ∧ -(2 ^ 63) ≤ i ∧ i < 2 ^ 63 ∧ seqIndex? i xs.length = some k ∧ xs[k]? = some y ∧ Q y (upd H l (.lst (xs.eraseIdx k)))
theorem mt_popAt : MtM X "list.pop" rPopAt := by
  intro pins s σ H x vs v us Q I rx rv h
  obtain ⟨l, xs, i, k, y, rfl, rfl, hH, h1, h2, hk, hy, q⟩ := h
  cases rx
  obtain ⟨u, rfl, ru⟩ := rv.one
  obtain ⟨t, rfl⟩ := ru
  obtain ⟨z, its, n, r, hl, e⟩ := I.lstM hH
  obtain ⟨w, hw, rw'⟩ := r.get hy
  refine call_meets F.slot_list_pop ⟨_, e, rfl⟩ F.entry_list_pop (F.args_list_pop_2 _ _)
    (MeetsSeq.list_pop_at l its.toArray n i t k w (fitsIndex_both h1 h2) (by rw [List.size_toArray, ← hl]; exact hk) (by rw [← Array.getElem?_toList]; exact hw) (by rw [List.size_toArray]; omega)) ⟨e, ?_⟩
  refine ⟨y, _, I.lset (its' := its.eraseIdx k) hH e ?_ (r.eraseIdx k) ?_, rw', q⟩
  · show its.toArray.eraseIdxIfInBounds k = (its.eraseIdx k).toArray
    rw [List.eraseIdxIfInBounds_toArray]
  · have := len_erase xs k
    omega
noncomputable def rCat : R2 := fun x y H Q => ∃ l b xs zs, x = .ref l ∧ y = .ref b ∧ H l = some (.lst xs) ∧ H b = some (.lst zs) ∧ xs.length + zs.length ≤ sizeLine ∧ ∀ p, H p = none → Q (.ref p) (upd H p (.lst (xs ++ zs)))
theorem op_cat : OpR X (binaryOp .Add) rCat := by
  intro pins s σ H x y v u Q I rx ry h
  obtain ⟨l, b, xs, zs, rfl, rfl, hH, hB, hz, q⟩ := h
  cases rx
  cases ry
  obtain ⟨z, its, n, r, hl, e⟩ := I.lstM hH
  obtain ⟨z2, its2, n2, r2, hl2, e2⟩ := I.lstM hB
  refine PySem.P.add_list e e2 ?_ (by rw [List.size_toArray, List.size_toArray]; omega)
  have ea : its.toArray ++ its2.toArray = (its ++ its2).toArray := by simp
  rw [ea]
  exact ⟨.ref _, _, I.lnew (t' := s.toks) (r.append r2) (by rw [List.length_append]; omega), rfl, q _ I.fresh⟩
end
section
variable {prog : Program} {w : World} {A : Around} {E : Value → Shared → Prop} {s : Shared}
end
section
variable {X : Cx}
end
end L2
namespace Att
open PySem PySem.W PySem.Calls PyProof.Rows
theorem ints_of_wellAll {P : Params} {h : Heap} : ∀ (ns : List Int) (vs : List Value), WellAll P h vs (ns.map WData.int) → IntsAre vs ns := by
  intro ns
  induction ns with
  | nil =>
    intro vs w
    rw [List.map_nil] at w
    cases w
    exact .nil
  | cons n ns ih =>
    intro vs w
    rw [List.map_cons] at w
    cases w with
    | cons a b =>
      cases a
      exact .cons _ _ (ih _ b)
theorem script_of {l : OpenLaw} {n : Nat} (hn : l.most = some n) {P : Params} {h : Heap} {args : List WData} {vals : List Value}
    (hpre : l.row.toRowW.claim.pre args = true) (hwl : WellAll P h vals args) :
    ∃ a vs ns, vals = [Value.ref a] ∧ args = [WData.list (ns.map WData.int)] ∧ h.get? a = some { cls := .type "list", data := .seq vs.toArray } ∧ IntsAre vs ns ∧ ns.length ≤ n := by
  have hsh : WShape.hasAll [] args [.list .int] = true := (pre_splitW hpre).1
  have hc : l.pre.holds [] { args := args } = true := (pre_splitW hpre).2
  obtain ⟨d, r, rfl, h1, h2⟩ := hasAllW_cons hsh
  obtain rfl := hasAllW_nil h2
  obtain ⟨xs, rfl, h3⟩ := hasW_list h1
  obtain ⟨ns, rfl⟩ := items_int h3
  have hlen : ns.length ≤ n := by
    unfold OpenLaw.pre at hc
    have h4 : (WTm.not (.lt (.lit (.int (n : Int))) (.len (.arg 0)))).holds [] { args := [.list (ns.map .int)] } = true := by
      have h4 := (holds_andW hc).1
      rw [hn] at h4
      exact h4
    have h5 := condW_of h4 (w_not (w_lt w_lit (w_len_list (w_arg rfl))))
    rw [List.length_map] at h5
    refine Nat.le_of_not_lt fun q => ?_
    have q' : (n : Int) < ((ns.length : Nat) : Int) := by omega
    first
      | (rw [decide_eq_true q'] at h5; exact absurd h5 (by decide))
      | (simp at h5; omega)
  cases hwl with
  | cons w1 w2 =>
    cases w2
    cases w1 with
    | list ho hall => exact ⟨_, _, ns, rfl, rfl, ho, ints_of_wellAll ns _ hall, hlen⟩
theorem post_true (l : OpenLaw) (args : List WData) : l.row.toRowW.claim.post args (.bool true) args = true :=
  postW_of (r := l.row.toRowW) (X := (true == true))
    (show WShape.has [] (.bool true) .bool = true by first | rfl | decide | simp [WShape.has, WShape.arms, WShape.armsAll])
    (show (WTm.eq .res (.lit (.bool true))).value [] { args := args, res := some (.bool true), after := args } = some (.bool (true == true)) from w_eq_bool (w_res rfl) w_lit) rfl
theorem attach_call {l : OpenLaw} {n : Nat} {q : Program} {loose : List Str} {XP : (Str → Option Value) → Heap → Prop} {YP : World → Heap → Prop} {d : DefRec}
    (hn : l.most = some n) (hdf : d.params.defaults = [])
    (call : ∀ (w : World) (s₀ s₁ : Shared) (mg mb : Str → Option Value) (fa : Addr) (o : Obj) (pm cd doc : Value) (a : Addr) (vs : List Value) (ns : List Int),
      Ground q loose [] XP w s₀ mg mb s₁.heap → YP w s₁.heap →
      s₁.heap.get? fa = some o → o.data = .func (docDef d.name d.params d.body d.scope pm cd doc) → s₁.heap.CodeRec cd d.name → mg d.name = some (.ref fa) →
      s₁.heap.get? a = some { cls := .type "list", data := .seq vs.toArray } → IntsAre vs ns → ns.length ≤ n → s₁.gens = #[] →
      codeAny (model l.prog w) callerA (.call (.ref fa) ⟨[.ref a], []⟩) (fun r s' => r = .ok (.ret (.bool true)) ∧ OldK s₁.heap s'.heap ∧ s'.os = s₁.os ∧ AllBare s'.gens) s₁) :
    WalkO q loose XP YP l.row.toRowW d [] (fun f vs => PySem.call f vs) := by
  intro w s₀ s₁ mg mb G Y fa o pm cd doc dV kV ho hd hcd hD hmg hg args vals as hpre hlay hrd hwl hlo
  obtain rfl : dV = .none := Dflts.none hD hdf
  obtain rfl : kV = .none := Dflts.noKw hD
  obtain ⟨a, vs, ns, rfl, rfl, hobj, hints, hlen⟩ := script_of hn hpre hwl
  refine enter_call (codeAny_mono (call w s₀ s₁ mg mb fa o pm cd doc a vs ns G Y ho (fd_plain hd) hcd hmg hobj hints hlen hg) fun r s' hq => ?_)
  obtain ⟨rfl, h2, h3, h4⟩ := hq
  exact ⟨.inl ⟨.bool true, .bool true, [], rfl, fun _ => rfl, .bool true, post_true l _, fun _ => ⟨List.Pairwise.nil, fun _ hm => (nomatch hm)⟩⟩, h2, h3, h4⟩
section
variable {prog : Program} {w : World} {A : Around} {E : Value → Shared → Prop} {s : Shared} {K : Frag}
end
end Att
namespace L2
open PySem PySem.Spec PyProof.Rows
theorem vals_ints : ∀ {vs : List Value} {ns : List Int}, IntsAre vs ns → Vals (ns.map V.int) vs
  | _, _, .nil => .nil
  | _, _, .cons n t h => .cons ⟨t, rfl⟩ (vals_ints h)
noncomputable def Only (H : Hp) : Prop := ∀ b, H b = none ∨ ∃ o xs, H b = some (.frz o (.lst xs))
theorem law_call {P : Program} {w : World} {K : W.Frag} {mg mb : Str → Option Value} {CX : CXT} {k : Nat} {fa a : Addr} {fd : FuncData} {x : Str} {sp : Sp} {s₁ : Shared} {vs : List Value} {ns : List Int}
    (KX : K.In s₁.heap) (hns : s₁.heap.Ns mainGlobals mg) (hb : s₁.heap.Ns builtinsNs mb) (hbb : ∀ x : Str, x ≠ "__name__" → mb x = bootBuiltins x) (hlim : s₁.heap.NoLimit) (hg : s₁.gens = #[])
    (ha : s₁.heap.get? a = some { cls := .type "list", data := .seq vs.toArray }) (hi : IntsAre vs ns) (hl : ns.length ≤ sizeLine) (hr : Room k callerA)
    (F : ∀ base : Heap, K.In base → base.Ns mainGlobals mg → FnOk P w K mg base CX k fa fd [x] sp) (hbind : ∀ (s : Shared) (u : Value), BindsTo s fd ⟨[u], []⟩ [(x, u)])
    (hsp : ∀ H : Hp, Only H → SqL K H a (ns.map V.int) → sp [.ref a] H (fun v _ => v = .bl true) fun _ _ _ => False)
    (hCX : ∀ H e s', CX [] H s₁ (fun _ _ _ => False) e s' → False) :
    codeAny (model P w) callerA (.call (.ref fa) ⟨[.ref a], []⟩) (fun r s' => r = .ok (.ret (.bool true)) ∧ OldK s₁.heap s'.heap ∧ s'.os = s₁.os ∧ AllBare s'.gens) s₁ := by
  have rv := vals_ints hi
  have lenV := hi.length
  -- from an abstract heap in which nothing but the script may be tracked
  have core : ∀ H : Hp, Only H → SqL K H a (ns.map V.int) → HOk P w H s₁.heap → (∀ b, H b ≠ none → b = a) → (H a ≠ none → K.lookup a = none) →
      codeAny (model P w) callerA (.call (.ref fa) ⟨[.ref a], []⟩) (fun r s' => r = .ok (.ret (.bool true)) ∧ OldK s₁.heap s'.heap ∧ s'.os = s₁.os ∧ AllBare s'.gens) s₁ := by
    intro H hO hS hok hA hK
    have base_of : ∀ {b : Addr} {o : Obj}, s₁.heap.get? b = some o → H b = none → (hidT s₁.heap H).get? b = some o := fun e n => hidT_get e n
    have noA : ∀ {b : Addr} {o : Obj} {es : Array DictEntry} {ep : Nat}, s₁.heap.get? b = some o → o.data = .dict es ep → H b = none := fun {b o es ep} e d => by
      cases q : H b with
      | none => rfl
      | some u =>
        have e' : b = a := hA b (by rw [q]; simp)
        subst e'
        rw [ha] at e; cases e
        have d' : Data.seq vs.toArray _ = Data.dict es ep := d
        cases d'
    have nsK : ∀ {b : Addr} {m : Str → Option Value}, s₁.heap.Ns b m → (hidT s₁.heap H).Ns b m := fun {b m} ⟨o, es, ep, e, d, r⟩ => ⟨o, es, ep, base_of e (noA e d), d, r⟩
    have hKb : K.In (hidT s₁.heap H) := fun b o e => base_of (KX b o e) (by
      cases q : H b with
      | none => rfl
      | some u =>
        have e' : b = a := hA b (by rw [q]; simp)
        subst e'
        rw [hK (by rw [q]; simp)] at e; cases e)
    have hM : Mod K mg (hidT s₁.heap H) := ⟨hKb, nsK hns, ⟨mb, nsK hb, hbb⟩, let ⟨mc, h1, h2⟩ := hlim; ⟨mc, nsK h1, h2⟩⟩
    have e0 : Env0 P w K mg (hidT s₁.heap H) callerA [] s₁ H := ⟨rfl, hM, fun b o e => of_hidT e, Nat.le_of_eq (hidT_size _ _), trivial, fun b hb => absurd (show b ∈ ([] : List Addr) from hb) (by simp), hok, .of_eq hg⟩
    refine codeAny_mono ((F _ hKb (nsK hns)).run callerA [] s₁ H ⟨[.ref a], []⟩ [.ref a] [.ref a] _ _ hr e0 (hbind s₁ (.ref a)) (.cons rfl .nil) (hsp H hO hS)) fun r s' h => ?_
    cases r with
    | error e => exact (hCX H e s' h).elim
    | ok fl =>
      cases fl with
      | next => exact False.elim h
      | brk => exact False.elim h
      | cont => exact False.elim h
      | ret u =>
        obtain ⟨v, H', os, bare, un, hok', r', q⟩ := h
        have q' : v = .bl true := q
        subst q'
        obtain rfl : u = Value.bool true := r'
        refine ⟨rfl, OldK.of_keep fun b o e => ?_, os, bare⟩
        cases q : H b with
        | none => exact un.keep b o e q (by intro z; exact absurd (show b ∈ ([] : List Addr) from z) (by simp)) (by simp)
        | some u =>
          rcases hO b with z | ⟨ob, xs, z⟩
          · rw [q] at z; cases z
          · have z2 := un.frzs b ob _ z
            obtain ⟨e1, _⟩ := hok b _ z
            obtain ⟨e2, _⟩ := hok' b _ z2
            rw [e] at e1; cases e1
            exact e2
  cases hk : K.lookup a with
  | some o =>
    -- the script is one of the module's own objects
    have e := KX a o hk
    rw [ha] at e
    cases e
    refine core (fun _ => none) (fun _ => .inl rfl) (.inr ⟨_, vs.toArray, _, hk, rfl, rfl, rfl, by rw [List.size_toArray, lenV]; exact hl, by simpa using rv⟩) (fun b u z => by have z' : (none : Option HO) = some u := z; cases z') (fun b z => absurd rfl z) fun z => absurd rfl z
  | none =>
    refine core (fun b => if b = a then some (.frz { cls := .type "list", data := .seq vs.toArray } (.lst (ns.map V.int))) else none) (fun b => ?_) (.inl (.inr ⟨{ cls := .type "list", data := .seq vs.toArray }, if_pos rfl⟩)) (fun b u z => ?_) (fun b z => ?_) fun _ => hk
    · by_cases hb : b = a
      · exact .inr ⟨_, _, if_pos hb⟩
      · exact .inl (if_neg hb)
    · by_cases hb : b = a
      · have z' := (if_pos hb).symm.trans z
        cases z'
        subst hb
        exact ⟨ha, by rw [List.length_map]; exact hl, vs, _, rv, ha⟩
      · have z' := (if_neg hb).symm.trans z
        cases z'
    · by_cases hb : b = a
      · exact hb
      · exact absurd (if_neg hb) z
end L2
namespace L2
open PySem PySem.Spec PyProof.Rows
theorem walk_of {l : W.OpenLaw} {n k : Nat} {q : Program} {loose : List Str} {XP : (Str → Option Value) → Heap → Prop} {YP : World → Heap → Prop} {d : DefRec} {K : Params → W.Frag} {CX : World → CXT} {sp : World → Sp} {x : Str}
    (hn : l.most = some n) (hn2 : n ≤ sizeLine) (hdf : d.params.defaults = []) (hr : Room k callerA)
    (hY : ∀ (w : World) (h : Heap), YP w h → (K w.params).In h)
    (F : ∀ (w : World) (mg : Str → Option Value) (fa : Addr) (h : Heap), (K w.params).In h → h.Ns mainGlobals mg → mg d.name = some (.ref fa) →
      ∃ fd : FuncData, (∀ (s : Shared) (u : Value), BindsTo s fd ⟨[u], []⟩ [(x, u)]) ∧
        ∀ base : Heap, (K w.params).In base → base.Ns mainGlobals mg → FnOk l.prog w (K w.params) mg base (CX w) k fa fd [x] (sp w))
    (hsp : ∀ (w : World) (H : Hp) (a : Addr) (ns : List Int), ns.length ≤ n → Only H → SqL (K w.params) H a (ns.map V.int) → sp w [.ref a] H (fun v _ => v = .bl true) fun _ _ _ => False)
    (hCX : ∀ (w : World) (H : Hp) (s : Shared) (e : Value) (s' : Shared), CX w [] H s (fun _ _ _ => False) e s' → False) :
    W.WalkO q loose XP YP l.row.toRowW d [] (fun f vs => PySem.call f vs) := by
  refine Att.attach_call hn hdf fun w s₀ s₁ mg mb fa o pm cd doc a vs ns G Y ho hd hcd hmg hobj hints hlen hg => ?_
  have KX := hY w _ Y
  obtain ⟨fd, hb, hF⟩ := F w mg fa _ KX G.T.g hmg
  exact law_call KX G.T.g G.T.b G.T.builtins G.T.nolimit hg hobj hints (Nat.le_trans hlen hn2) hr hF hb (fun H hO hS => hsp w H a ns hlen hO hS) fun H e s' => hCX w H s₁ e s'
end L2
namespace L2
open PySem PySem.Spec PyProof.Rows
noncomputable def inClass (s : Stmt) (j : Nat) : Stmt := match s with
  | .ClassDef _ _ _ body _ _ _ _ _ _ _ => body.getD j (.Pass ⟨0, 0, 0, 0⟩)
  | _ => .Pass ⟨0, 0, 0, 0⟩
noncomputable def defArgs (s : Stmt) : Arguments := match s with
  | .FunctionDef _ a _ _ _ _ _ _ _ _ => a
  | _ => { posonlyargs := [], args := [], vararg := none, kwonlyargs := [], kw_defaults := [], kwarg := none, defaults := [] }
noncomputable def defBody (s : Stmt) : List Stmt := match s with
  | .FunctionDef _ _ b _ _ _ _ _ _ _ => b
  | _ => []
noncomputable def defScope (s : Stmt) : Scope := match s with
  | .FunctionDef _ _ _ _ _ _ sc _ _ _ => sc
  | _ => { kind := .function, names := [], isGenerator := false, isCoroutine := false }
noncomputable abbrev CX0 : CXT := fun _ _ _ _ _ _ => False
noncomputable abbrev E0 : XK := fun _ _ _ => False
theorem pass0 {X : Cx} : Passes CX0 X E0 := fun _ _ _ _ _ _ _ h => h.elim
structure Fun (K : W.Frag) (x qual : Str) (st : Stmt) (f : Addr) (fd : FuncData) : Prop where
  ex : ∃ (oc : Value) (od : Option Addr) (kV doc pm : Value) (an : Option Addr) (cdv ct : Value) (osl : Array (Option Value)),
    fd = W.fnOf x qual (defArgs st) (defBody st) (defScope st) .none kV doc pm an cdv ct ∧ K.lookup f = some ⟨oc, od, .func fd, osl⟩ ∧ W.codeIn K cdv qual = true
  kp : W.keepIn K (.ref f) = true
section
variable {P : Program} {w : World} {K : W.Frag} {mg : Str → Option Value} {base : Heap}
theorem Fun.ok {x qual : Str} {st : Stmt} {f : Addr} {fd : FuncData} {N ps : List Str} {k : Nat} {sp : Sp} (F : Fun K x qual st f fd) (S : FnScope N ps (defScope st)) (len : ∀ vs H Q E, sp vs H Q E → vs.length = ps.length)
    (hbody : ∀ (cdv : Value) (A : Around) (outer : List Env) (s : Shared) (H : Hp) (vs : List V) (Q : VK) (E : XK), Room k (A.deeper (envOfC qual (defScope st) s.heap.objs.size f cdv)) → sp vs H Q E →
      ∃ t, PSs (cxOf CX0 P w K mg base N qual (defScope st) f cdv A outer s H E).nox (defBody st) t ∧ t { nx := fun _ H' => Q .non H', rt := Q } (start N vs) H) : FnOk P w K mg base CX0 (k + 1) f fd ps sp := by
  obtain ⟨oc, od, kV, doc, pm, an, cdv, ct, osl, rfl, lk, hcd⟩ := F.ex
  refine fn_of lk hcd S len fun A outer s H vs Q E hr hsp => ?_
  obtain ⟨t, h, q⟩ := hbody cdv A outer s H vs Q E hr hsp
  exact ⟨t, h.nox, q⟩
theorem Fun.binds {x qual : Str} {st : Stmt} {f : Addr} {fd : FuncData} {ps : List Str} (F : Fun K x qual st f fd)
    (h : ∀ (kV doc pm : Value) (an : Option Addr) (cdv ct : Value) (us : List Value), us.length = ps.length → bindArgs (W.fnOf x qual (defArgs st) (defBody st) (defScope st) .none kV doc pm an cdv ct) ⟨us, []⟩ = pure (ps.zip us)) : Binds K fd ps [] := by
  obtain ⟨oc, od, kV, doc, pm, an, cdv, ct, osl, rfl, lk, hcd⟩ := F.ex
  exact .all (h kV doc pm an cdv ct)
theorem fun_mk {x qual : Str} {st : Stmt} {f : Addr} {oc : Value} {od an : Option Addr} {osl : Array (Option Value)} {kV doc pm cdv ct : Value} (l : K.lookup f = some ⟨oc, od, .func (W.fnOf x qual (defArgs st) (defBody st) (defScope st) .none kV doc pm an cdv ct), osl⟩)
    (c : W.codeIn K cdv qual = true) (k : W.keepIn K (.ref f) = true) : Fun K x qual st f (W.fnOf x qual (defArgs st) (defBody st) (defScope st) .none kV doc pm an cdv ct) := ⟨⟨oc, od, kV, doc, pm, an, cdv, ct, osl, rfl, l, c⟩, k⟩
end
theorem hu_of {A : Around} {k : Nat} (hr : Room k A) : A.units + 1 < cLine := Nat.lt_of_le_of_lt (Nat.add_le_add_left (by decide : 1 ≤ 64) _) hr.units
section
variable {X : Cx}
theorem pv (i : Nat) {x : Str} {pos : Pos} (hN : X.N[i]? = some x := by rfl) (hv : Vis X.env.scope x := by first | exact Or.inl rfl | exact Or.inr (Or.inl rfl) | exact Or.inr (Or.inr rfl)) (hd : (x == ("__debug__" : Str)) = false := by decide)
    (hcd : (x == ("__classdict__" : Str)) = false := by decide) : PE X (.Name x pos) (tVar i) := pe_var hN hv hd hcd
end
noncomputable def Same (H H' : Hp) : Prop := ∀ b o, H b = some o → H' b = some o
theorem Same.refl (H : Hp) : Same H H := fun _ _ h => h
theorem Same.trans {H H1 H2 : Hp} (a : Same H H1) (b : Same H1 H2) : Same H H2 := fun c o h => b c o (a c o h)
theorem Same.free {H H' : Hp} (e : Same H H') {l : Addr} (h : H' l = Option.none) : H l = Option.none := by
  cases q : H l with
  | none => rfl
  | some o =>
    rw [e l o q] at h
    cases h
end L2
namespace L2
open PySem PySem.Spec PyProof.Rows
section
variable {κ : Type} [DecidableEq κ]
noncomputable def valV (kvs : List (κ × V)) (k : κ) : Option V := (kvs.find? fun kv => decide (kv.1 = k)).map (·.2)
theorem valV_pos {p : κ × V} {r : List (κ × V)} {k : κ} (e : p.1 = k) : valV (p :: r) k = some p.2 := by simp [valV, List.find?_cons, e]
theorem valV_neg {p : κ × V} {r : List (κ × V)} {k : κ} (e : ¬ p.1 = k) : valV (p :: r) k = valV r k := by simp [valV, List.find?_cons, e]
theorem KV.val {kvs : List (κ × V)} {vs : List (κ × Value)} (r : KV kvs vs) (k : κ) : RelO (valV kvs k) (valueAt vs k) := by
  unfold KV at r
  induction r with
  | nil => exact True.intro
  | @cons p q ps qs h t ih =>
    obtain ⟨h1, h2⟩ := h
    by_cases e : p.1 = k
    · have e' : q.1 = k := h1.symm.trans e
      have b : valueAt (q :: qs) k = some q.2 := by simp [valueAt, List.find?_cons, e']
      rw [valV_pos e, b]; exact h2
    · have e' : ¬ q.1 = k := fun z => e (h1.trans z)
      have b : valueAt (q :: qs) k = valueAt qs k := by simp [valueAt, List.find?_cons, e']
      rw [valV_neg e, b]; exact ih
theorem KV.length {kvs : List (κ × V)} {vs : List (κ × Value)} (r : KV kvs vs) : kvs.length = vs.length := Paired.length r
end
theorem kV_is {P : Program} {w : World} {k : Key} {u : Value} (r : RelV (kV k) u) : (mixKind P w).is k u = true := by
  cases k with
  | inl i => obtain ⟨t, e⟩ := (show ∃ t, u = Value.int i t from r); subst e; exact mixKind_int P w i t
  | inr x => obtain ⟨t, e⟩ := (show ∃ t, u = Value.str x t from r); subst e; exact mixKind_str P w x t
theorem items_are {P : Program} {w : World} : ∀ {ks : List Key} {us : List Value}, Vals (ks.map kV) us → ItemsAre (mixKind P w) ks us
  | [], _, r => by rw [List.map_nil] at r; cases r; exact .nil
  | k :: ks, _, r => by
    rw [List.map_cons] at r
    cases r with
    | cons h t => exact .cons (kV_is h) (items_are t)
noncomputable abbrev KT (H : Hp) : List (List Key × V) → List (List Key × Addr × Value) → Prop := Paired fun p q => p.1 = q.1 ∧ H q.2.1 = some (.tup (p.1.map kV)) ∧ RelV p.2 q.2.2
theorem KT.val {H : Hp} {kvs : List (List Key × V)} {xs : List (List Key × Addr × Value)} (r : KT H kvs xs) (k : List Key) : RelO (valV kvs k) ((atKey xs k).map (·.2)) := by
  induction r with
  | nil => exact True.intro
  | @cons p q ps qs h t ih =>
    obtain ⟨h1, _, h2⟩ := h
    by_cases e : p.1 = k
    · have e' : q.1 = k := h1.symm.trans e
      have b : atKey (q :: qs) k = some q.2 := by simp [atKey, List.find?_cons, e']
      rw [valV_pos e, b]; exact h2
    · have e' : ¬ q.1 = k := fun z => e (h1.trans z)
      have b : atKey (q :: qs) k = atKey qs k := by simp [atKey, List.find?_cons, e']
      rw [valV_neg e, b]; exact ih
section
variable {P : Program} {w : World} {H : Hp} {h : Heap} {a : Addr}
theorem rd_of {u : HO} (ok : HOk P w H h) (e : Rd H a u) : ObjOk P w H h a u := e.ok ok
theorem dk_rd {kvs : List (Key × V)} (ok : HOk P w H h) (e : Rd H a (.dK kvs)) : kvs.length ≤ sizeLine ∧ (a == sysModules) = false ∧ ∃ vs, KV kvs vs ∧ h.DictOf (mixKind P w) a vs :=
  show ObjOk P w H h a (.dK kvs) from rd_of ok e
theorem key_of {ks : List Key} (ok : HOk P w H h) (e : H a = some (.tup (ks.map kV))) : (tupleKind (mixKind P w)).is h ks a := by
  obtain ⟨_, its, r, o, h1, h2, n, h3⟩ := (show ObjOk P w H h a (.tup (ks.map kV)) from ok a _ e)
  exact ⟨o, its.toArray, n, h1, h2, h3, by simpa using items_are r⟩
theorem dt_rd {kvs : List (List Key × V)} (ok : HOk P w H h) (e : Rd H a (.dT kvs)) : kvs.length ≤ sizeLine ∧ (a == sysModules) = false ∧
    ∃ xs, KT H kvs xs ∧ h.DictOfH (tupleKind (mixKind P w)) a xs := by
  obtain ⟨z, y, xs, r, o, es, ep, h1, h2, h3, h4, h5⟩ := (show ObjOk P w H h a (.dT kvs) from rd_of ok e)
  refine ⟨z, y, xs, r, o, es, ep, h1, h2, h3, h4, fun x hx => ?_, h5⟩
  have all : ∀ {l : List (List Key × V)} {m : List (List Key × Addr × Value)}, KT H l m → ∀ x ∈ m, (tupleKind (mixKind P w)).is h x.1 x.2.1 := by
    intro l m q
    induction q with
    | nil => intro x hx; exact nomatch hx
    | @cons p q ps qs hq t ih =>
      intro x hx
      rcases List.mem_cons.mp hx with e | hx
      · subst e
        exact key_of ok (by rw [← hq.1]; exact hq.2.1)
      · exact ih x hx
  exact all r x hx
end
noncomputable def DGet (H : Hp) (a : Addr) (y : V) (r : Option V) : Prop :=
  (∃ kvs k, Rd H a (.dK kvs) ∧ y = kV k ∧ r = valV kvs k) ∨ ∃ kvs k b, Rd H a (.dT kvs) ∧ y = .ref b ∧ H b = some (.tup (k.map kV)) ∧ r = valV kvs k
section
variable {X : Cx} {pins : List (Addr × Obj)} {σ : St} {H : Hp} {s : Shared} {a : Addr} {y v : V} {u r : Value} {o : Option V} {A : Around} {E : Value → Shared → Prop}
theorem Inv.big (I : Inv X pins σ H s) : sysModules < s.heap.objs.size := by
  have h : mainGlobals < s.heap.objs.size := (I.mod.glob.keeps I.bk).lt
  exact Nat.lt_trans (by decide) h
theorem d_getItem {Q : Value → Shared → Prop} (hu : A.units + 1 < cLine) (I : Inv X pins σ H s) (g : DGet H a y (some v)) (ry : RelV y u) (h : ∀ w' s', Inv X pins σ H s' → RelV v w' → Q w' s') :
    wpAny (model X.prog X.w) A (getItem (.ref a) u) Q E s := by
  rcases g with ⟨kvs, k, e, ey, l⟩ | ⟨kvs, k, b, e, ey, eb, l⟩
  · subst ey
    obtain ⟨z, hd, vs, rel, dd⟩ := dk_rd I.hok e
    obtain ⟨w', hw, rw'⟩ := RelO.some_of (v := v) (o := valueAt vs k) (by rw [l]; exact rel.val k)
    exact wpAny_getItem_of (kV_is ry) dd.mapOf hw (h w' _ (I.tok _) rw')
  · subst ey
    cases (show u = Value.ref b from ry)
    obtain ⟨z, hd, xs, rel, dd⟩ := dt_rd I.hok e
    obtain ⟨w', hw, rw'⟩ := RelO.some_of (v := v) (o := (atKey xs k).map (·.2)) (by rw [l]; exact rel.val k)
    obtain ⟨p, hp, hp2⟩ := Option.map_eq_some_iff.mp hw
    refine wpAny_getItem_heap (tupleKind_room_in1 hu) (key_of I.hok eb) dd hp ?_
    rw [hp2]
    exact h w' _ (I.tok _) rw'
end
section
variable {X : Cx} {pins : List (Addr × Obj)} {σ : St} {H : Hp} {s : Shared} {a : Addr} {kvs : List (Key × V)} {k : Key} {u : Value} {A : Around} {E : Value → Shared → Prop}
theorem d_len {Q : Value → Shared → Prop} (I : Inv X pins σ H s) (e : Rd H a (.dK kvs)) (h : ∀ t s', Inv X pins σ H s' → Q (.int kvs.length t) s') : wpAny (model X.prog X.w) A (call (.builtin "len") [.ref a]) Q E s := by
  obtain ⟨z, hd, vs, rel, dd⟩ := dk_rd I.hok e
  refine call_len_dict hd dd (by rw [← rel.length]; rw [sizeLine_eq] at z; omega) ?_
  rw [← rel.length]
  exact h _ _ (I.tok _)
end
theorem dict_typeIs {X : Cx} {pins : List (Addr × Obj)} {σ : St} {H : Hp} {s : Shared} {a : Addr} {y : V} {o : Option V} (I : Inv X pins σ H s) (g : DGet H a y o) : s.TypeIs (.ref a) "dict" := by
  rcases g with ⟨kvs, k, e, _, _⟩ | ⟨kvs, k, b, e, _, _, _⟩
  · obtain ⟨_, _, vs, _, dd⟩ := dk_rd I.hok e
    exact dd.typeIs
  · obtain ⟨_, _, xs, _, dd⟩ := dt_rd I.hok e
    exact dd.typeIs
section
variable {X : Cx} {o i e value : Expr} {pos pos' tpos : Pos} {td ty tv : TE}
end
theorem dk_empty {P : Program} {w : World} {H : Hp} (h : Heap) (hb : sysModules < h.objs.size) : ObjOk P w H (h.push { cls := .type "dict", data := .dict #[] }) h.objs.size (.dK []) :=
  ⟨Nat.zero_le _, beq_eq_false_iff_ne.mpr (Ne.symm (Nat.ne_of_lt hb)), [], .nil, Heap.DictOf.new h⟩
noncomputable def tDNewK : TE := fun _ H Q => ∀ p, H p = none → Q (.ref p) (upd H p (.dK []))
section
variable {X : Cx} {pos : Pos}
theorem pe_dnewK : PE X (.Dict [] [] pos) tDNewK := fun pins s σ H Q I h =>
  wpAny_Dict_empty ⟨.ref s.heap.objs.size, _, I.laid (a := s.heap.objs.size) (o := .dK []) (t' := s.toks) (fun _ _ q => Heap.get?_push_of_some _ q) (Nat.le_refl _) (dk_empty s.heap I.big), rfl, h _ (I.hok.fresh (Nat.le_refl _))⟩
end
section
variable {X : Cx} {pins : List (Addr × Obj)} {σ : St} {H : Hp} {s : Shared} {a : Addr} {y d : V} {u r : Value} {o : Option V} {A : Around} {E : Value → Shared → Prop}
end
section
variable {X : Cx} {o e f : Expr} {apos cpos : Pos} {td ty tx : TE}
end
section
variable {X : Cx} {pins : List (Addr × Obj)} {σ : St} {H : Hp} {s : Shared} {a : Addr} {kvs : List (Key × V)} {A : Around} {E : Value → Shared → Prop}
end
section
variable {X : Cx} {pins : List (Addr × Obj)} {σ : St} {H : Hp} {s : Shared} {a : Addr} {y : V} {u : Value} {A : Around} {E : Value → Shared → Prop}
end
end L2
namespace L2
open PySem PySem.Spec PyProof.Rows
section
variable {X : Cx}
end
section
variable {κ : Type} [DecidableEq κ]
end
end L2
namespace L2
open PySem PySem.Spec PyProof.Rows
section
variable {X : Cx} {pins : List (Addr × Obj)} {σ : List (Option V)} {H : Hp} {s : Shared} {h' : Heap}
end
section
variable {X : Cx}
end
noncomputable def CDivL (i j : Int) : Prop := 0 < j ∧ j < 2 ^ 200
theorem log2_of {j : Int} (h0 : 0 < j) (h : j < 2 ^ 200) : j.natAbs.log2 < 9000 := by
  have e : j.natAbs < 2 ^ 200 := by
    have : (j.natAbs : Int) = j := Int.natAbs_of_nonneg (Int.le_of_lt h0)
    have h2 : (j.natAbs : Int) < ((2 ^ 200 : Nat) : Int) := by rw [this]; exact_mod_cast h
    exact_mod_cast h2
  have : j.natAbs.log2 < 200 := (Nat.log2_lt (by omega)).mpr e
  omega
section
variable {X : Cx}
theorem op_fdivL : OpR X (binaryOp .FloorDiv) (rI CDivL fun i j => .int (i / j)) := opI fun i j _ _ _ _ _ hc q => by
  have h1 : (0 : Int) < j := hc.1
  exact floordiv_int (by omega) (by rw [Int.fdiv_eq_ediv_of_nonneg i (by omega)]; exact q) (.inl (PyProof.noPylong_of_log2 (log2_of hc.1 hc.2)))
theorem call_isinst {T : String} : CallR X (.builtin "isinstance") (fun xs H Q => ∃ x t b, xs = [x, .ty T] ∧ TyOf X.K H x t ∧ W.kitOne X.K t (.type T) = some b ∧ Q (.bl b) H) := by
  intro pins s σ H xs us Q I r h
  obtain ⟨x, t, b, rfl, ty, e, q⟩ := h
  obtain ⟨u, w', rfl, ru, rt⟩ := vals2 r
  cases rt
  exact isinst_ok I ru ty e fun tk => ⟨.bl b, H, I.tok tk, rfl, q⟩
end
end L2
namespace L2
open PySem PySem.Spec PyProof.Rows
theorem same_new {H : Hp} {p : Addr} (h : H p = none) (o : HO) : Same H (upd H p o) := fun b u q => by rw [upd_ne (ne_of_none q h)]; exact q
structure Cal (P : Program) (w : World) (K : W.Frag) (mg : Str → Option Value) (base : Heap) (x : Str) (ps : List Str) (k : Nat) (sp : Sp) : Prop where
  ex : ∃ (f : Addr) (fd : FuncData), FnOk P w K mg base CX0 k f fd ps sp ∧ Binds K fd ps [] ∧ W.keepIn K (.ref f) = true ∧ mg x = some (.ref f)
theorem Cal.of {P : Program} {w : World} {K : W.Frag} {mg : Str → Option Value} {base : Heap} {x : Str} {ps : List Str} {k : Nat} {sp : Sp} {f : Addr} {fd : FuncData} {q : Str} {st : Stmt} (F : Fun K x q st f fd) (b : Binds K fd ps []) (m : mg x = some (.ref f))
    (o : FnOk P w K mg base CX0 k f fd ps sp) : Cal P w K mg base x ps k sp := ⟨f, fd, o, b, F.kp, m⟩
theorem pe_cal {X : Cx} {x : Str} {ps : List Str} {j k : Nat} {sp : Sp} {p pos : Pos} {e : Expr} {es : List Expr} {t : TA} (C : Cal X.prog X.w X.K X.mg X.base x ps k sp) (hr : Room j X.A) (hg : Gl X x)
    (ha : PA X (e :: es) t) (hj : k ≤ j := by decide) (hdb : (x == ("__debug__" : Str)) = false := by decide) (he : starEach (e :: es) X.env = (false, eval e X.env) :: starEach es X.env := by rfl) (hpl : (backTo pos (starEach es X.env)).any (·.1) = false := by rfl) :
    PE X (.Call (.Name x p) (e :: es) [] pos) (tCall sp [] E0 t) := by
  obtain ⟨f, fd, o, b, kp, m⟩ := C.ex
  exact pe_call o (hr.mono hj) hg m kp b .nil pass0 ha hdb he hpl
end L2
namespace L2
open PySem PySem.Spec PyProof.Rows
section
variable {X : Cx}
end
end L2
namespace L2
open PySem PySem.Spec PyProof.Rows
theorem closure_gen (env : Env) : ∀ (ns : List (Str × NameKind)) (acc : List (Str × Addr)), (∀ y ∈ ns, y.2 = .free → ∃ c, env.cells.lookup y.1 = some c) →
    ∃ new : List (Str × Addr), (∀ p ∈ new, env.cells.lookup p.1 = some p.2) ∧ (∀ y ∈ ns, y.2 = .free → ∃ c, (y.1, c) ∈ new) ∧
      (forIn ns acc (fun (x : Str × NameKind) (r : List (Str × Addr)) => match x with
        | (name, kind) => if (kind == NameKind.free) = true then do let c ← cellOf env name; pure (ForInStep.yield ((name, c) :: r)) else pure (ForInStep.yield r)) : Sem (List (Str × Addr))) = pure (new ++ acc)
  | [], acc, _ => ⟨[], fun _ h => (nomatch h), fun _ h => (nomatch h), rfl⟩
  | (n, k) :: rest, acc, h => by
    by_cases hk : k = .free
    · subst hk
      obtain ⟨c, hc⟩ := h (n, .free) List.mem_cons_self rfl
      obtain ⟨new, h1, h2, h3⟩ := closure_gen env rest ((n, c) :: acc) fun y hy => h y (List.mem_cons_of_mem _ hy)
      refine ⟨new ++ [(n, c)], fun p hp => ?_, fun y hy hf => ?_, ?_⟩
      · rcases List.mem_append.mp hp with z | z
        · exact h1 p z
        · obtain rfl := List.mem_singleton.mp z
          exact hc
      · rcases List.mem_cons.mp hy with z | z
        · subst z; exact ⟨c, by simp⟩
        · obtain ⟨c', z'⟩ := h2 y z hf
          exact ⟨c', List.mem_append_left _ z'⟩
      · rw [List.forIn_cons]
        have e1 : cellOf env n = pure c := by unfold cellOf; rw [hc]
        simp only [beq_self_eq_true, if_true, e1]
        rw [List.append_assoc]
        exact h3
    · obtain ⟨new, h1, h2, h3⟩ := closure_gen env rest acc fun y hy => h y (List.mem_cons_of_mem _ hy)
      refine ⟨new, h1, fun y hy hf => ?_, ?_⟩
      · rcases List.mem_cons.mp hy with z | z
        · subst z; exact absurd hf hk
        · exact h2 y z hf
      · rw [List.forIn_cons]
        have e1 : (k == NameKind.free) = false := by simpa using hk
        simp only [e1, Bool.false_eq_true, if_false]
        exact h3
theorem lookup_mem {l : List (Str × Addr)} {x : Str} {c : Addr} (h : (x, c) ∈ l) : ∃ c', l.lookup x = some c' := by
  induction l with
  | nil => cases h
  | cons p r ih =>
    obtain ⟨y, d⟩ := p
    rw [List.lookup_cons]
    cases e : x == y with
    | true => exact ⟨d, rfl⟩
    | false =>
      rcases List.mem_cons.mp h with z | z
      · have : x = y := congrArg Prod.fst z
        rw [this] at e; simp at e
      · exact ih z
theorem closure_for {scope : Scope} {env : Env} (h : ∀ y ∈ scope.names, y.2 = .free → ∃ c, env.cells.lookup y.1 = some c) :
    ∃ cl, closureFor scope env = pure cl ∧ (∀ x c, cl.lookup x = some c → env.cells.lookup x = some c) ∧ (∀ y ∈ scope.names, y.2 = .free → ∃ c, cl.lookup y.1 = some c) := by
  obtain ⟨new, h1, h2, h3⟩ := closure_gen env scope.names [] h
  refine ⟨new, ?_, fun x c e => h1 _ (PySem.mem_of_lookup e), fun y hy hf => ?_⟩
  · rw [List.append_nil] at h3
    have e : closureFor scope env = ((forIn scope.names ([] : List (Str × Addr)) (fun (x : Str × NameKind) (r : List (Str × Addr)) => match x with
        | (name, kind) => if (kind == NameKind.free) = true then do let c ← cellOf env name; pure (ForInStep.yield ((name, c) :: r)) else pure (ForInStep.yield r)) : Sem (List (Str × Addr))) >>= fun r => pure r) := rfl
    rw [e, h3]
    rfl
  · obtain ⟨c, hc⟩ := h2 y hy hf
    exact lookup_mem hc
section
variable {prog : Program} {w : World} {A : Around} {R : Result → Shared → Prop} {s : Shared}
theorem compLoop_gen {elt target iter : Expr} {ifs : List Expr} {scope : Scope} {pos : Pos} {it acc : Value} {env : Env} (I : Nat → Shared → Prop)
    (turn : ∀ n s, I n s → wpAny (model prog w) A (pyNext it) (fun r s₁ => match r with
      | none => R (.ok .next) s₁
      | some v => wpAny (model prog w) A (letOwnedTupleGo target it v) (fun _ s₁' => wpAny (model prog w) A (assign target env v) (fun _ s₂ =>
          wpAny (model prog w) A (forIn ifs true fun c r => if r = true then do let ok ← isTrue c env (eval c env); pure (ForInStep.yield ok) else pure (ForInStep.yield r)) (fun ok s₃ =>
            if ok = true then wpAny (model prog w) A (eval elt env) (fun x s₄ =>
              wpAny (model prog w) A (call (.builtin "list.append") [acc, x]) (fun _ s₅ => ∃ m, m < n ∧ I m s₅) (notedBy (model prog w) A env fun e s' => R (.error e) s') s₄) (notedBy (model prog w) A env fun e s' => R (.error e) s') s₃
            else ∃ m, m < n ∧ I m s₃) (notedBy (model prog w) A env fun e s' => R (.error e) s') s₂) (notedBy (model prog w) A env fun e s' => R (.error e) s') s₁') (notedBy (model prog w) A env fun e s' => R (.error e) s') s₁) (notedBy (model prog w) A env fun e s' => R (.error e) s') s)
    (n : Nat) (h : I n s) :
    codeAny (model prog w) A (.compLoop (.ListComp elt [⟨target, iter, ifs, 0⟩] scope pos) 0 it acc env) R s := by
  refine codeAny_loop rfl I (fun n s hI => ?_) n h
  show wpAny _ A ((compTurn (.ListComp elt [⟨target, iter, ifs, 0⟩] scope pos) 0 it acc env).onRaise (fun x => do noteFrame x env; theTreesLotGoes x)) _ _ s
  refine wpAny_noted ?_
  rw [compTurn_list]
  refine wpAny_bind (wpAny_standAt (wpAny_bind (wpAny_mono (turn n s hI) (fun r s₁ h₁ => ?_) fun _ _ h' => h')))
  cases r with
  | none => exact wpAny_pure h₁
  | some v =>
    refine wpAny_bind (wpAny_mono h₁ (fun _ s₁' h₁' => ?_) fun _ _ h' => h')
    refine wpAny_bind (wpAny_mono h₁' (fun _ s₂ h₂ => wpAny_bind (wpAny_mono h₂ (fun ok s₃ h₃ => ?_) fun _ _ h' => h')) fun _ _ h' => h')
    cases ok with
    | false => exact wpAny_pure ⟨rfl, h₃⟩
    | true =>
      exact wpAny_bind (wpAny_bind (wpAny_mono h₃ (fun x s₄ h₄ => wpAny_bind (wpAny_mono h₄ (fun _ s₅ h₅ => wpAny_pure (wpAny_pure ⟨rfl, h₅⟩)) fun _ _ h' => h')) fun _ _ h' => h'))
end
noncomputable def cxComp (X : Cx) (N : List Str) (scope : Scope) (cl : List (Str × Addr)) (C : Addr) (s : Shared) (H : Hp) (ex : List Addr) (pins : List (Addr × Obj)) : Cx :=
  { X with N := N, s₀ := s, H₀ := H, env := compEnvC scope cl C X.env, outer := X.stack, stack := X.stack, ex := ex, fn := fun x => scope.names.lookup x == some NameKind.cell, pn := X.pn ++ pins, xe := fun _ _ => False }
theorem newEnv_own {M : Model} {A : Around} {E : Value → Shared → Prop} {s : Shared} {scope : Scope} {globals : Addr} {cl : List (Str × Addr)} {qual : Str} {env : Env} {Q : Env → Shared → Prop}
    (hQ : Q (newEnv scope s.heap.objs.size globals (cellsFrom (s.heap.objs.size + 1) scope.names cl) qual none .none (some env) builtinsNs) { s with heap := pushCells (s.heap.push { cls := .type "dict", data := .dict #[] }) scope.names }) :
    wpAny M A (newFunctionEnv scope globals cl [] qual none .none (some env)) Q E s := by
  simp only [newFunctionEnv, Option.isSome_some, if_true]
  refine wpAny_bind (wpAny_alloc ?_)
  refine wpAny_bind (wpAny_layCells _ (fun name kind cells => by cases hkc : kind == NameKind.cell <;> simp [hkc]) _ _ _ _ ?_)
  rw [show ({ s with heap := s.heap.push { cls := .type "dict", data := .dict #[] } } : Shared).heap.objs.size = s.heap.objs.size + 1 from Heap.size_push ..]
  rw [List.forIn_nil]
  exact wpAny_bind (wpAny_pure (wpAny_pure hQ))
theorem cellsFrom_at : ∀ (names : List (Str × NameKind)) (h : Heap) (acc : List (Str × Addr)) (x : Str) (c : Addr), (cellsFrom h.objs.size names acc).lookup x = some c →
    (acc.lookup x = some c ∧ ¬ (x, NameKind.cell) ∈ names) ∨ (h.objs.size ≤ c ∧ (x, NameKind.cell) ∈ names ∧ (pushCells h names).IsCell c none)
  | [], _, _, _, _, e => .inl ⟨e, fun z => nomatch z⟩
  | (name, kind) :: r, h, acc, x, c, e => by
    unfold cellsFrom at e
    unfold pushCells
    by_cases hk : (kind == NameKind.cell) = true
    · rw [if_pos hk] at e
      rw [if_pos hk]
      obtain rfl : kind = .cell := by simpa using hk
      have hs : (h.push { cls := .type "cell", data := .cell none }).objs.size = h.objs.size + 1 := Heap.size_push ..
      rw [← hs] at e
      rcases cellsFrom_at r _ _ x c e with ⟨e1, e2⟩ | ⟨e1, e2, e3⟩
      · rw [List.lookup_cons] at e1
        cases hx : x == name with
        | true =>
          rw [hx] at e1; cases e1
          obtain rfl : x = name := by simpa using hx
          exact .inr ⟨Nat.le_refl _, List.mem_cons_self, _, pushCells_keeps _ _ _ _ (Heap.get?_push_size _ rfl), rfl⟩
        | false =>
          rw [hx] at e1
          refine .inl ⟨e1, fun z => ?_⟩
          rcases List.mem_cons.mp z with z | z
          · have : x = name := congrArg Prod.fst z
            rw [this] at hx; simp at hx
          · exact e2 z
      · exact .inr ⟨by rw [hs] at e1; exact Nat.le_of_succ_le e1, List.mem_cons_of_mem _ e2, e3⟩
    · rw [if_neg hk] at e
      rw [if_neg hk]
      rcases cellsFrom_at r h acc x c e with ⟨e1, e2⟩ | ⟨e1, e2, e3⟩
      · refine .inl ⟨e1, fun z => ?_⟩
        rcases List.mem_cons.mp z with z | z
        · have : NameKind.cell = kind := congrArg Prod.snd z
          rw [← this] at hk; exact hk rfl
        · exact e2 z
      · exact .inr ⟨e1, List.mem_cons_of_mem _ e2, e3⟩
theorem cellsFrom_has : ∀ (names : List (Str × NameKind)) (n : Nat) (acc : List (Str × Addr)) (x : Str), (x, NameKind.cell) ∈ names ∨ (∃ c, acc.lookup x = some c) → ∃ c, (cellsFrom n names acc).lookup x = some c
  | [], _, _, _, h => h.elim (fun z => nomatch z) id
  | (name, kind) :: r, n, acc, x, h => by
    unfold cellsFrom
    by_cases hk : (kind == NameKind.cell) = true
    · rw [if_pos hk]
      refine cellsFrom_has r _ _ x ?_
      rw [List.lookup_cons]
      cases hx : x == name with
      | true => exact .inr ⟨n, rfl⟩
      | false =>
        rcases h with h | h
        · rcases List.mem_cons.mp h with z | z
          · have : x = name := congrArg Prod.fst z
            rw [this] at hx; simp at hx
          · exact .inl z
        · exact .inr h
    · rw [if_neg hk]
      refine cellsFrom_has r _ _ x (h.imp (fun z => ?_) id)
      rcases List.mem_cons.mp z with z | z
      · have : NameKind.cell = kind := congrArg Prod.snd z
        rw [← this] at hk; exact absurd rfl hk
      · exact z
theorem cellsFrom_inj : ∀ (names : List (Str × NameKind)) (n : Nat) (acc : List (Str × Addr)), (∀ x c, acc.lookup x = some c → c < n) → (∀ x y c, acc.lookup x = some c → acc.lookup y = some c → x = y) →
    ∀ x y c, (cellsFrom n names acc).lookup x = some c → (cellsFrom n names acc).lookup y = some c → x = y
  | [], _, _, _, h => h
  | (name, kind) :: r, n, acc, hb, hi => by
    unfold cellsFrom
    by_cases hk : (kind == NameKind.cell) = true
    · rw [if_pos hk]
      refine cellsFrom_inj r _ _ (fun x c e => ?_) fun x y c e1 e2 => ?_
      · rw [List.lookup_cons] at e
        cases hx : x == name with
        | true => rw [hx] at e; cases e; exact Nat.lt_succ_self _
        | false => rw [hx] at e; exact Nat.lt_succ_of_lt (hb x c e)
      · rw [List.lookup_cons] at e1 e2
        cases hx : x == name with
        | true =>
          rw [hx] at e1; cases e1
          cases hy : y == name with
          | true => rw [show x = name by simpa using hx, show y = name by simpa using hy]
          | false => rw [hy] at e2; exact absurd (hb y _ e2) (Nat.lt_irrefl _)
        | false =>
          rw [hx] at e1
          cases hy : y == name with
          | true => rw [hy] at e2; cases e2; exact absurd (hb x _ e1) (Nat.lt_irrefl _)
          | false => rw [hy] at e2; exact hi x y c e1 e2
    · rw [if_neg hk]
      exact cellsFrom_inj r n acc hb hi
structure ClOk (X : Cx) (scope : Scope) (C : Addr) (h' : Heap) (cl : List (Str × Addr)) : Prop where
  at_ : ∀ x c, cl.lookup x = some c → (X.env.cells.lookup x = some c ∧ ¬ (x, NameKind.cell) ∈ scope.names) ∨ (C < c ∧ (x, NameKind.cell) ∈ scope.names ∧ h'.IsCell c none)
  has : ∀ y ∈ scope.names, (y.2 = .free ∨ y.2 = .cell) → ∃ c, cl.lookup y.1 = some c
  inj : ∀ x y c, cl.lookup x = some c → cl.lookup y = some c → x = y
noncomputable def capt (js : List (Option Nat)) (σ : St) : St := js.map fun o => o.bind fun j => (σ[j]?).join
structure CapOk (X : Cx) (N : List Str) (scope : Scope) (js : List (Option Nat)) : Prop where
  len : js.length = N.length
  at_ : ∀ (i j : Nat) (x : Str), js[i]? = some (some j) → N[i]? = some x → X.N[j]? = some x ∧ scope.names.lookup x = some .free ∧ (X.env.scope.names.lookup x = some .cell ∨ X.env.scope.names.lookup x = some .free)
  fr : ∀ y ∈ scope.names, y.2 = .free → X.env.kindOf y.1 = some .cell ∨ X.env.kindOf y.1 = some .free
theorem relabel_free {env : Env} : ∀ {names : List (Str × NameKind)} {x : Str}, names.lookup x = some .free →
    let r := (names.map fun (n, k) => if (k == NameKind.free && env.scope.kind == .function && env.kindOf n == some .cell) then (n, NameKind.cell) else (n, k)).lookup x
    r = some .cell ∨ r = some .free
  | [], _, h => by simp at h
  | (n, k) :: r, x, h => by
    have ih := @relabel_free env r x
    show (List.lookup x ((if (k == NameKind.free && env.scope.kind == .function && env.kindOf n == some .cell) = true then (n, NameKind.cell) else (n, k)) :: _) = _) ∨ (List.lookup x ((if (k == NameKind.free && env.scope.kind == .function && env.kindOf n == some .cell) = true then (n, NameKind.cell) else (n, k)) :: _) = _)
    cases hx : x == n with
    | true =>
      simp only [List.lookup_cons, hx] at h
      cases h
      by_cases hc : (NameKind.free == NameKind.free && env.scope.kind == .function && env.kindOf n == some .cell) = true
      · rw [if_pos hc]; simp only [List.lookup_cons, hx]; exact .inl trivial
      · rw [if_neg hc]; simp only [List.lookup_cons, hx]; exact .inr trivial
    | false =>
      simp only [List.lookup_cons, hx] at h
      by_cases hc : (k == NameKind.free && env.scope.kind == .function && env.kindOf n == some .cell) = true
      · rw [if_pos hc]; simp only [List.lookup_cons, hx]; exact ih h
      · rw [if_neg hc]; simp only [List.lookup_cons, hx]; exact ih h
theorem relabel_back {env : Env} : ∀ {names : List (Str × NameKind)} {x : Str},
    ((names.map fun (n, k) => if (k == NameKind.free && env.scope.kind == .function && env.kindOf n == some .cell) then (n, NameKind.cell) else (n, k)).lookup x = some .cell ∨
     (names.map fun (n, k) => if (k == NameKind.free && env.scope.kind == .function && env.kindOf n == some .cell) then (n, NameKind.cell) else (n, k)).lookup x = some .free) →
    (x, NameKind.free) ∈ names ∨ (x, NameKind.cell) ∈ names
  | [], _, h => by simp at h
  | (n, k) :: r, x, h => by
    have ih := @relabel_back env r x
    rw [List.map_cons] at h
    by_cases hc : (k == NameKind.free && env.scope.kind == .function && env.kindOf n == some .cell) = true
    · have e : (match ((n, k) : Str × NameKind) with | (n, k) => if (k == NameKind.free && env.scope.kind == .function && env.kindOf n == some .cell) = true then (n, NameKind.cell) else (n, k)) = (n, NameKind.cell) := if_pos hc
      rw [e] at h
      simp only [List.lookup_cons] at h
      cases hx : x == n with
      | true =>
        have : x = n := by simpa using hx
        have hk : k = .free := by
          rw [Bool.and_eq_true, Bool.and_eq_true] at hc
          simpa using hc.1.1
        rw [this, hk]
        exact .inl List.mem_cons_self
      | false =>
        rw [hx] at h
        exact (ih h).imp (List.mem_cons_of_mem _) (List.mem_cons_of_mem _)
    · have e : (match ((n, k) : Str × NameKind) with | (n, k) => if (k == NameKind.free && env.scope.kind == .function && env.kindOf n == some .cell) = true then (n, NameKind.cell) else (n, k)) = (n, k) := if_neg hc
      rw [e] at h
      simp only [List.lookup_cons] at h
      cases hx : x == n with
      | true =>
        have : x = n := by simpa using hx
        rw [hx] at h
        rw [this]
        rcases h with h | h
        · cases h; exact .inr List.mem_cons_self
        · cases h; exact .inl List.mem_cons_self
      | false =>
        rw [hx] at h
        exact (ih h).imp (List.mem_cons_of_mem _) (List.mem_cons_of_mem _)
section
variable {X : Cx} {pins : List (Addr × Obj)} {σ : St} {H : Hp} {s : Shared} {N : List Str} {scope : Scope} {cl : List (Str × Addr)} {js : List (Option Nat)} {fp : List Addr}
theorem Inv.block {C : Addr} {h' : Heap} {m : Str → Option Value} {t' : Nat} (I : Inv X pins σ H s) (hf : ∀ b ∈ fp, FpOk X pins H b ∧ b < s.heap.objs.size) (hC : s.heap.objs.size ≤ C) (hk : ∀ b o, s.heap.get? b = some o → h'.get? b = some o) (hn : h'.Ns C m)
    (hkind : scope.kind = .function) (hcell : ∀ y ∈ scope.names, y.2 = .cell → scope.names.lookup y.1 = some .cell) (cO : ClOk X scope C h' cl) (cap : CapOk X N scope js) :
    Inv (cxComp X N scope cl C s H fp pins) [] (capt js σ) H { s with heap := h', toks := t' } := by
  have cellLt : ∀ x c, X.env.cells.lookup x = some c → c < s.heap.objs.size := fun x c e => by
    obtain ⟨v, q⟩ := I.cell x c e
    exact q.lt
  have pinB : ∀ p ∈ X.pn ++ pins, p.1 ∉ frs X.stack := fun p hp z => by
    obtain ⟨_, _, h3, h4, _⟩ := I.pin p hp
    rcases List.mem_cons.mp (I.stkSub _ z) with q | q
    · exact h3 q
    · exact h4 q
  have okY : (cxComp X N scope cl C s H fp pins).Ok := by
    refine ⟨I.ok.mod, hkind, I.ok.glob, I.ok.blt, hC, cO.inj, fun x hx => ?_, fun x c h e => ?_, I.ok.hd, I.ok.frames, .inl rfl, fun b hb => ⟨?_, fun x c e => ?_⟩, I.bs, Nat.le_trans I.ok.bsz I.sz,
      fun b o e hb => ?_, fun b hb z => ?_, I.stack, I.stkFree⟩
    · rcases relabel_back (env := X.env) hx with q | q
      · exact cO.has _ q (.inl rfl)
      · exact cO.has _ q (.inr rfl)
    · have h1 : scope.names.lookup x = some NameKind.cell := by simpa [cxComp] using h
      rcases cO.at_ x c e with ⟨_, z⟩ | ⟨z, _⟩
      · exact absurd (PySem.mem_of_lookup h1) z
      · exact Nat.le_trans hC (Nat.le_of_lt z)
    · exact Nat.ne_of_lt (Nat.lt_of_lt_of_le (hf b hb).2 hC)
    · rcases cO.at_ x c e with ⟨z, _⟩ | ⟨z, _⟩
      · exact (hf b hb).1.2.2.2.2.1 x c z
      · exact Nat.ne_of_gt (Nat.lt_of_lt_of_le (hf b hb).2 (Nat.le_trans hC (Nat.le_of_lt z)))
    · obtain ⟨_, _, _, h4, _⟩ := (hf b hb).1
      rcases h4 with z | z
      · exact I.ok.noex b o e z
      · exact absurd (Nat.lt_of_lt_of_le (Heap.lt_size e) (Nat.le_trans I.ok.bsz z)) (Nat.lt_irrefl _)
    · obtain ⟨_, h2, h3, _⟩ := (hf b hb).1
      rcases List.mem_cons.mp (I.stkSub _ z) with q | q
      · exact h2 q
      · exact h3 q
  refine ⟨okY, rfl, I.bare, Un.kept hk, ⟨m, hn, fun i x v e1 e2 e3 => ?_⟩, fun x c e => ?_, I.hok.fresh hC, fun x c e => ?_, fun p hp => ?_, I.hok.kept hk, ?_⟩
  · have e2' : (js.map fun o => o.bind fun j => (σ[j]?).join)[i]? = some (some v) := e2
    rw [List.getElem?_map] at e2'
    cases ej : js[i]? with
    | none => rw [ej] at e2'; cases e2'
    | some oj =>
      rw [ej] at e2'
      cases oj with
      | none => cases e2'
      | some j =>
        have e2'' : (σ[j]?).join = some v := Option.some.inj e2'
        have hσ : σ[j]? = some (some v) := by
          cases q : σ[j]? with
          | none => rw [q] at e2''; cases e2''
          | some o => rw [q] at e2''; rw [show o = some v from e2'']
        obtain ⟨hN, hfree, hX⟩ := cap.at_ i j x ej e1
        obtain ⟨mX, _, hl⟩ := I.loc
        obtain ⟨u, ru, lk⟩ := hl j x v hN hσ (hX.elim (fun z => .inr (.inl z)) fun z => .inr (.inr z))
        refine ⟨u, ru, .inr ⟨relabel_free (env := X.env) hfree, ?_⟩⟩
        rcases lk with ⟨hk1, _⟩ | ⟨_, c, hc, hcell'⟩
        · have hk1' : X.env.scope.names.lookup x = some .local := hk1
          rcases hX with z | z <;> rw [z] at hk1' <;> cases hk1'
        · obtain ⟨c', hc'⟩ := cO.has _ (PySem.mem_of_lookup hfree) (.inl rfl)
          have hX' : X.env.cells.lookup x = some c' := by
            rcases cO.at_ x c' hc' with ⟨z, _⟩ | ⟨_, z, _⟩
            · exact z
            · have := hcell _ z rfl
              rw [hfree] at this; cases this
          have : c' = c := Option.some.inj (hX'.symm.trans hc)
          subst this
          obtain ⟨o, ho, hd⟩ := hcell'
          exact ⟨c', hc', o, hk _ _ ho, hd⟩
  · rcases cO.at_ x c e with ⟨z, _⟩ | ⟨_, _, z⟩
    · obtain ⟨v, o, ho, hd⟩ := I.cell x c z
      exact ⟨v, o, hk _ _ ho, hd⟩
    · exact ⟨none, z⟩
  · rcases cO.at_ x c e with ⟨z, _⟩ | ⟨z, _⟩
    · exact I.freeC x c z
    · exact I.hok.fresh (Nat.le_trans hC (Nat.le_of_lt z))
  · have hp' : p ∈ X.pn ++ pins := by
      have : p ∈ (X.pn ++ pins) ++ [] := hp
      rwa [List.append_nil] at this
    obtain ⟨h1, h2, h3, h4, h5⟩ := I.pin p hp'
    exact ⟨hk _ _ h1, h2, Nat.ne_of_lt (Nat.lt_of_lt_of_le (Heap.lt_size h1) hC), pinB p hp', h5⟩
  · show (js.map _).length = N.length
    rw [List.length_map]; exact cap.len
theorem Inv.track {D : Addr} {o : HO} (I : Inv X pins σ H s) (h0 : X.s₀.heap.objs.size ≤ D) (hn : H D = none) (hL : D ≠ X.env.locals) (hc : ∀ x c, X.env.cells.lookup x = some c → c ≠ D) (hp : ∀ p ∈ X.pn ++ pins, p.1 ≠ D)
    (new : ObjOk X.prog X.w (upd H D o) s.heap D o) : Inv X pins σ (upd H D o) s := by
  have old : ∀ b ob, X.s₀.heap.get? b = some ob → b ≠ D := fun b ob e => Nat.ne_of_lt (Nat.lt_of_lt_of_le (Heap.lt_size e) h0)
  refine ⟨I.ok, I.os, I.bare, ⟨I.base.keep, I.base.slot, fun b ob e n hx => ?_, I.base.there, fun b xs e => ?_, fun b ob u e => ?_, fun b ps e => ?_⟩, I.loc, I.cell, ?_, fun x c e => ?_, fun p hp' => ?_, fun b u e => ?_, I.len⟩
  · rw [upd_ne (old b ob e)]; exact I.base.free b ob e n hx
  · have q := I.base.tups b xs e
    rw [upd_ne (ne_of_none q hn)]; exact q
  · have q := I.base.frzs b ob u e
    rw [upd_ne (ne_of_none q hn)]; exact q
  · obtain ⟨more, q⟩ := I.base.tbls b ps e
    exact ⟨more, by rw [upd_ne (ne_of_none q hn)]; exact q⟩
  · rw [upd_ne (Ne.symm hL)]; exact I.free
  · rw [upd_ne (hc x c e)]; exact I.freeC x c e
  · obtain ⟨h1, h2, h3⟩ := I.pin p hp'
    exact ⟨h1, by rw [upd_ne (hp p hp')]; exact h2, h3⟩
  · by_cases hb : b = D
    · subst hb; rw [upd_same] at e; cases e; exact new
    · rw [upd_ne hb] at e
      exact (I.hok b u e).stay (fun c v _ q => q) (fun c z => by rw [upd_ne (ne_of_none z hn)]; exact z) fun c xs z => by rw [upd_ne (ne_of_none z hn)]; exact z
theorem Inv.unblock {C D : Addr} {s' : Shared} {σ' : St} {H' : Hp} {ys : List V} {its : List Value} {n : Nat} (I : Inv X pins σ H s) (hf : ∀ b ∈ fp, FpOk X pins H b ∧ b < s.heap.objs.size) (hC : s.heap.objs.size ≤ C) (hD : s.heap.objs.size ≤ D) (hDC : D ≠ C)
    (J : Inv (cxComp X N scope cl C s H fp pins) [(D, { cls := .type "list", data := .seq its.toArray n })] σ' H' s') (hv : Vals ys its) (hz : ys.length ≤ sizeLine) :
    Inv X pins σ (upd H' D (.lst ys)) s' ∧ FpOk X pins (upd H' D (.lst ys)) C ∧ H' D = none ∧ ∃ m, s'.heap.Ns C m := by
  have hfr : H' C = none := J.free
  have hDn : H' D = none := (J.pin (D, _) (List.mem_append_right _ (List.mem_singleton.mpr rfl))).2.1
  have hDo : s'.heap.get? D = some { cls := .type "list", data := .seq its.toArray n } := (J.pin (D, _) (List.mem_append_right _ (List.mem_singleton.mpr rfl))).1
  have u : Un (frs X.stack) fp H H' s.heap s'.heap := J.base
  obtain ⟨hh, g, d, t, os'⟩ := s'
  have eos : os' = s.os := J.os
  subst eos
  have I1 : Inv X pins σ H' { s with heap := hh, gens := g, drawn := d, toks := t } :=
    I.call (h' := hh) (g' := g) (d' := d) (t' := t) (ch := fp) u J.hok J.bare fun b hb => ⟨(hf b hb).1.2.2.2.1, (hf b hb).1.2.1, (hf b hb).1.2.2.2.2.1, (hf b hb).1.2.2.2.2.2⟩
  have Dl : D ≠ X.env.locals := Nat.ne_of_gt (Nat.lt_of_lt_of_le I.lt hD)
  have young : ∀ a, s.heap.objs.size ≤ a → (∀ x c, X.env.cells.lookup x = some c → c ≠ a) ∧ ∀ p ∈ X.pn ++ pins, p.1 ≠ a := fun a ha => ⟨fun x c e z => by
      obtain ⟨v, q⟩ := I.cell x c e
      exact absurd (Nat.lt_of_lt_of_le q.lt (by rw [z]; exact ha)) (Nat.lt_irrefl _), fun p hp z => absurd (Nat.lt_of_lt_of_le (Heap.lt_size (I.pin p hp).1) (by rw [z]; exact ha)) (Nat.lt_irrefl _)⟩
  refine ⟨I1.track (Nat.le_trans I.sz hD) hDn Dl (young D hD).1 (young D hD).2 ⟨hz, its, n, hv, hDo⟩, ⟨by rw [upd_ne (Ne.symm hDC)]; exact hfr, Nat.ne_of_gt (Nat.lt_of_lt_of_le I.lt hC), I.nofs hC, .inr (Nat.le_trans I.sz hC), (young C hC).1, (young C hC).2⟩, hDn, ?_⟩
  obtain ⟨m, hn, _⟩ := J.loc
  exact ⟨m, hn⟩
end
end L2
namespace L2
open PySem PySem.Spec PyProof.Rows
noncomputable def PIfs (Y : Cx) (ifs : List Expr) (tt : TT) : Prop :=
  ∀ (pins : List (Addr × Obj)) (s : Shared) (σ : St) (H : Hp) (Q : Bool → Hp → Prop), Inv Y pins σ H s → tt σ H Q →
    wpAny (model Y.prog Y.w) Y.A (forIn ifs true fun c r => if r = true then do let ok ← isTrue c Y.env (eval c Y.env); pure (ForInStep.yield ok) else pure (ForInStep.yield r)) (TP Y pins σ Q) Y.xe s
noncomputable def tTrue : TT := fun _ H Q => Q true H
theorem pifs_nil {Y : Cx} : PIfs Y [] tTrue := fun _ _ _ H _ I h => wpAny_pure ⟨H, I, h⟩
noncomputable def LoopC (J : It) (g : TG) (tt : TT) (te : TE) (W : Nat → Nat → St → List V → Hp → Prop) (Q : V → Hp → Prop) : Prop :=
  ∀ i m σ' ys H', W i m σ' ys H' → (J.stop i H' ∧ ∀ D, H' D = none → Q (.ref D) (upd H' D (.lst ys))) ∨
    (J.go i H' ∧ ∃ N : St → List V → Hp → Prop, (∀ σ2 zs H2, N σ2 zs H2 → zs.length ≤ sizeLine ∧ ∃ m', m' < m ∧ W (i + 1) m' σ2 zs H2) ∧
      ∀ x H2, J.yld i H' x H2 → g x σ' H2 fun σ2 H3 => tt σ2 H3 fun ok H4 => if ok = true then te σ2 H4 fun y H5 => N σ2 (ys ++ [y]) H5 else N σ2 ys H4)
section
variable {X : Cx} {pins : List (Addr × Obj)} {σ : St} {H : Hp} {s : Shared} {N : List Str} {scope : Scope} {cl : List (Str × Addr)} {js : List (Option Nat)} {fp : List Addr} {tg elt iter : Expr} {ifs : List Expr} {pos : Pos} {J : It} {it : Addr} {tn : Nat → Heap → Prop} {g : TG} {tt : TT} {te : TE}
theorem comp_core {W : Nat → Nat → St → List V → Hp → Prop} {Q : V → Hp → Prop} {m0 : Nat} {RR : Value → Addr → Result → Shared → Prop} {E : Value → Shared → Prop} (hc : X.calm = true)
    (hg : ∀ cl C s H ex pins, PG (cxComp X N scope cl C s H ex pins) tg g) (ht : ∀ cl C s H ex pins, PIfs (cxComp X N scope cl C s H ex pins) ifs tt) (he : ∀ cl C s H ex pins, PE (cxComp X N scope cl C s H ex pins) elt te)
    (hkind : scope.kind = .function) (hcell : ∀ y ∈ scope.names, y.2 = .cell → scope.names.lookup y.1 = some .cell) (hc1 : ∀ x c, cl.lookup x = some c → X.env.cells.lookup x = some c) (hc2 : ∀ y ∈ scope.names, y.2 = .free → ∃ c, cl.lookup y.1 = some c) (cap : CapOk X N scope js)
    (I : Inv X pins σ H s) (T : Turn X.prog X.w X.K tg J fp it tn) (st : tn 0 s.heap) (f : ∀ b ∈ fp, FpOk X pins H b) (w0 : W 0 m0 (capt js σ) [] H) (turn : LoopC J g tt te W Q)
    (hRR : ∀ (D C : Addr) (s' : Shared) (ys : List V) (H' : Hp), Inv X pins σ (upd H' D (.lst ys)) s' → FpOk X pins (upd H' D (.lst ys)) C → (∃ m, s'.heap.Ns C m) → Q (.ref D) (upd H' D (.lst ys)) → RR (.ref D) C (.ok .next) s') :
    wpAny (model X.prog X.w) X.A (newList []) (fun acc s₃ => wpAny (model X.prog X.w) X.A (newFunctionEnv scope X.env.globals cl [] X.env.qual none .none (some X.env)) (fun cenv s₄ =>
      codeAny (model X.prog X.w) X.A (.compStart (.ListComp elt [⟨tg, iter, ifs, 0⟩] scope pos) 0 (.ref it) acc { cenv with scope := relabel scope X.env }) (RR acc cenv.locals) s₄) E s₃) E s := by
  have flt : ∀ b ∈ fp, b < s.heap.objs.size := fun b hb => by
    obtain ⟨o, ho, _⟩ := T.obj 0 _ st b hb
    exact Heap.lt_size ho
  have ff : ∀ b ∈ fp, FpOk X pins H b ∧ b < s.heap.objs.size := fun b hb => ⟨f b hb, flt b hb⟩
  refine wpAny_newObj_type (newEnv_own ?_)
  dsimp only
  generalize hH2 : s.heap.push { cls := .type "list", dict := none, data := .seq ([] : List Value).toArray } = H2
  have hC : H2.objs.size = s.heap.objs.size + 1 := by rw [← hH2, Heap.size_push]
  have hDC : s.heap.objs.size ≠ H2.objs.size := by rw [hC]; exact Nat.ne_of_lt (Nat.lt_succ_self _)
  have hCle : s.heap.objs.size ≤ H2.objs.size := by rw [hC]; exact Nat.le_succ _
  have below : ∀ b, b < s.heap.objs.size → b ≠ H2.objs.size ∧ b ≠ s.heap.objs.size := fun b hb => ⟨by rw [hC]; exact Nat.ne_of_lt (Nat.lt_succ_of_lt hb), Nat.ne_of_lt hb⟩
  have hns₁ : (pushCells (H2.push { cls := .type "dict", data := .dict #[] }) scope.names).Ns H2.objs.size (fun _ => none) := (Heap.Ns.new H2 (.type "dict")).keeps (pushCells_keeps _ _)
  have old : ∀ b o, s.heap.get? b = some o → (pushCells (H2.push { cls := .type "dict", data := .dict #[] }) scope.names).get? b = some o := fun b o e => pushCells_keeps _ _ b o (Heap.get?_push_of_some _ (hH2 ▸ Heap.get?_push_of_some _ e))
  have hacc : (pushCells (H2.push { cls := .type "dict", data := .dict #[] }) scope.names).get? s.heap.objs.size = some { cls := .type "list", dict := none, data := .seq ([] : List Value).toArray } := pushCells_keeps _ _ _ _ (Heap.get?_push_of_some _ (hH2 ▸ Heap.get?_push_size _ rfl))
  have hlt : ∀ x c, cl.lookup x = some c → c < H2.objs.size + 1 := fun x c e => by
    obtain ⟨v, q⟩ := I.cell x c (hc1 x c e)
    exact Nat.lt_succ_of_lt (Nat.lt_of_lt_of_le q.lt hCle)
  have hsz : (H2.push { cls := .type "dict", data := .dict #[] }).objs.size = H2.objs.size + 1 := Heap.size_push ..
  have cO : ClOk X scope H2.objs.size (pushCells (H2.push { cls := .type "dict", data := .dict #[] }) scope.names) (cellsFrom (H2.objs.size + 1) scope.names cl) := by
    refine ⟨fun x c e => ?_, fun y hy hk => ?_, cellsFrom_inj _ _ _ hlt fun x y c e1 e2 => I.ok.inj x y c (hc1 x c e1) (hc1 y c e2)⟩
    · rw [← hsz] at e
      rcases cellsFrom_at _ _ _ x c e with ⟨e1, e2⟩ | ⟨e1, e2, e3⟩
      · exact .inl ⟨hc1 x c e1, e2⟩
      · exact .inr ⟨by rw [hsz] at e1; exact e1, e2, e3⟩
    · obtain ⟨y, k⟩ := y
      refine cellsFrom_has _ _ _ _ ?_
      rcases hk with hk | hk
      · exact .inr (hc2 _ hy hk)
      · exact .inl (by rw [← hk]; exact hy)
  show codeAny _ _ (.compStart _ 0 _ _ (compEnvC scope (cellsFrom (H2.objs.size + 1) scope.names cl) H2.objs.size X.env)) _ _
  generalize cellsFrom (H2.objs.size + 1) scope.names cl = cl' at *
  generalize pushCells (H2.push { cls := .type "dict", data := .dict #[] }) scope.names = h₁ at *
  clear hc1 hc2 hlt hsz
  generalize H2.objs.size = C at *
  generalize hDd : s.heap.objs.size = D at *
  have hDle : s.heap.objs.size ≤ D := Nat.le_of_eq hDd
  have hCle' : s.heap.objs.size ≤ C := by rw [hDd]; exact hCle
  -- the block's own invariant
  have J0 : Inv (cxComp X N scope cl' C s H fp pins) [] (capt js σ) H { s with heap := h₁ } :=
    I.block (fun b hb => ⟨f b hb, by rw [hDd]; exact flt b hb⟩) hCle' old hns₁ hkind hcell cO cap
  have stk : ∀ b, b ∉ X.fs → b ≠ X.env.locals → b ∉ frs X.stack := fun b h1 h2 z => by
    rcases List.mem_cons.mp (I.stkSub _ z) with q | q
    · exact h2 q
    · exact h1 q
  have Dstk : D ∉ frs X.stack := stk D (I.nofs hDle) (Nat.ne_of_gt (Nat.lt_of_lt_of_le I.lt hDle))
  have Dcell : ∀ x c, cl'.lookup x = some c → c ≠ D := fun x c e z => by
    rcases cO.at_ x c e with ⟨e, _⟩ | ⟨e, _⟩
    · obtain ⟨v, q⟩ := I.cell x c e
      exact absurd (Nat.lt_of_lt_of_le q.lt (by rw [z]; exact hDle)) (Nat.lt_irrefl _)
    · exact absurd e (by rw [z]; exact Nat.not_lt.mpr hCle)
  have Dpn : ∀ p ∈ X.pn ++ pins, p.1 ≠ D := fun p hp z => absurd (Nat.lt_of_lt_of_le (Heap.lt_size (I.pin p hp).1) (by rw [z]; exact hDle)) (Nat.lt_irrefl _)
  -- the list under way is pinned
  have pinD : ∀ {ps : List (Addr × Obj)} {σ' : St} {H' : Hp} {s' : Shared} {its : List Value} {n : Nat}, Inv (cxComp X N scope cl' C s H fp pins) ps σ' H' s' → H' D = none → s'.heap.get? D = some { cls := .type "list", data := .seq its.toArray n } →
      Inv (cxComp X N scope cl' C s H fp pins) [(D, { cls := .type "list", data := .seq its.toArray n })] σ' H' s' := fun {ps σ' H' s' its n} Jx hn ho => Jx.pins_of fun p hp => by
    obtain rfl := List.mem_singleton.mp hp
    exact ⟨ho, hn, hDC, Dstk, fun v z => by cases z⟩
  have stat : ∀ {H' : Hp} {ob : Obj}, (∀ b ∈ fp, H' b = none) → ∀ b ∈ fp, FpOk (cxComp X N scope cl' C s H fp pins) [(D, ob)] H' b := fun {H' ob} hn b hb => by
    obtain ⟨_, f1, f2, f3, f4, f5⟩ := f b hb
    refine ⟨hn b hb, (below b (flt b hb)).1, stk b f2 f1, .inl hb, fun x c e => (cO.at_ x c e).elim (fun z => f4 x c z.1) (fun z => Nat.ne_of_gt (Nat.lt_of_lt_of_le (flt b hb) (Nat.le_trans hCle (Nat.le_of_lt z.1)))), fun p hp => ?_⟩
    rcases List.mem_append.mp hp with z | z
    · exact f5 p z
    · obtain rfl := List.mem_singleton.mp z
      exact Ne.symm (below b (flt b hb)).2
  have loop : ∀ s₃ : Shared, s₃ = { s with heap := h₁ } →
      codeAny (model X.prog X.w) X.A (.compLoop (.ListComp elt [⟨tg, iter, ifs, 0⟩] scope pos) 0 (.ref it) (.ref D) (compEnvC scope cl' C X.env)) (RR (.ref D) C) s₃ := by
    rintro s₃ rfl
    refine compLoop_gen (fun k s' => ∃ (i : Nat) (σ' : St) (ys : List V) (H' : Hp) (its : List Value) (n : Nat), Inv (cxComp X N scope cl' C s H fp pins) [(D, { cls := .type "list", data := .seq its.toArray n })] σ' H' s' ∧ Vals ys its ∧ ys.length ≤ sizeLine ∧ tn i s'.heap ∧ (∀ b ∈ fp, H' b = none) ∧ W i k σ' ys H') ?_ m0
      ⟨0, capt js σ, [], H, [], 0, pinD J0 (I.hok.fresh hDle) hacc, .nil, Nat.zero_le _, T.keep _ _ _ st fun b _ o e => old b o e, fun b hb => (f b hb).1, w0⟩
    rintro k s' ⟨i, σ', ys, H', its, n, J', hv, hz, st', fr', w'⟩
    rcases turn i k σ' ys H' w' with ⟨stop, q⟩ | ⟨go, NN, hN, step⟩
    · refine wpAny_mono (T.done (cxComp X N scope cl' C s H fp pins) rfl rfl rfl hc i _ s' σ' H' (fun _ _ => False) J' (stat fr') st' stop) (fun r s4 ⟨hr, J4⟩ => ?_) fun _ _ z => z.elim
      subst hr
      obtain ⟨K1, K2, K3, K4⟩ := I.unblock (fun b hb => ⟨f b hb, by rw [hDd]; exact flt b hb⟩) hCle' hDle hDC J4 hv hz
      exact hRR D C s4 ys H' K1 K2 K4 (q D K3)
    · refine wpAny_mono (T.item (cxComp X N scope cl' C s H fp pins) rfl rfl rfl hc i _ s' σ' H' (fun _ _ => False) J' (stat fr') st' go) (fun r s4 ⟨u, hr, h4⟩ => ?_) fun _ _ z => z.elim
      subst hr
      refine wpAny_mono h4 (fun _ s5 ⟨x, H5, J5, r5, y5, st5, fr5⟩ => ?_) fun _ _ z => z.elim
      have J5' := J5.pinned (stat fr5) (T.obj _ _ st5)
      have keepT : ∀ {σ7 : St} {H7 : Hp} {s7 : Shared}, Inv (cxComp X N scope cl' C s H fp pins) ([(D, { cls := .type "list", data := .seq its.toArray n })] ++ pinsAt fp s5.heap) σ7 H7 s7 → tn (i + 1) s7.heap ∧ ∀ b ∈ fp, H7 b = none := fun {σ7 H7 s7} J7 =>
        ⟨T.keep _ _ _ st5 fun b hb o e => (J7.pin (b, o) (List.mem_append_right _ (List.mem_append_right _ (mem_pinsAt hb e)))).1, fun b hb => by
          obtain ⟨o, e, d⟩ := T.obj _ _ st5 b hb
          exact (J7.pin (b, o) (List.mem_append_right _ (List.mem_append_right _ (mem_pinsAt hb e)))).2.1⟩
      refine wpAny_mono (hg cl' C s H fp pins _ s5 σ' H5 x u _ J5' r5 (step x H5 y5)) (fun _ s6 ⟨σ6, H6, J6, q6⟩ => ?_) fun _ _ z => (show False from z).elim
      refine wpAny_mono (ht cl' C s H fp pins _ s6 σ6 H6 _ J6 q6) (fun ok s7 ⟨H7, J7, q7⟩ => ?_) fun _ _ z => (show False from z).elim
      cases ok with
      | false =>
        have q7' : NN σ6 ys H7 := q7
        obtain ⟨hz', m', hm, w7⟩ := hN σ6 ys H7 q7'
        obtain ⟨t7, f7⟩ := keepT J7
        exact ⟨m', hm, i + 1, σ6, ys, H7, its, n, J7.unpinned, hv, hz, t7, f7, w7⟩
      | true =>
        refine wpAny_mono (he cl' C s H fp pins _ s7 σ6 H7 _ J7 q7) (fun y s8 ⟨v, H8, J8, r8, q8⟩ => ?_) fun _ _ z => (show False from z).elim
        obtain ⟨hz', m', hm, w8⟩ := hN σ6 (ys ++ [v]) H8 q8
        obtain ⟨t8, f8⟩ := keepT J8
        have pD := J8.pin (D, _) (List.mem_append_right _ (List.mem_append_left _ (List.mem_singleton.mpr rfl)))
        have hzi : its.toArray.size ≤ sizeLine := by rw [List.size_toArray, ← hv.length]; exact hz
        refine wpAny_list_append_plain (hsz := hzi) (items := its.toArray) ⟨n, pD.1⟩ fun h9 hl9 sb9 => ?_
        obtain ⟨n9, ho9⟩ := hl9
        have ho9' : h9.get? D = some { cls := .type "list", data := .seq (its ++ [y]).toArray n9 } := by rw [ho9]; simp
        have J8' : Inv (cxComp X N scope cl' C s H fp pins) [] σ6 H8 s8 := J8.pins_of fun p hp => (nomatch hp)
        have J9 : Inv (cxComp X N scope cl' C s H fp pins) [] σ6 H8 { s8 with heap := h9 } := J8'.turned (t' := s8.toks) (it := D) (fun b o hb e => (sb9.2 b hb).trans e) pD.2.1 hDC (.inr hDle) Dcell fun p hp => Dpn p (by
          have : p ∈ (X.pn ++ pins) ++ [] := hp
          rwa [List.append_nil] at this)
        refine ⟨m', hm, i + 1, σ6, ys ++ [v], H8, its ++ [y], n9, pinD J9 pD.2.1 ho9', hv.append (.cons r8 .nil), hz', T.keep _ _ _ t8 fun b hb o e => (sb9.2 b (below b (flt b hb)).2).trans e, f8, w8⟩
  exact codeAny_compStart_list (loop _ rfl) (T.self X.A 0 _ _ _ (T.keep _ _ _ st fun b _ o e => old b o e) (loop _ rfl))
noncomputable def tLC (wi : TI) (g : TG) (tt : TT) (te : TE) (js : List (Option Nat)) : TE := fun σ H Q => wi σ H fun J H1 => ∃ W : Nat → Nat → St → List V → Hp → Prop, (∃ m, W 0 m (capt js σ) [] H1) ∧ LoopC J g tt te W Q
theorem pe_lc {wi : TI} (js : List (Option Nat)) (N : List Str) (hc : X.calm = true) (cap : CapOk X N scope js) (hi : PI X tg iter wi) (hg : ∀ cl C s H ex pins, PG (cxComp X N scope cl C s H ex pins) tg g) (ht : ∀ cl C s H ex pins, PIfs (cxComp X N scope cl C s H ex pins) ifs tt)
    (he : ∀ cl C s H ex pins, PE (cxComp X N scope cl C s H ex pins) elt te)
    (hkind : scope.kind = .function := by rfl) (hcell : ∀ y ∈ scope.names, y.2 = .cell → scope.names.lookup y.1 = some .cell := by decide +kernel) (hnames : ∀ y ∈ scope.names, y.2 = .local → scope.names.lookup y.1 = some .local := by decide +kernel)
    (hs : ∀ x, foldedSetIterable iter X.env x = pure x := by intro _; rfl) : PE X (.ListComp elt [⟨tg, iter, ifs, 0⟩] scope pos) (tLC wi g tt te js) := by
  intro pins s σ H Q I h
  obtain ⟨cl, hclos, hc1, hc2⟩ := closure_for (scope := scope) (env := X.env) fun y hy hf => I.ok.has _ (cap.fr y hy hf)
  rw [eval_ListComp]
  refine wpAny_comprehension_free (use := none) rfl hs hclos hkind hnames (thn (hi pins s σ H _ I h) fun v s1 h1 => thn h1 fun itv s2 h2 => ?_)
  obtain ⟨it, fp, tn, J, H2, rfl, I2, T, st2, f2, W, ⟨m0, w0⟩, turn⟩ := h2
  refine comp_core (RR := fun acc C => compPost (model X.prog X.w) X.A X.xe none (EP X pins σ Q) acc C) hc hg ht he hkind hcell hc1 hc2 cap I2 T st2 f2 w0 turn fun D C s' ys H' K1 K2 K3 q => ?_
  obtain ⟨m, hm⟩ := K3
  refine ⟨m, hm, fun h' sb => ⟨.ref D, _, K1.turned (t' := s'.toks) (it := C) (fun b o hb e => (sb.2 b hb).trans e) K2.1 K2.2.1 K2.2.2.2.1 K2.2.2.2.2.1 K2.2.2.2.2.2, rfl, q⟩⟩
theorem ps_setC {wi : TI} {k : Nat} {y : Str} {py spos : Pos} (js : List (Option Nat)) (N : List Str) (hc : X.calm = true) (cap : CapOk X N scope js) (hN : X.N.Nodup) (hk : X.N[k]? = some y) (hy : Loc X.env.scope y) (hi : PI X tg iter wi) (hg : ∀ cl C s H ex pins, PG (cxComp X N scope cl C s H ex pins) tg g) (ht : ∀ cl C s H ex pins, PIfs (cxComp X N scope cl C s H ex pins) ifs tt)
    (he : ∀ cl C s H ex pins, PE (cxComp X N scope cl C s H ex pins) elt te)
    (hsw : swapsWith (.ListComp elt [⟨tg, iter, ifs, 0⟩] scope pos) (some (.Name y py)) spos.line X.env = pure true := by rfl)
    (hkind : scope.kind = .function := by rfl) (hcell : ∀ y ∈ scope.names, y.2 = .cell → scope.names.lookup y.1 = some .cell := by decide +kernel) (hnames : ∀ y ∈ scope.names, y.2 = .local → scope.names.lookup y.1 = some .local := by decide +kernel)
    (hs : ∀ x, foldedSetIterable iter X.env x = pure x := by intro _; rfl) (hf : X.fn y = true ∨ X.env.scope.names.lookup y = some .local := by first | exact .inl rfl | exact .inr rfl | assumption) :
    PS X (.Assign [.Name y py] (.ListComp elt [⟨tg, iter, ifs, 0⟩] scope pos) spos) (tAsg (tLC wi g tt te js) (gName k)) := by
  intro pins s σ H D I h
  obtain ⟨cl, hclos, hc1, hc2⟩ := closure_for (scope := scope) (env := X.env) fun y hy hf => I.ok.has _ (cap.fr y hy hf)
  rw [exec_Assign_Name_used _ _ _ _ hsw]
  refine wpAny_bind (wpAny_standAt (wpAny_bind ?_))
  show wpAny _ X.A (do let _ ← comprehension (.ListComp elt [⟨tg, iter, ifs, 0⟩] scope pos) scope X.env _ (newList []) false (eval iter X.env) (some (assign (.Name y py) X.env))) _ _ s
  refine wpAny_bind (wpAny_mono (wpAny_comprehension_free (use := some (assign (.Name y py) X.env)) (Q := fun _ s' => SP X pins D .next s') rfl hs hclos hkind hnames
    (thn (hi pins s σ H _ I h) fun v s1 h1 => thn h1 fun itv s2 h2 => ?_)) (fun _ s' hq => wpAny_pure (wpAny_pure hq)) fun _ _ e => e)
  obtain ⟨it, fp, tn, J, H2, rfl, I2, T, st2, f2, W, ⟨m0, w0⟩, turn⟩ := h2
  refine comp_core (RR := fun acc C => compPost (model X.prog X.w) X.A X.xe (some (assign (.Name y py) X.env)) (fun _ s' => SP X pins D .next s') acc C) hc hg ht he hkind hcell hc1 hc2 cap I2 T st2 f2 w0 turn fun Dd C s' ys H' K1 K2 K3 q => ?_
  obtain ⟨m, o, es, ep, ho, hd, hr⟩ := K3
  have Kp : Inv X (pins ++ [(C, o)]) σ (upd H' Dd (.lst ys)) s' := K1.pins_of fun p hp => by
    rcases List.mem_append.mp hp with z | z
    · exact K1.pin p (List.mem_append_right _ z)
    · obtain rfl := List.mem_singleton.mp z
      exact ⟨ho, K2.1, K2.2.1, K2.2.2.1, fun v z => by rw [hd] at z; cases z⟩
  show wpAny _ X.A (assign (.Name y py) X.env (.ref Dd)) _ _ _
  refine wpAny_assign_Name (store_ok (v := .ref Dd) Kp hN hk hy rfl (fun s3 I3 => ?_) hf)
  have pC := I3.pin (C, o) (List.mem_append_right _ (List.mem_append_right _ (List.mem_singleton.mpr rfl)))
  refine ⟨m, ⟨o, es, ep, pC.1, hd, hr⟩, fun h' sb => ?_⟩
  have I4 : Inv X pins (σ.set k (some (.ref Dd))) (upd H' Dd (.lst ys)) s3 := I3.unpinned
  exact ⟨_, _, I4.turned (t' := s3.toks) (it := C) (fun b o hb e => (sb.2 b hb).trans e) K2.1 K2.2.1 K2.2.2.2.1 K2.2.2.2.2.1 K2.2.2.2.2.2, q⟩
end
end L2
namespace L2
open PySem PySem.Spec PyProof.Rows
mutual
inductive RdD (K : W.Frag) (H : Hp) : V → PyData → Prop
  | non : RdD K H .non .none
  | bl (b : Bool) : RdD K H (.bl b) (.bool b)
  | int (i : Int) : RdD K H (.int i) (.int i)
  | str (x : Str) : RdD K H (.str x) (.str x)
  | lst {a : Addr} {xs : List V} {ds : List PyData} : SqL K H a xs → RdAll K H xs ds → RdD K H (.ref a) (.list ds)
  | tup {a : Addr} {xs : List V} {ds : List PyData} : SqT K H a xs → RdAll K H xs ds → RdD K H (.ref a) (.tuple ds)
inductive RdAll (K : W.Frag) (H : Hp) : List V → List PyData → Prop
  | nil : RdAll K H [] []
  | cons {x : V} {xs : List V} {d : PyData} {ds : List PyData} : RdD K H x d → RdAll K H xs ds → RdAll K H (x :: xs) (d :: ds)
end
section
variable {X : Cx} {pins : List (Addr × Obj)} {σ : St} {H : Hp} {s : Shared}
mutual
theorem Inv.reads (I : Inv X pins σ H s) : ∀ {v : V} {d : PyData} {u : Value}, RdD X.K H v d → RelV v u → ∃ as, Reads s.heap u d as
  | _, _, _, .non, r => by cases r; exact ⟨_, .none⟩
  | _, _, _, .bl b, r => by cases r; exact ⟨_, .bool b⟩
  | _, _, _, .int i, r => by obtain ⟨t, rfl⟩ := r; exact ⟨_, .int i t⟩
  | _, _, _, .str x, r => by obtain ⟨t, rfl⟩ := r; exact ⟨_, .str x t⟩
  | _, _, _, .lst hs ha, r => by
    cases r
    obtain ⟨its, rv, ⟨o, n, e, hc, _, hd⟩, _⟩ := I.list hs
    obtain ⟨as, q⟩ := I.readsAll ha rv
    exact ⟨_, .list e hc hd (by simpa using q)⟩
  | _, _, _, .tup hs ha, r => by
    cases r
    obtain ⟨its, rv, ⟨o, e, hc, n, hd⟩, _⟩ := I.tuple hs
    obtain ⟨as, q⟩ := I.readsAll ha rv
    exact ⟨_, .tuple e hc hd (by simpa using q)⟩
theorem Inv.readsAll (I : Inv X pins σ H s) : ∀ {vs : List V} {ds : List PyData} {us : List Value}, RdAll X.K H vs ds → Vals vs us → ∃ as, ReadsAll s.heap us ds as
  | _, _, _, .nil, r => by cases r; exact ⟨_, .nil⟩
  | _, _, _, .cons h t, r => by
    cases r with
    | cons r1 r2 =>
      obtain ⟨as, q⟩ := I.reads h r1
      obtain ⟨bs, q2⟩ := I.readsAll t r2
      exact ⟨_, .cons q q2⟩
end
end
section
variable {X : Cx}
theorem op_eqD (hu : X.A.units + 64 < cLine) : OpR X (compareOp .Eq) (fun x y H Q => ∃ dx dy, RdD X.K H x dx ∧ RdD X.K H y dy ∧ dx.canLay0 = true ∧ dy.canLay0 = true ∧ dx.depth ≤ 60 ∧ Q (.bl (PyData.eqv dx dy)) H) := by
  intro pins s σ H x y v u Q I rx ry h
  obtain ⟨dx, dy, h1, h2, c1, c2, hd, q⟩ := h
  obtain ⟨as, r1⟩ := I.reads h1 rx
  obtain ⟨bs, r2⟩ := I.reads h2 ry
  exact SeqAt.compareEq_reads r1 r2 c1 c2 (by omega) ⟨.bl _, H, I, rfl, q⟩
theorem op_neD (hu : X.A.units + 64 < cLine) : OpR X (compareOp .NotEq) (fun x y H Q => ∃ dx dy, RdD X.K H x dx ∧ RdD X.K H y dy ∧ dx.canLay0 = true ∧ dy.canLay0 = true ∧ dx.depth ≤ 60 ∧ Q (.bl (!PyData.eqv dx dy)) H) := by
  intro pins s σ H x y v u Q I rx ry h
  obtain ⟨dx, dy, h1, h2, c1, c2, hd, q⟩ := h
  obtain ⟨as, r1⟩ := I.reads h1 rx
  obtain ⟨bs, r2⟩ := I.reads h2 ry
  exact SeqAt.compareNe_reads r1 r2 c1 c2 (by omega) ⟨.bl _, H, I, rfl, q⟩
end
end L2
namespace L2
open PySem PySem.Spec PyProof.Rows
theorem nd1 {x : Str} : ([x] : List Str).Nodup := List.nodup_cons.mpr ⟨List.not_mem_nil, List.nodup_nil⟩
noncomputable def rIsi (K : W.Frag) (T : String) : List V → Hp → VK → Prop := fun xs H Q => ∃ x t b, xs = [x, .ty T] ∧ TyOf K H x t ∧ W.kitOne K t (.type T) = some b ∧ Q (.bl b) H
theorem call_isi {X : Cx} {T : String} : CallR X (.builtin "isinstance") (rIsi X.K T) := call_isinst
end L2
namespace L2
open PySem PySem.Spec PyProof.Rows
end L2
namespace L2
open PySem PySem.Spec PyProof.Rows
noncomputable def Its (x : Str) : It := ⟨fun i _ => i < x.cps.size, fun i H v H' => H' = H ∧ ∃ c, x.cps[i]? = some c ∧ v = .str ⟨#[c]⟩, fun i _ => x.cps.size ≤ i⟩
theorem turn_str {P : Program} {w : World} {K : W.Frag} {tg : Expr} {it : Addr} {x : Str} {t : Tok} {ty : String} (hty : ["enumerate", "zip", "dict_itemiterator", "dict_reverseitemiterator", "odict_iterator", "itertools.zip_longest", "itertools.pairwise"].contains ty = false)
    (W : ∀ A' : Around, A'.handled = none → Walks P w A' it [it] [it] x.cps.size (SignAt x) (fun i h => h.IsStrIter it ty x t i))
    (hself : ∀ (A : Around) (i : Nat) (s : Shared) (Q : Value → Shared → Prop) (E : Value → Shared → Prop), s.heap.IsStrIter it ty x t i → Q (.ref it) s → wpAny (model P w) A (pyIter (.ref it)) Q E s) : Turn P w K tg (Its x) [it] it (fun i h => i ≤ x.cps.size ∧ h.IsStrIter it ty x t i) where
  mem := by simp
  obj := fun i h st b hb => by
    have e : b = it := by simpa using hb
    subst e
    obtain ⟨_, o, e, c, d⟩ := st
    exact ⟨o, e, fun v z => by rw [d] at z; cases z⟩
  keep := fun i h h' st k => by
    obtain ⟨hi, o, e, r⟩ := st
    exact ⟨hi, o, k it (by simp) o e, r⟩
  item := by
    intro X hP hw hK hc i pins s σ H E I hf st hg
    subst hP hw hK
    obtain ⟨f0, f1, f2, f3, f4, f5⟩ := hf it (by simp)
    obtain ⟨_, st⟩ := st
    refine (W X.A (I.ok.hd hc)).item i s _ _ hg st fun v h' tk hv st' kk => ?_
    obtain ⟨c, u, hx, rfl⟩ := hv
    have I1 : Inv X pins σ H { s with heap := h', toks := tk } := I.turned (fun b o hb e => kk b o (by simpa using hb) e) f0 f1 f3 f4 f5
    obtain ⟨o, e, hcl, hd⟩ := id st'
    exact ⟨_, rfl, go_of (s := { s with heap := h', toks := tk }) e hcl hd hty ⟨.str ⟨#[c]⟩, H, I1, ⟨u, rfl⟩, ⟨rfl, c, hx, rfl⟩, ⟨hg, st'⟩, fun b hb => (hf b hb).1⟩⟩
  done := by
    intro X hP hw hK hc i pins s σ H E I hf st hg
    subst hP hw hK
    obtain ⟨f0, f1, f2, f3, f4, f5⟩ := hf it (by simp)
    obtain ⟨hi, st⟩ := st
    have e : i = x.cps.size := Nat.le_antisymm hi hg
    subst e
    exact (W X.A (I.ok.hd hc)).done s _ _ st fun h' tk kk => ⟨rfl, I.turned (t' := tk) (fun b o hb e => kk b o (by simpa using hb) e) f0 f1 f3 f4 f5⟩
  self := fun A i s Q E st h => hself A i s Q E st.2 h
section
variable {X : Cx} {tg : Expr}
end
section
variable {X : Cx}
theorem call_allB (hc : X.calm = true) : CallR X (.builtin "all") (fun xs H Q => ∃ (a : Addr) (bs : List Bool), xs = [.ref a] ∧ SqL X.K H a (bs.map V.bl) ∧ Q (.bl (bs.all id)) H) := by
  intro pins s σ H xs us Q I r h
  obtain ⟨a, bs, rfl, hs, q⟩ := h
  obtain ⟨u, rfl, ru⟩ := vals1 r
  cases ru
  obtain ⟨its, rv, pl, hz⟩ := I.list hs
  have hl : its.length = bs.length := by rw [← rv.length, List.length_map]
  refine call_all_walk ?_
  refine wpAny_pyIter_list pl.isList ?_
  have lt : a < s.heap.objs.size := by obtain ⟨o, n, e, _⟩ := pl; exact Heap.lt_size e
  have at_ : ∀ (i : Nat) (v : Value), its.toArray[i]? = some v → v = Value.bool (bs.getD i true) := fun i v hv => by
    have hv' : its[i]? = some v := by simpa using hv
    have hi : i < bs.length := by
      have := (List.getElem?_eq_some_iff.mp hv').1
      omega
    have hx : (bs.map V.bl)[i]? = some (.bl (bs.getD i true)) := by
      rw [List.getElem?_map, List.getElem?_eq_getElem hi]
      simp [List.getD, List.getElem?_eq_getElem hi]
    obtain ⟨u, hu, ru⟩ := rv.get hx
    rw [hv'] at hu
    cases hu
    exact ru
  refine ⟨s.heap.objs.size, _, _, _, _, _, fun i => bs.getD i true, rfl, Walks.list (A := X.A.in1) (show X.A.in1.handled = none from I.ok.hd hc) _ a (Nat.ne_of_lt lt) its.toArray, ⟨⟨_, Heap.get?_push_size _ rfl, rfl, rfl⟩, pl.isList.at fun o e => Heap.get?_push_of_some _ e⟩, fun i v s' Q' E' hv hQ => ?_, fun h' tk hk => ?_⟩
  · rw [at_ i v hv]
    exact wpAny_truthy_bool hQ
  · have e : ((List.range its.toArray.size).all fun i => bs.getD i true) = bs.all id := by
      rw [List.size_toArray, hl]
      rw [Bool.eq_iff_iff, List.all_eq_true, List.all_eq_true]
      constructor
      · intro h b hb
        obtain ⟨i, hi, e⟩ := List.mem_iff_getElem.mp hb
        have := h i (List.mem_range.mpr hi)
        rw [List.getD, List.getElem?_eq_getElem hi] at this
        rw [← e]; exact this
      · intro h i hi
        have hi' := List.mem_range.mp hi
        rw [List.getD, List.getElem?_eq_getElem hi']
        exact h _ (List.getElem_mem hi')
    rw [e]
    refine ⟨.bl _, H, I.kept (t' := tk) fun b o eo => hk b o ?_ (Heap.get?_push_of_some _ eo), rfl, q⟩
    intro z
    rw [List.mem_singleton.mp z] at eo
    exact absurd (Heap.lt_size eo) (Nat.lt_irrefl _)
theorem sl_str : SlR X (fun x lo hi H Q => ∃ z, x = .str z ∧ z.length ≤ sizeLine ∧ Q (.str (Txt.slice z lo hi)) H) := by
  intro pins s σ H x v vl vu lo hi sl Q I rx hs pl pu h
  obtain ⟨z, rfl, hz, q⟩ := h
  obtain ⟨t, rfl⟩ := rx
  refine ⟨"str", _, F.slot_str_getitem.lookup, typeIs_str _ _ _, ?_⟩
  have fin : ∀ t' k, EP X pins σ Q (.str (Txt.slice z lo hi) t') { s with toks := k } := fun t' k => ⟨.str _, H, I.tok k, ⟨t', rfl⟩, q⟩
  obtain ⟨o, ho, hc, hd⟩ := hs
  cases pl with
  | none =>
    cases pu with
    | none => exact wpAny_getItem_str_slice (l := none) (u := none) (st := none) ⟨o, ho, hc, hd⟩ rfl (post_val_or_str ⟨Nat.le_trans (Txt.slice_le z _ _) hz, fin⟩)
    | int j tj => exact wpAny_getItem_str_slice (l := none) (u := some (j, tj)) (st := none) ⟨o, ho, hc, hd⟩ rfl (post_val_or_str ⟨Nat.le_trans (Txt.slice_le z _ _) hz, fin⟩)
  | int i ti =>
    cases pu with
    | none => exact wpAny_getItem_str_slice (l := some (i, ti)) (u := none) (st := none) ⟨o, ho, hc, hd⟩ rfl (post_val_or_str ⟨Nat.le_trans (Txt.slice_le z _ _) hz, fin⟩)
    | int j tj => exact wpAny_getItem_str_slice (l := some (i, ti)) (u := some (j, tj)) (st := none) ⟨o, ho, hc, hd⟩ rfl (post_val_or_str ⟨Nat.le_trans (Txt.slice_le z _ _) hz, fin⟩)
end
end L2
namespace L2
open PySem PySem.Spec PyProof.Rows
end L2
namespace L2
open PySem PySem.Spec PyProof.Rows PySem.W
section
variable {prog : Program} {w : World} {A : Around} {E : Value → Shared → Prop} {s : Shared}
end
end L2
namespace L2
open PySem PySem.Spec PyProof.Rows PySem.W
section
variable {prog : Program} {w : World} {A : Around} {E : Value → Shared → Prop} {s : Shared}
end
section
variable {prog : Program} {w : World} {A : Around} {E : Value → Shared → Prop} {s : Shared} {κ : Type} [DecidableEq κ] {knd : PySem.KeyKind prog w κ}
end
theorem vals_of : ∀ {xs : List V} {us : List Value}, us.length = xs.length → (∀ (j : Nat) (x : V) (u : Value), xs[j]? = some x → us[j]? = some u → RelV x u) → Vals xs us
  | [], [], _, _ => .nil
  | [], _ :: _, h, _ => by simp at h
  | _ :: _, [], h, _ => by simp at h
  | x :: xs, u :: us, h, r => .cons (r 0 x u rfl rfl) (vals_of (by simpa using h) fun j y v e1 e2 => r (j + 1) y v (by simpa using e1) (by simpa using e2))
section
variable {X : Cx} {pins : List (Addr × Obj)} {σ : St} {H : Hp} {s : Shared}
end
end L2
namespace L2
open PySem PySem.Spec PyProof.Rows PySem.W
section
variable {X : Cx} {pins : List (Addr × Obj)} {σ : St} {H : Hp} {s : Shared}
end
end L2
namespace L2
open PySem PySem.Spec PyProof.Rows PySem.W
section
variable {X : Cx}
end
end L2
namespace L2
open PySem PySem.Spec PyProof.Rows PySem.W
section
variable {prog : Program} {w : World} {A : Around} {E : Value → Shared → Prop} {s : Shared}
variable {z TI TO i1 i2 l1 l2 : Addr} {xs ys : Array Value} {R1 R2 : Nat → Heap → Prop}
end
end L2
namespace L2
open PySem PySem.Spec PyProof.Rows PySem.W
section
variable {X : Cx} {pins : List (Addr × Obj)} {σ : List (Option V)} {H : Hp} {s : Shared} {h' : Heap}
end
section
variable {prog : Program} {w : World} {A : Around} {E : Value → Shared → Prop} {s : Shared}
end
section
variable {X : Cx}
end
end L2
namespace L2
open PySem PySem.Spec PyProof.Rows
theorem kit_no (K : W.Frag) (a b : String) (h1 : ((Value.type a) == (Value.type b)) = false) (h2 : W.kitMeta b = true) (h3 : (fastBuiltinMro a).map (·.contains (.type b)) = some false) : W.kitOne K (.type a) (.type b) = some false := by
  unfold W.kitOne
  rw [h1, if_neg (by simp)]
  show (if W.kitMeta b = true then W.subIn K (.type a) (.type b) else none) = some false
  rw [if_pos h2]
  exact h3
section
variable (K : W.Frag)
end
section
variable {X : Cx}
end
end L2
namespace VL
open PySem L2
inductive Kd where
  | tup | frl | lst | dic (ks : List Key) | dit (ks : List (List Key)) | obj (C : Addr) (ns : List Str)
  deriving DecidableEq
inductive D where
  | sc (v : V)
  | nd (k : Kd) (cs : List D)
    | hl (v : V)
noncomputable def imm : Kd → Bool
  | .tup => true
  | .frl => true
  | _ => false
mutual
noncomputable def plain : D → Bool
  | .sc _ => true
  | .nd .tup cs => plainL cs
  | .nd .frl cs => plainL cs
  | .nd _ _ => false
  | .hl _ => false
noncomputable def plainL : List D → Bool
  | [] => true
  | d :: ds => plain d && plainL ds
end
theorem plainL_mem : ∀ {ds : List D} {d : D}, plainL ds = true → d ∈ ds → plain d = true
  | _ :: ds, d, h, m => by
    rw [plainL, Bool.and_eq_true] at h
    cases m with
    | head => exact h.1
    | tail _ m => exact plainL_mem h.2 m
theorem plainL_of : ∀ {ds : List D}, (∀ d ∈ ds, plain d = true) → plainL ds = true
  | [], _ => rfl
  | d :: ds, h => by
    rw [plainL, h d (.head _), plainL_of fun e he => h e (.tail _ he)]
    rfl
theorem plainL_get {ds : List D} {i : Nat} {d : D} (h : plainL ds = true) (e : ds[i]? = some d) : plain d = true := plainL_mem h (List.mem_of_getElem? e)
noncomputable def ho (k : Kd) (dx : Addr) (vs : List V) : HO := match k with
  | .tup => .tup vs
  | .frl => .lst vs
  | .lst => .lst vs
  | .dic ks => .dK (ks.zip vs)
  | .dit ks => .dT (ks.zip vs)
  | .obj C ns => .ins C dx (ns.zip vs)
noncomputable def fits (K : W.Frag) (k : Kd) (n : Nat) : Prop := match k with
  | .dic ks => ks.length = n
  | .dit ks => ks.length = n
  | .obj C ns => ns.length = n ∧ Cls K C ∧ ∀ f ∈ ns, NoAttr K C f
  | _ => True
noncomputable def FrL (K : W.Frag) (H : Hp) (a : Addr) (vs : List V) : Prop := (∃ o, H a = some (.frz o (.lst vs))) ∨ ∃ (o : Obj) (its : Array Value) (n : Nat), K.lookup a = some o ∧ o.cls = .type "list" ∧ o.dict = none ∧ o.data = .seq its n ∧ its.size ≤ sizeLine ∧ Vals vs its.toList
theorem FrL.sq {K : W.Frag} {H : Hp} {a : Addr} {vs : List V} (h : FrL K H a vs) : SqL K H a vs := h.elim (fun ⟨o, e⟩ => .inl (.inr ⟨o, e⟩)) .inr
noncomputable def Cell (K : W.Frag) (H : Hp) (a : Addr) (k : Kd) (vs : List V) : Prop := fits K k vs.length ∧ match k with
  | .tup => H a = some (.tup vs)
  | .frl => FrL K H a vs
  | .lst => H a = some (.lst vs)
  | .dic ks => Rd H a (.dK (ks.zip vs))
  | .dit ks => Rd H a (.dT (ks.zip vs))
  | .obj C ns => ∃ dx, H a = some (.ins C dx (ns.zip vs))
noncomputable def CellM (K : W.Frag) (H : Hp) (a : Addr) (k : Kd) (vs : List V) : Prop := imm k = false ∧ fits K k vs.length ∧ ∃ dx, H a = some (ho k dx vs)
theorem CellM.cell {K : W.Frag} {H : Hp} {a : Addr} {k : Kd} {vs : List V} (h : CellM K H a k vs) : Cell K H a k vs := by
  obtain ⟨hk, hf, dx, e⟩ := h
  refine ⟨hf, ?_⟩
  cases k with
  | tup => cases hk
  | frl => cases hk
  | lst => exact e
  | dic ks => exact .inl e
  | dit ks => exact .inl e
  | obj C ns => exact ⟨dx, e⟩
theorem CellM.mu {K : W.Frag} {H : Hp} {a : Addr} {k : Kd} {vs : List V} (h : CellM K H a k vs) : Mut (H a) := by
  obtain ⟨hk, hf, dx, e⟩ := h
  rw [e]
  cases k with
  | tup => cases hk
  | frl => cases hk
  | lst => trivial
  | dic ks => trivial
  | dit ks => trivial
  | obj C ns => trivial
noncomputable def Stay (H H' : Hp) : Prop := ∀ b o, ¬ Mut (some o) → H b = some o → H' b = some o
theorem Stay.refl (H : Hp) : Stay H H := fun _ _ _ h => h
theorem Stay.of {H H' : Hp} (s : Same H H') : Stay H H' := fun b o _ h => s b o h
theorem Stay.sqT {K : W.Frag} {H H' : Hp} (s : Stay H H') {a : Addr} {xs : List V} (h : SqT K H a xs) : SqT K H' a xs := by
  rcases h with (h | ⟨o, h⟩) | h
  · exact .inl (.inl (s _ _ (fun z => z) h))
  · exact .inl (.inr ⟨o, s _ _ (fun z => z) h⟩)
  · exact .inr h
theorem FrL.stay {K : W.Frag} {H H' : Hp} {a : Addr} {vs : List V} (h : FrL K H a vs) (s : Stay H H') : FrL K H' a vs := h.elim (fun ⟨o, e⟩ => .inl ⟨o, s _ _ (fun z => z) e⟩) .inr
inductive Vw (K : W.Frag) (H : Hp) (N : Addr → Prop) : V → D → Prop
  | sc (v : V) : Vw K H N v (.sc v)
  | hl (v : V) : Vw K H N v (.hl v)
  | nd {a : Addr} {k : Kd} {vs : List V} {cs : List D} : (imm k = false → N a) → Cell K H a k vs → vs.length = cs.length → (∀ (i : Nat) (v : V) (d : D), vs[i]? = some v → cs[i]? = some d → Vw K H N v d) → Vw K H N (.ref a) (.nd k cs)
noncomputable def Hold (K : W.Frag) (H : Hp) (F : Addr → Prop) (a : Addr) (k : Kd) (vs : List V) (cs : List D) : Prop := match k with
  | .tup => H a = some (.tup vs)
  | .frl => plainL cs = true ∧ FrL K H a vs
  | k => F a ∧ CellM K H a k vs
inductive Rep (K : W.Frag) (H : Hp) : (Addr → Prop) → V → D → Prop
  | sc (F : Addr → Prop) (v : V) : Rep K H F v (.sc v)
  | hl (F : Addr → Prop) (v : V) : Rep K H F v (.hl v)
  | nd {F : Addr → Prop} {a : Addr} {k : Kd} {vs : List V} {cs : List D} (Fs : Nat → Addr → Prop) : Hold K H F a k vs cs → vs.length = cs.length → (∀ i j b, Fs i b → Fs j b → i = j) → (∀ i b, Fs i b → F b ∧ (imm k = false → b ≠ a)) →
      (∀ (i : Nat) (v : V) (d : D), vs[i]? = some v → cs[i]? = some d → Rep K H (Fs i) v d) → Rep K H F (.ref a) (.nd k cs)
section
variable {K : W.Frag} {H H' : Hp} {F F' N N' : Addr → Prop}
theorem Hold.mono {a : Addr} {k : Kd} {vs : List V} {cs : List D} (h : Hold K H F a k vs cs) (m : ∀ b, F b → F' b) : Hold K H F' a k vs cs := by
  cases k with
  | tup => exact h
  | frl => exact h
  | _ => exact ⟨m _ h.1, h.2⟩
theorem Hold.frame {a : Addr} {k : Kd} {vs : List V} {cs : List D} (h : Hold K H F a k vs cs) (f : ∀ b o, F b → H b = some o → H' b = some o) (s : Stay H H') : Hold K H' F a k vs cs := by
  cases k with
  | tup => exact s _ _ (fun z => z) h
  | frl => exact ⟨h.1, h.2.stay s⟩
  | _ => obtain ⟨h1, h2, h3, dx, e⟩ := h; exact ⟨h1, h2, h3, dx, f _ _ h1 e⟩
theorem Hold.cell {a : Addr} {k : Kd} {vs : List V} {cs : List D} (h : Hold K H F a k vs cs) : Cell K H a k vs := by
  cases k with
  | tup => exact ⟨trivial, h⟩
  | frl => exact ⟨trivial, h.2⟩
  | _ => exact h.2.cell
theorem Hold.own {a : Addr} {k : Kd} {vs : List V} {cs : List D} (h : Hold K H F a k vs cs) (hk : imm k = false) : F a ∧ CellM K H a k vs := by
  cases k with
  | tup => cases hk
  | frl => cases hk
  | _ => exact h
theorem Hold.put {a : Addr} {k : Kd} {vs : List V} {cs : List D} (hk : imm k = false) (h1 : F a) (h2 : CellM K H a k vs) : Hold K H F a k vs cs := by
  cases k with
  | tup => cases hk
  | frl => cases hk
  | _ => exact ⟨h1, h2⟩
theorem Rep.mono {v : V} {d : D} (h : Rep K H F v d) (m : ∀ b, F b → F' b) : Rep K H F' v d := by
  cases h with
  | sc => exact .sc _ _
  | hl => exact .hl _ _
  | nd Fs h1 h2 h3 h4 h5 => exact .nd Fs (h1.mono m) h2 h3 (fun i b z => ⟨m _ (h4 i b z).1, (h4 i b z).2⟩) h5
theorem Rep.frame {v : V} {d : D} (h : Rep K H F v d) (f : ∀ b o, F b → H b = some o → H' b = some o) (s : Stay H H') : Rep K H' F v d := by
  induction h with
  | sc => exact .sc _ _
  | hl => exact .hl _ _
  | nd Fs h1 h2 h3 h4 _ ih => exact .nd Fs (h1.frame f s) h2 h3 h4 fun i v d hv hd => ih i v d hv hd fun b o z => f b o (h4 i b z).1
theorem Rep.same {v : V} {d : D} (h : Rep K H F v d) (s : Same H H') : Rep K H' F v d := h.frame (fun b o _ e => s b o e) (Stay.of s)
theorem Rep.view {v : V} {d : D} (h : Rep K H F v d) (m : ∀ b, F b → N b) : Vw K H N v d := by
  induction h with
  | sc => exact .sc _
  | hl => exact .hl _
  | nd Fs h1 h2 h3 h4 _ ih => exact .nd (fun hk => m _ (h1.own hk).1) h1.cell h2 fun i v d hv hd => ih i v d hv hd fun b z => m b (h4 i b z).1
theorem Rep.vw {v : V} {d : D} (h : Rep K H F v d) : Vw K H (fun _ => True) v d := h.view fun _ _ => trivial
theorem Vw.mono {v : V} {d : D} (h : Vw K H N v d) (m : ∀ b, N b → N' b) : Vw K H N' v d := by
  induction h with
  | sc => exact .sc _
  | hl => exact .hl _
  | nd h1 h2 h3 _ ih => exact .nd (fun k => m _ (h1 k)) h2 h3 ih
theorem Vw.any {v : V} {d : D} (h : Vw K H N v d) : Vw K H (fun _ => True) v d := h.mono fun _ _ => trivial
theorem Cell.frame {a : Addr} {k : Kd} {vs : List V} (h : Cell K H a k vs) (f : imm k = false → ∀ o, H a = some o → H' a = some o) (s : Stay H H') : Cell K H' a k vs := by
  obtain ⟨h1, h⟩ := h
  refine ⟨h1, ?_⟩
  cases k with
  | tup => exact s _ _ (fun z => z) h
  | frl => exact FrL.stay h s
  | lst => exact f rfl _ h
  | dic ks =>
    have f := f rfl
    rcases h with h | ⟨o, h⟩
    · exact .inl (f _ h)
    · exact .inr ⟨o, f _ h⟩
  | dit ks =>
    have f := f rfl
    rcases h with h | ⟨o, h⟩
    · exact .inl (f _ h)
    · exact .inr ⟨o, f _ h⟩
  | obj C ns =>
    obtain ⟨dx, h⟩ := h
    exact ⟨dx, f rfl _ h⟩
theorem Vw.frame {v : V} {d : D} (h : Vw K H N v d) (f : ∀ b o, N b → H b = some o → H' b = some o) (s : Stay H H') : Vw K H' N v d := by
  induction h with
  | sc => exact .sc _
  | hl => exact .hl _
  | nd h1 h2 h3 _ ih => exact .nd h1 (h2.frame (fun hk o e => f _ o (h1 hk) e) s) h3 ih
theorem Vw.same {v : V} {d : D} (h : Vw K H N v d) (s : Same H H') : Vw K H' N v d := h.frame (fun b o _ e => s b o e) (Stay.of s)
theorem Vw.plain {v : V} {d : D} (h : Vw K H N v d) (p : plain d = true) : Rep K H (fun _ => False) v d := by
  induction h with
  | sc => exact .sc _ _
  | hl => cases p
  | @nd a k vs cs h1 h2 h3 _ ih =>
    cases k with
    | tup =>
      have p : plainL cs = true := p
      exact .nd (fun _ _ => False) h2.2 h3 (fun _ _ _ z => z.elim) (fun _ _ z => z.elim) fun i v d hv hd => ih i v d hv hd (plainL_get p hd)
    | frl =>
      have p : plainL cs = true := p
      exact .nd (fun _ _ => False) ⟨p, h2.2⟩ h3 (fun _ _ _ z => z.elim) (fun _ _ z => z.elim) fun i v d hv hd => ih i v d hv hd (plainL_get p hd)
    | _ => simp [VL.plain] at p
end
noncomputable def kids : HO → List V
  | .lst xs => xs
  | .tup xs => xs
  | .dK kvs => kvs.map (·.2)
  | .dT kvs => kvs.map (·.2)
  | .ins _ _ fs => fs.map (·.2)
  | .frz _ u => kids u
  | _ => []
theorem zip_snd {α β : Type} : ∀ {l : List α} {m : List β}, l.length = m.length → (l.zip m).map (·.2) = m
  | [], [], _ => rfl
  | _ :: l, _ :: m, h => by rw [List.zip_cons_cons, List.map_cons, zip_snd (Nat.succ.inj h)]
theorem kids_ho {K : W.Frag} {k : Kd} {dx : Addr} {vs : List V} (h : fits K k vs.length) : kids (ho k dx vs) = vs := by
  cases k with
  | tup => rfl
  | frl => rfl
  | lst => rfl
  | dic ks => exact zip_snd h
  | dit ks => exact zip_snd h
  | obj C ns => exact zip_snd h.1
inductive PathV (H : Hp) : V → List Nat → V → Prop
  | nil (v : V) : PathV H v [] v
  | cons {a : Addr} {o : HO} {n : Nat} {c u : V} {p : List Nat} : H a = some o → (kids o)[n]? = some c → PathV H c p u → PathV H (.ref a) (n :: p) u
noncomputable def getP : D → List Nat → Option D
  | d, [] => some d
  | .sc _, _ :: _ => none
  | .hl _, _ :: _ => none
  | .nd k cs, n :: p => if imm k = true ∧ plainL cs = true then none else match cs[n]? with
    | some c => getP c p
    | none => none
noncomputable def setP : D → List Nat → D → D
  | _, [], e => e
  | .sc v, _ :: _, _ => .sc v
  | .hl v, _ :: _, _ => .hl v
  | .nd k cs, n :: p, e => .nd k (match cs[n]? with
    | some c => cs.set n (setP c p e)
    | none => cs)
section
variable {K : W.Frag} {H H' : Hp} {F F' N N' : Addr → Prop}
theorem Hold.kids {a : Addr} {k : Kd} {vs : List V} {cs : List D} {o : HO} (h : Hold K H F a k vs cs) (hp : ¬ (imm k = true ∧ plainL cs = true)) (e : H a = some o) : kids o = vs := by
  cases k with
  | tup => have h : H a = some (.tup vs) := h; rw [e] at h; cases h; rfl
  | frl => exact absurd ⟨rfl, h.1⟩ hp
  | _ => obtain ⟨_, _, hf, dx, q⟩ := h; rw [e] at q; cases q; exact kids_ho hf
theorem Rep.focus : ∀ {p : List Nat} {F : Addr → Prop} {v u : V} {d d1 : D}, Rep K H F v d → PathV H v p u → getP d p = some d1 →
    ∃ F1 : Addr → Prop, (∀ b, F1 b → F b) ∧ Rep K H F1 u d1 ∧ ∀ (H' : Hp) (F1' : Addr → Prop) (d1' : D), (∀ b o, ¬ F1 b → F b → H b = some o → H' b = some o) → Stay H H' → Rep K H' F1' u d1' → (∀ b, F1' b → F1 b ∨ ¬ F b) →
      Rep K H' (fun b => (F b ∧ ¬ F1 b) ∨ F1' b) v (setP d p d1')
  | [], F, v, u, d, d1, h, hp, g => by
    cases hp
    cases g
    refine ⟨F, fun _ z => z, h, fun H' F1' d1' _ _ h' _ => ?_⟩
    show Rep K H' _ v (setP d [] d1')
    rw [setP]
    exact h'.mono fun b z => .inr z
  | n :: p, F, v, u, d, d1, h, hp, g => by
    cases hp with
    | @cons a o n c u p e1 e2 hp =>
      cases h with
      | sc => rw [getP] at g; cases g
      | hl => rw [getP] at g; cases g
      | @nd _ _ k vs cs Fs h1 h2 h3 h4 h5 =>
        rw [getP] at g
        by_cases hpl : imm k = true ∧ plainL cs = true
        · rw [if_pos hpl] at g; cases g
        rw [if_neg hpl] at g
        rw [h1.kids hpl e1] at e2
        have hn : n < cs.length := by rw [← h2]; exact (List.getElem?_eq_some_iff.mp e2).1
        have hc : cs[n]? = some cs[n] := List.getElem?_eq_getElem hn
        rw [hc] at g
        obtain ⟨F1, m1, r1, put⟩ := (h5 n c _ e2 hc).focus hp g
        refine ⟨F1, fun b z => (h4 n b (m1 b z)).1, r1, fun H' F1' d1' fr st r' ap => ?_⟩
        have key := put H' F1' d1' (fun b o nb hb => fr b o nb (h4 n b hb).1) st r' fun b z => (ap b z).elim .inl fun q => .inr fun w => q (h4 n b w).1
        rw [setP, hc]
        have ane : imm k = false → ¬ F1 a := fun hk z => (h4 n a (m1 a z)).2 hk rfl
        refine .nd (fun i b => if i = n then (Fs n b ∧ ¬ F1 b) ∨ F1' b else Fs i b) ?_ (by show vs.length = (cs.set n _).length; rw [List.length_set]; exact h2) ?_ ?_ ?_
        · cases k with
          | tup => exact st _ _ (fun z => z) h1
          | frl => exact absurd ⟨rfl, h1.1⟩ hpl
          | _ => obtain ⟨x1, x2, x3, dx, x4⟩ := h1; exact ⟨.inl ⟨x1, ane x2⟩, x2, x3, dx, fr _ _ (ane x2) x1 x4⟩
        · intro i j b hi hj
          by_cases ei : i = n
          · by_cases ej : j = n
            · rw [ei, ej]
            · rw [if_pos ei] at hi
              rw [if_neg ej] at hj
              rcases hi with hi | hi
              · exact absurd (h3 j n b hj hi.1) ej
              · rcases ap b hi with z | z
                · exact absurd (h3 j n b hj (m1 b z)) ej
                · exact absurd (h4 j b hj).1 z
          · rw [if_neg ei] at hi
            by_cases ej : j = n
            · rw [if_pos ej] at hj
              rcases hj with hj | hj
              · exact absurd (h3 i n b hi hj.1) ei
              · rcases ap b hj with z | z
                · exact absurd (h3 i n b hi (m1 b z)) ei
                · exact absurd (h4 i b hi).1 z
            · rw [if_neg ej] at hj
              exact h3 i j b hi hj
        · intro i b hi
          by_cases ei : i = n
          · rw [if_pos ei] at hi
            rcases hi with hi | hi
            · exact ⟨.inl ⟨(h4 n b hi.1).1, hi.2⟩, (h4 n b hi.1).2⟩
            · refine ⟨.inr hi, fun hk z => ?_⟩
              subst z
              rcases ap b hi with q | q
              · exact ane hk q
              · exact q (h1.own hk).1
          · rw [if_neg ei] at hi
            exact ⟨.inl ⟨(h4 i b hi).1, fun z => ei (h3 i n b hi (m1 b z))⟩, (h4 i b hi).2⟩
        · intro i v2 d2 hv hd
          by_cases ei : i = n
          · subst ei
            rw [e2] at hv
            cases hv
            have hd : (cs.set i (setP cs[i] p d1'))[i]? = some d2 := hd
            rw [List.getElem?_set_self hn] at hd
            cases hd
            show Rep K H' (fun b => if i = i then (Fs i b ∧ ¬ F1 b) ∨ F1' b else Fs i b) c _
            simp only [if_pos rfl]
            exact key
          · have hd : (cs.set n (setP cs[n] p d1'))[i]? = some d2 := hd
            rw [List.getElem?_set_ne (Ne.symm ei)] at hd
            show Rep K H' (fun b => if i = n then (Fs n b ∧ ¬ F1 b) ∨ F1' b else Fs i b) v2 d2
            simp only [if_neg ei]
            exact (h5 i v2 d2 hv hd).frame (fun b o hb => fr b o (fun z => ei (h3 i n b hb (m1 b z))) (h4 i b hb).1) st
end
section
variable {K : W.Frag} {H H' : Hp} {F F' N N' : Addr → Prop}
theorem Cell.trk {a : Addr} {k : Kd} {vs : List V} (h : Cell K H a k vs) (hk : imm k = false) : ∃ o, H a = some o := by
  obtain ⟨_, h⟩ := h
  cases k with
  | tup => cases hk
  | frl => cases hk
  | lst => exact ⟨_, h⟩
  | dic ks => rcases h with h | ⟨o, h⟩ <;> exact ⟨_, h⟩
  | dit ks => rcases h with h | ⟨o, h⟩ <;> exact ⟨_, h⟩
  | obj C ns => obtain ⟨dx, h⟩ := h; exact ⟨_, h⟩
theorem Vw.over {v : V} {d : D} (h : Vw K H N v d) (f : ∀ b o, N b → H b = some o → H' b = some o ∧ N' b) (s : Stay H H') : Vw K H' N' v d := by
  induction h with
  | sc => exact .sc _
  | hl => exact .hl _
  | nd h1 h2 h3 _ ih => exact .nd (fun k => let ⟨o, e⟩ := h2.trk k; (f _ o (h1 k) e).2) (h2.frame (fun hk o e => (f _ o (h1 hk) e).1) s) h3 ih
theorem Vw.node {v : V} {k : Kd} {cs : List D} (h : Vw K H N v (.nd k cs)) : ∃ a vs, v = .ref a ∧ (imm k = false → N a) ∧ Cell K H a k vs ∧ vs.length = cs.length ∧ ∀ (i : Nat) (v : V) (d : D), vs[i]? = some v → cs[i]? = some d → Vw K H N v d := by
  cases h with
  | nd h1 h2 h3 h4 => exact ⟨_, _, rfl, h1, h2, h3, h4⟩
theorem Vw.scal {v u : V} (h : Vw K H N v (.sc u)) : v = u := by
  cases h
  rfl
theorem Rep.scal {v u : V} (h : Rep K H F v (.sc u)) : v = u := by
  cases h
  rfl
theorem Rep.hole {v u : V} (h : Rep K H F v (.hl u)) : v = u := by
  cases h
  rfl
theorem Rep.node {v : V} {k : Kd} {cs : List D} (h : Rep K H F v (.nd k cs)) : ∃ a vs, v = .ref a ∧ Hold K H F a k vs cs ∧ vs.length = cs.length ∧ ∃ Fs : Nat → Addr → Prop, (∀ i j b, Fs i b → Fs j b → i = j) ∧ (∀ i b, Fs i b → F b ∧ (imm k = false → b ≠ a)) ∧
      (∀ (i : Nat) (v : V) (d : D), vs[i]? = some v → cs[i]? = some d → Rep K H (Fs i) v d) := by
  cases h with
  | nd Fs h1 h2 h3 h4 h5 => exact ⟨_, _, rfl, h1, h2, Fs, h3, h4, h5⟩
theorem Rep.path : ∀ {p : List Nat} {F : Addr → Prop} {v : V} {d d1 : D}, Rep K H F v d → getP d p = some d1 → ∃ u, PathV H v p u
  | [], F, v, d, d1, h, g => ⟨v, .nil v⟩
  | n :: p, F, v, .sc _, d1, h, g => by rw [getP] at g; cases g
  | n :: p, F, v, .hl _, d1, h, g => by rw [getP] at g; cases g
  | n :: p, F, v, .nd k cs, d1, h, g => by
    obtain ⟨a, vs, rfl, h1, h2, Fs, h3, h4, h5⟩ := h.node
    rw [getP] at g
    by_cases hpl : imm k = true ∧ plainL cs = true
    · rw [if_pos hpl] at g; cases g
    rw [if_neg hpl] at g
    cases hc : cs[n]? with
    | none => rw [hc] at g; cases g
    | some c =>
      rw [hc] at g
      have hn : n < vs.length := by rw [h2]; exact (List.getElem?_eq_some_iff.mp hc).1
      obtain ⟨u, hu⟩ := (h5 n _ c (List.getElem?_eq_getElem hn) hc).path g
      have ho : ∃ o, H a = some o := by
        cases k with
        | tup => exact ⟨_, h1⟩
        | frl => exact absurd ⟨rfl, h1.1⟩ hpl
        | _ => obtain ⟨_, _, _, dx, e⟩ := h1; exact ⟨_, e⟩
      obtain ⟨o, e⟩ := ho
      exact ⟨u, .cons e (by rw [h1.kids hpl e]; exact List.getElem?_eq_getElem hn) hu⟩
theorem Rep.pathStay : ∀ {p : List Nat} {F : Addr → Prop} {v u : V} {d d1 : D}, Rep K H F v d → getP d p = some d1 → PathV H v p u → (∀ b o, F b → H b = some o → H' b = some o) → Stay H H' → PathV H' v p u
  | [], F, v, u, d, d1, h, g, hp, f, s => by cases hp; exact .nil v
  | n :: p, F, v, u, .sc _, d1, h, g, hp, f, s => by rw [getP] at g; cases g
  | n :: p, F, v, u, .hl _, d1, h, g, hp, f, s => by rw [getP] at g; cases g
  | n :: p, F, v, u, .nd k cs, d1, h, g, hp, f, s => by
    obtain ⟨a, vs, rfl, h1, h2, Fs, h3, h4, h5⟩ := h.node
    rw [getP] at g
    by_cases hpl : imm k = true ∧ plainL cs = true
    · rw [if_pos hpl] at g; cases g
    rw [if_neg hpl] at g
    cases hc : cs[n]? with
    | none => rw [hc] at g; cases g
    | some c =>
      rw [hc] at g
      cases hp with
      | @cons a o n c' u p e1 e2 hp =>
        rw [h1.kids hpl e1] at e2
        have e1' : H' a = some o := by
          cases k with
          | tup => have h1 : H a = some (.tup vs) := h1; rw [e1] at h1; cases h1; exact s _ _ (fun z => z) e1
          | frl => exact absurd ⟨rfl, h1.1⟩ hpl
          | _ => exact f _ _ h1.1 e1
        refine .cons e1' (by rw [h1.kids hpl e1]; exact e2) ?_
        exact (h5 n c' c e2 hc).pathStay g hp (fun b o z => f b o (h4 n b z).1) s
theorem Rep.sub {p : List Nat} {v u : V} {d d1 : D} (h : Rep K H F v d) (g : getP d p = some d1) (hp : PathV H v p u) (m : ∀ b, F b → N b) : Vw K H N u d1 := by
  obtain ⟨F1, m1, r1, _⟩ := h.focus hp g
  exact r1.view fun b z => m b (m1 b z)
end
inductive B where
  | own (d : D) | ro (d : D) | ali (r : Nat) (p : List Nat)
noncomputable abbrev En := List (Option B)
noncomputable def SlotOk (K : W.Frag) (H : Hp) (U F : Addr → Prop) (m : Nat) (e : List (Option V)) (v : V) : B → Prop
  | .own d => Rep K H F v d
  | .ro d => Vw K H (fun b => ¬ U b) v d
  | .ali r p => r < m ∧ ∃ vr, e[r]? = some (some vr) ∧ PathV H vr p v
structure EnvOk (K : W.Frag) (H : Hp) (U : Addr → Prop) (m : Nat) (e : List (Option V)) (ρ : En) : Prop where
  len : e.length = ρ.length
  mu : ∀ b, U b → Mut (H b)
  ex : ∃ Fs : Nat → Addr → Prop, (∀ i j b, Fs i b → Fs j b → i = j) ∧ (∀ i b, Fs i b → U b) ∧ ∀ (i : Nat) (β : B), ρ[i]? = some (some β) → ∃ v, e[i]? = some (some v) ∧ SlotOk K H U (Fs i) m e v β
noncomputable def Stp (U : Addr → Prop) (H : Hp) (U' : Addr → Prop) (H' : Hp) : Prop := ∀ b o, H b = some o → ¬ U b → H' b = some o ∧ ¬ U' b
theorem Stp.refl (U : Addr → Prop) (H : Hp) : Stp U H U H := fun _ _ h n => ⟨h, n⟩
theorem Stp.trans {U U1 U2 : Addr → Prop} {H H1 H2 : Hp} (a : Stp U H U1 H1) (b : Stp U1 H1 U2 H2) : Stp U H U2 H2 := fun c o h n => b c o (a c o h n).1 (a c o h n).2
theorem Stp.stay {U U' : Addr → Prop} {H H' : Hp} (s : Stp U H U' H') (mu : ∀ b, U b → Mut (H b)) : Stay H H' := fun b o m e => (s b o e fun u => m (by have := mu b u; rw [e] at this; exact this)).1
theorem mut_some {o : Option HO} (h : Mut o) : ∃ x, o = some x := by
  cases o with
  | none => exact h.elim
  | some x => exact ⟨x, rfl⟩
noncomputable def rootD (ρ : En) (r : Nat) : Option D := match ρ[r]? with
  | some (some (.own d)) => some d
  | _ => none
noncomputable def pruneB (ρ : En) : Option B → Option B
  | some (.ali r p) => if p = [] ∨ ((rootD ρ r).bind (getP · p)).isSome = true then some (.ali r p) else none
  | b => b
noncomputable def prune (ρ : En) : En := ρ.map (pruneB ρ)
noncomputable def ownOnly (τ : En) : Prop := ∀ b ∈ τ, b = none ∨ ∃ d, b = some (B.own d)
noncomputable def noAli (τ : En) : Prop := ∀ b ∈ τ, ∀ r p, b ≠ some (B.ali r p)
theorem prune_len (ρ : En) : (prune ρ).length = ρ.length := by unfold prune; rw [List.length_map]
section
variable {K : W.Frag} {H H' : Hp} {U U' : Addr → Prop} {m : Nat} {e t t' : List (Option V)} {ρ τ τ' : En}
theorem slot_of {i : Nat} {β : B} (hl : e.length = ρ.length) (h : (ρ ++ τ)[i]? = some (some β)) : (i < e.length ∧ ρ[i]? = some (some β)) ∨ (e.length ≤ i ∧ τ[i - e.length]? = some (some β)) := by
  by_cases hi : i < ρ.length
  · rw [List.getElem?_append_left hi] at h
    exact .inl ⟨by omega, h⟩
  · rw [List.getElem?_append_right (by omega)] at h
    exact .inr ⟨by omega, by rw [hl]; exact h⟩
theorem rootD_of {r : Nat} {d : D} (h : rootD ρ r = some d) : ρ[r]? = some (some (.own d)) := by
  unfold rootD at h
  split at h
  · next q => cases h; exact q
  · cases h
theorem prune_get {i : Nat} {β : B} (h : (prune ρ)[i]? = some (some β)) : ρ[i]? = some (some β) ∧ pruneB ρ (some β) = some β := by
  unfold prune at h
  rw [List.getElem?_map] at h
  cases q : ρ[i]? with
  | none => rw [q] at h; cases h
  | some o =>
    rw [q] at h
    have h : pruneB ρ o = some β := Option.some.inj h
    cases o with
    | none => cases h
    | some c =>
      cases c with
      | own d => have h : some (B.own d) = some β := h; cases h; exact ⟨rfl, rfl⟩
      | ro d => have h : some (B.ro d) = some β := h; cases h; exact ⟨rfl, rfl⟩
      | ali r p =>
        have h' : (if p = [] ∨ ((rootD ρ r).bind (getP · p)).isSome = true then some (B.ali r p) else none) = some β := h
        by_cases c : p = [] ∨ ((rootD ρ r).bind (getP · p)).isSome = true
        · rw [if_pos c] at h'; cases h'; exact ⟨rfl, h⟩
        · rw [if_neg c] at h'; cases h'
theorem EnvOk.call (h : EnvOk K H U m (e ++ t) (ρ ++ τ)) (hl : e.length = ρ.length) (hm : m ≤ e.length) (hτ : noAli τ) :
    ∃ Ut : Addr → Prop, (∀ b, Ut b → U b) ∧ EnvOk K H Ut 0 t τ ∧ (∀ (i : Nat) (v : V) (d : D), e[i]? = some (some v) → (ρ[i]? = some (some (.own d)) → ∃ F : Addr → Prop, Rep K H F v d ∧ ∀ b, F b → ¬ Ut b) ∧ (ρ[i]? = some (some (.ro d)) → Vw K H (fun b => ¬ Ut b) v d)) ∧
      ∀ (H' : Hp) (Ut' : Addr → Prop) (t' : List (Option V)) (τ' : En), EnvOk K H' Ut' 0 t' τ' → Stp Ut H Ut' H' → ownOnly τ' → ∃ U' : Addr → Prop, EnvOk K H' U' m (e ++ t') (prune ρ ++ τ') ∧ Stp U H U' H' := by
  obtain ⟨hlen, mu, Fs, dj, sub, sl⟩ := h
  have hle : (e ++ t).length = (ρ ++ τ).length := hlen
  rw [List.length_append, List.length_append] at hle
  refine ⟨fun b => ∃ i, e.length ≤ i ∧ Fs i b, fun b ⟨i, _, z⟩ => sub i b z, ⟨by omega, fun b ⟨i, _, z⟩ => mu b (sub i b z), fun i => Fs (e.length + i), fun i j b hi hj => by have := dj _ _ b hi hj; omega, fun i b hb => ⟨_, by omega, hb⟩, fun i β hβ => ?_⟩, ?_, ?_⟩
  · have hβ' : (ρ ++ τ)[e.length + i]? = some (some β) := by
      rw [hl, List.getElem?_append_right (by omega), show ρ.length + i - ρ.length = i by omega]
      exact hβ
    obtain ⟨v, ev, sv⟩ := sl _ _ hβ'
    rw [List.getElem?_append_right (by omega), show e.length + i - e.length = i by omega] at ev
    refine ⟨v, ev, ?_⟩
    cases β with
    | own d => exact sv
    | ro d => exact Vw.mono sv fun b nb ⟨j, _, z⟩ => nb (sub j b z)
    | ali r p => exact absurd rfl (hτ _ (List.mem_of_getElem? hβ) r p)
  · intro i v d ev
    have hi : i < e.length := by
      rcases Nat.lt_or_ge i e.length with z | z
      · exact z
      · rw [List.getElem?_eq_none_iff.mpr z] at ev; cases ev
    have ap : ∀ β, ρ[i]? = some (some β) → (ρ ++ τ)[i]? = some (some β) := fun β q => by rw [List.getElem?_append_left (by omega)]; exact q
    have ev' : (e ++ t)[i]? = some (some v) := by rw [List.getElem?_append_left hi]; exact ev
    refine ⟨fun hb => ?_, fun hb => ?_⟩
    · obtain ⟨v', ev2, sv⟩ := sl i _ (ap _ hb)
      rw [ev'] at ev2; cases ev2
      exact ⟨Fs i, sv, fun b hb ⟨j, hj, z⟩ => by have := dj i j b hb z; omega⟩
    · obtain ⟨v', ev2, sv⟩ := sl i _ (ap _ hb)
      rw [ev'] at ev2; cases ev2
      exact Vw.mono sv fun b nb ⟨j, _, z⟩ => nb (sub j b z)
  · intro H' Ut' t' τ' h' st hτ'
    obtain ⟨hlen', mu', Gs, dj', sub', sl'⟩ := h'
    have nU : ∀ i b, i < e.length → Fs i b → ¬ ∃ j, e.length ≤ j ∧ Fs j b := fun i b hi hb ⟨j, hj, z⟩ => by have := dj i j b hb z; omega
    have stay : Stay H H' := st.stay fun b ⟨i, _, z⟩ => mu b (sub i b z)
    have keep : ∀ i, i < e.length → ∀ b o, Fs i b → H b = some o → H' b = some o := fun i hi b o hb q => (st b o q (nU i b hi hb)).1
    have nUt' : ∀ i, i < e.length → ∀ b, Fs i b → ¬ Ut' b := fun i hi b hb => by
      obtain ⟨o, q⟩ := mut_some (mu b (sub i b hb))
      exact (st b o q (nU i b hi hb)).2
    have lp : (prune ρ).length = ρ.length := prune_len ρ
    refine ⟨fun b => (∃ i, i < e.length ∧ Fs i b) ∨ Ut' b, ⟨by rw [List.length_append, List.length_append, lp]; omega, fun b hb => ?_, fun i => if i < e.length then Fs i else Gs (i - e.length), fun i j b hi hj => ?_, fun i b hb => ?_, fun i β hβ => ?_⟩, fun b o q nb => ?_⟩
    · rcases hb with ⟨i, hi, z⟩ | z
      · obtain ⟨o, q⟩ := mut_some (mu b (sub i b z))
        have := mu b (sub i b z)
        rw [q] at this
        rw [keep i hi b o z q]
        exact this
      · exact mu' b z
    · have hi : (if i < e.length then Fs i else Gs (i - e.length)) b := hi
      have hj : (if j < e.length then Fs j else Gs (j - e.length)) b := hj
      by_cases ei : i < e.length
      · rw [if_pos ei] at hi
        by_cases ej : j < e.length
        · rw [if_pos ej] at hj; exact dj i j b hi hj
        · rw [if_neg ej] at hj; exact absurd (sub' _ b hj) (nUt' i ei b hi)
      · rw [if_neg ei] at hi
        by_cases ej : j < e.length
        · rw [if_pos ej] at hj; exact absurd (sub' _ b hi) (nUt' j ej b hj)
        · rw [if_neg ej] at hj; have := dj' _ _ b hi hj; omega
    · have hb : (if i < e.length then Fs i else Gs (i - e.length)) b := hb
      by_cases ei : i < e.length
      · rw [if_pos ei] at hb; exact .inl ⟨i, ei, hb⟩
      · rw [if_neg ei] at hb; exact .inr (sub' _ b hb)
    · rcases slot_of (τ := τ') (by rw [lp]; exact hl) hβ with ⟨hi, q⟩ | ⟨hi, q⟩
      · obtain ⟨q1, q2⟩ := prune_get q
        obtain ⟨v, ev, sv⟩ := sl i β (by rw [List.getElem?_append_left (by omega)]; exact q1)
        rw [List.getElem?_append_left hi] at ev
        refine ⟨v, by rw [List.getElem?_append_left hi]; exact ev, ?_⟩
        simp only [if_pos hi]
        cases β with
        | own d => exact Rep.frame sv (keep i hi) stay
        | ro d =>
          exact Vw.over sv (fun b o nb q => by
            have nt : ¬ ∃ j, e.length ≤ j ∧ Fs j b := fun ⟨j, _, z⟩ => nb (sub j b z)
            exact ⟨(st b o q nt).1, fun z => z.elim (fun ⟨j, _, z⟩ => nb (sub j b z)) (st b o q nt).2⟩) stay
        | ali r p =>
          obtain ⟨hr, vr, er, hp⟩ := sv
          rw [List.getElem?_append_left (by omega)] at er
          refine ⟨hr, vr, by rw [List.getElem?_append_left (by omega)]; exact er, ?_⟩
          have q2 : (if p = [] ∨ ((rootD ρ r).bind (getP · p)).isSome = true then some (B.ali r p) else none) = some (B.ali r p) := q2
          by_cases c : p = [] ∨ ((rootD ρ r).bind (getP · p)).isSome = true
          · rcases c with c | c
            · subst c
              cases hp
              exact .nil _
            · cases hd : rootD ρ r with
              | none => rw [hd] at c; cases c
              | some d =>
                rw [hd] at c
                have hro := rootD_of hd
                obtain ⟨v2, ev2, sv2⟩ := sl r _ (by rw [List.getElem?_append_left (by omega)]; exact hro)
                rw [List.getElem?_append_left (by omega), er] at ev2
                cases ev2
                obtain ⟨d1, g⟩ := Option.isSome_iff_exists.mp c
                have sv2 : Rep K H (Fs r) vr d := sv2
                exact sv2.pathStay (d1 := d1) g hp (keep r (by omega)) stay
          · rw [if_neg c] at q2; cases q2
      · obtain ⟨v, ev, sv⟩ := sl' _ β q
        refine ⟨v, by rw [List.getElem?_append_right hi]; exact ev, ?_⟩
        have nlt : ¬ i < e.length := by omega
        simp only [if_neg nlt]
        cases β with
        | own d => exact sv
        | ro d => rcases hτ' _ (List.mem_of_getElem? q) with z | ⟨_, z⟩ <;> cases z
        | ali r p => rcases hτ' _ (List.mem_of_getElem? q) with z | ⟨_, z⟩ <;> cases z
    · have nt : ¬ ∃ j, e.length ≤ j ∧ Fs j b := fun ⟨j, _, z⟩ => nb (sub j b z)
      exact ⟨(st b o q nt).1, fun z => z.elim (fun ⟨j, _, z⟩ => nb (sub j b z)) (st b o q nt).2⟩
theorem plainL_set {cs : List D} {n : Nat} {x : D} (hn : n < cs.length) (hx : plain x = false) : plainL (cs.set n x) = false := by
  cases q : plainL (cs.set n x) with
  | false => rfl
  | true =>
    have := plainL_get q (List.getElem?_set_self hn)
    rw [hx] at this; cases this
theorem plain_setP : ∀ {p : List Nat} {d d1 x : D}, getP d p = some d1 → plain x = false → plain (setP d p x) = false
  | [], d, d1, x, g, hx => by rw [setP]; exact hx
  | n :: p, .sc _, d1, x, g, hx => by rw [getP] at g; cases g
  | n :: p, .hl _, d1, x, g, hx => by rw [getP] at g; cases g
  | n :: p, .nd k cs, d1, x, g, hx => by
    rw [getP] at g
    by_cases hpl : imm k = true ∧ plainL cs = true
    · rw [if_pos hpl] at g; cases g
    rw [if_neg hpl] at g
    cases hc : cs[n]? with
    | none => rw [hc] at g; cases g
    | some c =>
      rw [hc] at g
      rw [setP, hc]
      cases k with
      | tup => exact plainL_set (List.getElem?_eq_some_iff.mp hc).1 (plain_setP g hx)
      | frl => exact plainL_set (List.getElem?_eq_some_iff.mp hc).1 (plain_setP g hx)
      | _ => rfl
theorem getP_setP : ∀ {p : List Nat} {d d1 x : D}, getP d p = some d1 → plain x = false → getP (setP d p x) p = some x
  | [], d, d1, x, g, hx => by rw [setP, getP]
  | n :: p, .sc _, d1, x, g, hx => by rw [getP] at g; cases g
  | n :: p, .hl _, d1, x, g, hx => by rw [getP] at g; cases g
  | n :: p, .nd k cs, d1, x, g, hx => by
    rw [getP] at g
    by_cases hpl : imm k = true ∧ plainL cs = true
    · rw [if_pos hpl] at g; cases g
    rw [if_neg hpl] at g
    cases hc : cs[n]? with
    | none => rw [hc] at g; cases g
    | some c =>
      rw [hc] at g
      have hn := (List.getElem?_eq_some_iff.mp hc).1
      rw [setP, hc]
      show getP (.nd k (cs.set n (setP c p x))) (n :: p) = some x
      rw [getP, if_neg, List.getElem?_set_self hn]
      · exact getP_setP g hx
      · rintro ⟨_, q⟩
        rw [plainL_set hn (plain_setP g hx)] at q
        cases q
theorem setP_setP : ∀ {p : List Nat} {d d1 x y : D}, getP d p = some d1 → setP (setP d p x) p y = setP d p y
  | [], d, d1, x, y, g => by simp only [setP]
  | n :: p, .sc _, d1, x, y, g => by rw [getP] at g; cases g
  | n :: p, .hl _, d1, x, y, g => by rw [getP] at g; cases g
  | n :: p, .nd k cs, d1, x, y, g => by
    rw [getP] at g
    by_cases hpl : imm k = true ∧ plainL cs = true
    · rw [if_pos hpl] at g; cases g
    rw [if_neg hpl] at g
    cases hc : cs[n]? with
    | none => rw [hc] at g; cases g
    | some c =>
      rw [hc] at g
      have hn := (List.getElem?_eq_some_iff.mp hc).1
      have e1 : setP (.nd k cs) (n :: p) x = .nd k (cs.set n (setP c p x)) := by rw [setP, hc]
      have e2 : setP (.nd k cs) (n :: p) y = .nd k (cs.set n (setP c p y)) := by rw [setP, hc]
      have e3 : setP (.nd k (cs.set n (setP c p x))) (n :: p) y = .nd k ((cs.set n (setP c p x)).set n (setP (setP c p x) p y)) := by rw [setP, List.getElem?_set_self hn]
      rw [e1, e2, e3, List.set_set, setP_setP g]
theorem SlotOk.slots {F : Addr → Prop} {e e' : List (Option V)} {v : V} {β : B} (h : SlotOk K H U F m e v β) (he : ∀ r, r < m → e'[r]? = e[r]?) : SlotOk K H U F m e' v β := by
  cases β with
  | own d => exact h
  | ro d => exact h
  | ali r p =>
    obtain ⟨hr, vr, er, hp⟩ := h
    exact ⟨hr, vr, (he r hr).trans er, hp⟩
theorem EnvOk.take {r : Nat} {d d1 : D} {vr u : V} {p : List Nat} (h : EnvOk K H U m e ρ) (hm : m ≤ e.length) (hr : ρ[r]? = some (some (.own d))) (er : e[r]? = some (some vr)) (hp : PathV H vr p u) (g : getP d p = some d1) :
    EnvOk K H U m (e ++ [some u]) (ρ.set r (some (.own (setP d p (.hl u)))) ++ [some (.own d1)]) := by
  obtain ⟨hlen, mu, Fs, dj, sub, sl⟩ := h
  have hrl : r < e.length := by
    rcases Nat.lt_or_ge r e.length with z | z
    · exact z
    · rw [List.getElem?_eq_none_iff.mpr z] at er; cases er
  obtain ⟨v, ev, sv⟩ := sl r _ hr
  rw [er] at ev; cases ev
  have sv : Rep K H (Fs r) vr d := sv
  obtain ⟨F1, m1, r1, put⟩ := sv.focus hp g
  have key := put H (fun _ => False) (.hl u) (fun b o _ _ z => z) (Stay.refl H) (.hl _ _) fun b z => z.elim
  have hsl : (ρ.set r (some (.own (setP d p (.hl u))))).length = ρ.length := List.length_set
  refine ⟨by rw [List.length_append, List.length_append, hsl, hlen]; rfl, mu, fun i b => if i = e.length then F1 b else if i = r then Fs r b ∧ ¬ F1 b else Fs i b ∧ i < e.length, fun i j b hi hj => ?_, fun i b hb => ?_, fun i β hβ => ?_⟩
  · have hi : if i = e.length then F1 b else if i = r then Fs r b ∧ ¬ F1 b else Fs i b ∧ i < e.length := hi
    have hj : if j = e.length then F1 b else if j = r then Fs r b ∧ ¬ F1 b else Fs j b ∧ j < e.length := hj
    have fi : ∀ k, (if k = e.length then F1 b else if k = r then Fs r b ∧ ¬ F1 b else Fs k b ∧ k < e.length) → (k = e.length ∧ F1 b) ∨ (k = r ∧ Fs r b ∧ ¬ F1 b) ∨ (k ≠ r ∧ k ≠ e.length ∧ Fs k b) := fun k hk => by
      by_cases c1 : k = e.length
      · rw [if_pos c1] at hk; exact .inl ⟨c1, hk⟩
      · rw [if_neg c1] at hk
        by_cases c2 : k = r
        · rw [if_pos c2] at hk; exact .inr (.inl ⟨c2, hk⟩)
        · rw [if_neg c2] at hk; exact .inr (.inr ⟨c2, c1, hk.1⟩)
    rcases fi i hi with ⟨a1, a2⟩ | ⟨a1, a2, a3⟩ | ⟨a1, a2, a3⟩ <;> rcases fi j hj with ⟨b1, b2⟩ | ⟨b1, b2, b3⟩ | ⟨b1, b2, b3⟩
    · omega
    · exact absurd a2 b3
    · exact absurd (dj j r b b3 (m1 b a2)) b1
    · exact absurd b2 a3
    · omega
    · exact absurd (dj j r b b3 a2) b1
    · exact absurd (dj i r b a3 (m1 b b2)) a1
    · exact absurd (dj i r b a3 b2) a1
    · exact dj i j b a3 b3
  · have hb : if i = e.length then F1 b else if i = r then Fs r b ∧ ¬ F1 b else Fs i b ∧ i < e.length := hb
    by_cases c1 : i = e.length
    · rw [if_pos c1] at hb; exact sub r b (m1 b hb)
    · rw [if_neg c1] at hb
      by_cases c2 : i = r
      · rw [if_pos c2] at hb; exact sub r b hb.1
      · rw [if_neg c2] at hb; exact sub i b hb.1
  · have hlA : ∀ r, r < m → (e ++ [some u])[r]? = e[r]? := fun r hr => List.getElem?_append_left (by omega)
    rcases slot_of (by rw [hsl]; exact hlen) hβ with ⟨hi, q⟩ | ⟨hi, q⟩
    · by_cases c : r = i
      · subst c
        rw [List.getElem?_set_self (by omega)] at q
        cases q
        refine ⟨vr, by rw [List.getElem?_append_left hi]; exact er, ?_⟩
        have n1 : ¬ r = e.length := by omega
        show Rep K H (fun b => if r = e.length then F1 b else if r = r then Fs r b ∧ ¬ F1 b else _) vr _
        simp only [if_neg n1, if_pos rfl]
        exact key.mono fun b z => z.elim (fun z => z) fun z => z.elim
      · rw [List.getElem?_set_ne c] at q
        obtain ⟨v, ev, sv⟩ := sl i β q
        refine ⟨v, by rw [List.getElem?_append_left hi]; exact ev, ?_⟩
        have n1 : ¬ i = e.length := by omega
        have n2 : ¬ i = r := fun z => c z.symm
        have sv := SlotOk.slots sv hlA
        cases β with
        | own dd =>
          show Rep K H (fun b => if i = e.length then F1 b else if i = r then Fs r b ∧ ¬ F1 b else Fs i b ∧ i < e.length) v dd
          simp only [if_neg n1, if_neg n2]
          exact Rep.mono sv fun b z => ⟨z, hi⟩
        | ro dd => exact sv
        | ali _ _ => exact sv
    · have : i - e.length = 0 := by
        have := (List.getElem?_eq_some_iff.mp q).1
        simp at this; omega
      rw [this] at q
      cases q
      have ei : i = e.length := by omega
      subst ei
      refine ⟨u, by rw [List.getElem?_append_right (Nat.le_refl _), Nat.sub_self]; rfl, ?_⟩
      show Rep K H (fun b => if e.length = e.length then F1 b else _) u d1
      simp only [if_pos rfl]
      exact r1
theorem EnvOk.put {r : Nat} {d0 d1 : D} {u : V} {p : List Nat} (h : EnvOk K H U m (e ++ [some u]) (ρ ++ [some (.own d1)])) (hl : e.length = ρ.length) (hm : m ≤ e.length) (hr : ρ[r]? = some (some (.own d0))) (g : getP d0 p = some (.hl u)) :
    EnvOk K H U m e (ρ.set r (some (.own (setP d0 p d1)))) := by
  obtain ⟨hlen, mu, Fs, dj, sub, sl⟩ := h
  have hrl : r < e.length := by rw [hl]; exact (List.getElem?_eq_some_iff.mp hr).1
  obtain ⟨vr, ev, sv⟩ := sl r _ (by rw [List.getElem?_append_left (by omega)]; exact hr)
  rw [List.getElem?_append_left hrl] at ev
  have sv : Rep K H (Fs r) vr d0 := sv
  obtain ⟨u', hp⟩ := sv.path g
  obtain ⟨F1, m1, r1, put⟩ := sv.focus hp g
  have := r1.hole
  subst this
  obtain ⟨u2, eu, su⟩ := sl e.length (.own d1) (by rw [hl, List.getElem?_append_right (Nat.le_refl _), Nat.sub_self]; rfl)
  rw [List.getElem?_append_right (Nat.le_refl _), Nat.sub_self] at eu
  have eu : some (some u') = some (some u2) := eu
  cases eu
  have su : Rep K H (Fs e.length) u' d1 := su
  have key := put H (Fs e.length) d1 (fun b o _ _ z => z) (Stay.refl H) su fun b z => .inr fun w => by have := dj _ _ b z w; omega
  refine ⟨by rw [List.length_set]; exact hl, mu, fun i b => if i = r then (Fs r b ∧ ¬ F1 b) ∨ Fs e.length b else Fs i b ∧ i < e.length, fun i j b hi hj => ?_, fun i b hb => ?_, fun i β hβ => ?_⟩
  · have hi : if i = r then (Fs r b ∧ ¬ F1 b) ∨ Fs e.length b else Fs i b ∧ i < e.length := hi
    have hj : if j = r then (Fs r b ∧ ¬ F1 b) ∨ Fs e.length b else Fs j b ∧ j < e.length := hj
    by_cases c1 : i = r
    · rw [if_pos c1] at hi
      by_cases c2 : j = r
      · omega
      · rw [if_neg c2] at hj
        rcases hi with hi | hi
        · exact absurd (dj j r b hj.1 hi.1) c2
        · have := dj j _ b hj.1 hi; omega
    · rw [if_neg c1] at hi
      by_cases c2 : j = r
      · rw [if_pos c2] at hj
        rcases hj with hj | hj
        · exact absurd (dj i r b hi.1 hj.1) c1
        · have := dj i _ b hi.1 hj; omega
      · rw [if_neg c2] at hj
        exact dj i j b hi.1 hj.1
  · have hb : if i = r then (Fs r b ∧ ¬ F1 b) ∨ Fs e.length b else Fs i b ∧ i < e.length := hb
    by_cases c1 : i = r
    · rw [if_pos c1] at hb
      rcases hb with hb | hb
      · exact sub r b hb.1
      · exact sub _ b hb
    · rw [if_neg c1] at hb
      exact sub i b hb.1
  · have hlA : ∀ r, r < m → e[r]? = (e ++ [some u'])[r]? := fun r hr => (List.getElem?_append_left (by omega)).symm
    by_cases c : r = i
    · subst c
      rw [List.getElem?_set_self (by omega)] at hβ
      cases hβ
      refine ⟨vr, ev, ?_⟩
      show Rep K H (fun b => if r = r then (Fs r b ∧ ¬ F1 b) ∨ Fs e.length b else _) vr _
      simp only [if_pos rfl]
      exact key
    · rw [List.getElem?_set_ne c] at hβ
      have hi : i < e.length := by rw [hl]; exact (List.getElem?_eq_some_iff.mp hβ).1
      obtain ⟨v, ev2, sv2⟩ := sl i β (by rw [List.getElem?_append_left (by omega)]; exact hβ)
      rw [List.getElem?_append_left hi] at ev2
      refine ⟨v, ev2, ?_⟩
      have n2 : ¬ i = r := fun z => c z.symm
      have sv2 := SlotOk.slots sv2 hlA
      cases β with
      | own dd =>
        show Rep K H (fun b => if i = r then (Fs r b ∧ ¬ F1 b) ∨ Fs e.length b else Fs i b ∧ i < e.length) v dd
        simp only [if_neg n2]
        exact Rep.mono sv2 fun b z => ⟨z, hi⟩
      | ro dd => exact sv2
      | ali _ _ => exact sv2
end
end VL
namespace VL
open PySem L2
noncomputable abbrev T1 : Addr → Prop := fun _ => True
noncomputable def Own (K : W.Frag) (H H' : Hp) (v : V) (d : D) : Prop := ∃ G : Addr → Prop, Rep K H' G v d ∧ ∀ b, G b → H b = none ∧ Mut (H' b)
section
variable {K : W.Frag} {H H' H1 H2 : Hp} {U U' N : Addr → Prop} {m : Nat} {e t t' : List (Option V)} {ρ τ τ' : En} {v : V} {d : D}
theorem Own.sc (v : V) : Own K H H' v (.sc v) := ⟨fun _ => False, .sc _ _, fun _ z => z.elim⟩
theorem Own.plain (h : Vw K H' N v d) (p : VL.plain d = true) : Own K H H' v d := ⟨_, h.plain p, fun _ z => z.elim⟩
theorem Own.vw (h : Own K H H' v d) : Vw K H' T1 v d := let ⟨_, r, _⟩ := h; r.vw
theorem Own.early (h : Own K H1 H2 v d) (s : Same H H1) : Own K H H2 v d := by
  obtain ⟨G, r, f⟩ := h
  refine ⟨G, r, fun b z => ⟨?_, (f b z).2⟩⟩
  cases q : H b with
  | none => rfl
  | some o => have := (f b z).1; rw [s b o q] at this; cases this
theorem PathV.same {u : V} {p : List Nat} (h : PathV H v p u) (s : Same H H') : PathV H' v p u := by
  induction h with
  | nil => exact .nil _
  | cons e1 e2 _ ih => exact .cons (s _ _ e1) e2 ih
theorem mut_same {b : Addr} (h : Mut (H b)) (s : Same H H') : Mut (H' b) := by
  obtain ⟨o, w⟩ := mut_some h
  rw [w] at h
  rw [s b o w]
  exact h
theorem EnvOk.same (h : EnvOk K H U m e ρ) (s : Same H H') : EnvOk K H' U m e ρ := by
  obtain ⟨hl, mu, Fs, dj, sub, sl⟩ := h
  refine ⟨hl, fun b z => mut_same (mu b z) s, Fs, dj, sub, fun i β hβ => ?_⟩
  obtain ⟨v, ev, sv⟩ := sl i β hβ
  refine ⟨v, ev, ?_⟩
  cases β with
  | own d => exact Rep.same sv s
  | ro d => exact Vw.same sv s
  | ali r p => obtain ⟨a, vr, b, c⟩ := sv; exact ⟨a, vr, b, c.same s⟩
theorem EnvOk.push (h : EnvOk K H U m e ρ) (s : Same H H') (hm : m ≤ e.length) (ow : Own K H H' v d) : ∃ U' : Addr → Prop, EnvOk K H' U' m (e ++ [some v]) (ρ ++ [some (.own d)]) ∧ Stp U H U' H' := by
  obtain ⟨hl, mu, Fs, dj, sub, sl⟩ := h.same s
  obtain ⟨G, r, fr⟩ := ow
  have nG : ∀ b, G b → ¬ U b := fun b z u => by
    obtain ⟨o, w⟩ := mut_some (h.mu b u)
    rw [(fr b z).1] at w; cases w
  refine ⟨fun b => U b ∨ G b, ⟨by rw [List.length_append, List.length_append, hl]; rfl, fun b z => z.elim (mu b) fun z => (fr b z).2, fun i b => if i = e.length then G b else Fs i b, fun i j b hi hj => ?_, fun i b hb => ?_, fun i β hβ => ?_⟩, fun b o q nu => ⟨s b o q, fun z => z.elim nu fun z => by rw [(fr b z).1] at q; cases q⟩⟩
  · have hi : if i = e.length then G b else Fs i b := hi
    have hj : if j = e.length then G b else Fs j b := hj
    by_cases ci : i = e.length
    · rw [if_pos ci] at hi
      by_cases cj : j = e.length
      · omega
      · rw [if_neg cj] at hj; exact absurd (sub j b hj) (nG b hi)
    · rw [if_neg ci] at hi
      by_cases cj : j = e.length
      · rw [if_pos cj] at hj; exact absurd (sub i b hi) (nG b hj)
      · rw [if_neg cj] at hj; exact dj i j b hi hj
  · have hb : if i = e.length then G b else Fs i b := hb
    by_cases ci : i = e.length
    · rw [if_pos ci] at hb; exact .inr hb
    · rw [if_neg ci] at hb; exact .inl (sub i b hb)
  · rcases slot_of hl hβ with ⟨hi, q⟩ | ⟨hi, q⟩
    · obtain ⟨v', ev, sv⟩ := sl i β q
      refine ⟨v', by rw [List.getElem?_append_left hi]; exact ev, ?_⟩
      have ni : ¬ i = e.length := by omega
      have sv := SlotOk.slots sv (e' := e ++ [some v]) fun r hr => List.getElem?_append_left (by omega)
      cases β with
      | own dd =>
        show Rep K H' (fun b => if i = e.length then G b else Fs i b) v' dd
        simp only [if_neg ni]
        exact sv
      | ro dd =>
        obtain ⟨v2, ev2, sv0⟩ := h.ex.choose_spec.2.2 i _ q
        rw [ev] at ev2; cases ev2
        have sv0 : Vw K H (fun b => ¬ U b) v' dd := sv0
        exact sv0.over (fun b o nb q => ⟨s b o q, fun z => z.elim nb fun z => by rw [(fr b z).1] at q; cases q⟩) (Stay.of s)
      | ali _ _ => exact sv
    · have : i - e.length = 0 := by
        have := (List.getElem?_eq_some_iff.mp q).1
        simp at this; omega
      rw [this] at q
      cases q
      have ei : i = e.length := by omega
      subst ei
      refine ⟨v, by rw [List.getElem?_append_right (Nat.le_refl _), Nat.sub_self]; rfl, ?_⟩
      show Rep K H' (fun b => if e.length = e.length then G b else _) v d
      simp only [if_pos rfl]
      exact r
theorem EnvOk.drop (h : EnvOk K H U m (e ++ t) (ρ ++ τ)) (hl : e.length = ρ.length) (hm : m ≤ e.length) : EnvOk K H U m e ρ := by
  obtain ⟨_, mu, Fs, dj, sub, sl⟩ := h
  refine ⟨hl, mu, Fs, dj, sub, fun i β hβ => ?_⟩
  have hi : i < ρ.length := (List.getElem?_eq_some_iff.mp hβ).1
  obtain ⟨v, ev, sv⟩ := sl i β (by rw [List.getElem?_append_left hi]; exact hβ)
  rw [List.getElem?_append_left (by omega)] at ev
  exact ⟨v, ev, SlotOk.slots sv fun r hr => (List.getElem?_append_left (by omega)).symm⟩
noncomputable def unroot (i : Nat) (ρ : En) : En := ρ.map fun
  | some (.ali r p) => if r = i then none else some (.ali r p)
  | b => b
theorem unroot_len (i : Nat) (ρ : En) : (unroot i ρ).length = ρ.length := by unfold unroot; rw [List.length_map]
theorem unroot_get {i j : Nat} {β : B} (h : (unroot i ρ)[j]? = some (some β)) : ρ[j]? = some (some β) ∧ ∀ r p, β = .ali r p → r ≠ i := by
  unfold unroot at h
  rw [List.getElem?_map] at h
  cases q : ρ[j]? with
  | none => rw [q] at h; cases h
  | some o =>
    rw [q] at h
    cases o with
    | none => cases h
    | some c =>
      cases c with
      | own d => cases h; exact ⟨rfl, fun _ _ z => nomatch z⟩
      | ro d => cases h; exact ⟨rfl, fun _ _ z => nomatch z⟩
      | ali r p =>
        have h : some (if r = i then none else some (B.ali r p)) = some (some β) := h
        by_cases c : r = i
        · rw [if_pos c] at h; cases h
        · rw [if_neg c] at h; cases h; exact ⟨rfl, fun r' p' z => by cases z; exact c⟩
theorem EnvOk.set {i : Nat} (h : EnvOk K H U m (e ++ [some v]) (ρ ++ [some (.own d)])) (hl : e.length = ρ.length) (hm : m ≤ e.length) (hi : i < e.length) : EnvOk K H U m (e.set i (some v)) ((unroot i ρ).set i (some (.own d))) := by
  obtain ⟨_, mu, Fs, dj, sub, sl⟩ := h
  obtain ⟨v', ev, sv⟩ := sl e.length (.own d) (by rw [hl, List.getElem?_append_right (Nat.le_refl _), Nat.sub_self]; rfl)
  rw [List.getElem?_append_right (Nat.le_refl _), Nat.sub_self] at ev
  cases ev
  have sv : Rep K H (Fs e.length) v d := sv
  refine ⟨by rw [List.length_set, List.length_set, unroot_len]; exact hl, mu, fun j b => if j = i then Fs e.length b else Fs j b ∧ j < e.length, fun j k b hj hk => ?_, fun j b hb => ?_, fun j β hβ => ?_⟩
  · have hj : if j = i then Fs e.length b else Fs j b ∧ j < e.length := hj
    have hk : if k = i then Fs e.length b else Fs k b ∧ k < e.length := hk
    by_cases cj : j = i
    · rw [if_pos cj] at hj
      by_cases ck : k = i
      · omega
      · rw [if_neg ck] at hk; have := dj _ _ b hj hk.1; omega
    · rw [if_neg cj] at hj
      by_cases ck : k = i
      · rw [if_pos ck] at hk; have := dj _ _ b hj.1 hk; omega
      · rw [if_neg ck] at hk; exact dj _ _ b hj.1 hk.1
  · have hb : if j = i then Fs e.length b else Fs j b ∧ j < e.length := hb
    by_cases cj : j = i
    · rw [if_pos cj] at hb; exact sub _ b hb
    · rw [if_neg cj] at hb; exact sub _ b hb.1
  · by_cases cj : i = j
    · subst cj
      rw [List.getElem?_set_self (by rw [unroot_len]; omega)] at hβ
      cases hβ
      refine ⟨v, List.getElem?_set_self hi, ?_⟩
      show Rep K H (fun b => if i = i then Fs e.length b else _) v d
      simp only [if_pos rfl]
      exact sv
    · rw [List.getElem?_set_ne cj] at hβ
      obtain ⟨q1, q2⟩ := unroot_get hβ
      have hj : j < e.length := by rw [hl]; exact (List.getElem?_eq_some_iff.mp q1).1
      obtain ⟨v2, ev2, sv2⟩ := sl j β (by rw [List.getElem?_append_left (by omega)]; exact q1)
      rw [List.getElem?_append_left hj] at ev2
      refine ⟨v2, by rw [List.getElem?_set_ne cj]; exact ev2, ?_⟩
      have nj : ¬ j = i := fun z => cj z.symm
      cases β with
      | own dd =>
        show Rep K H (fun b => if j = i then Fs e.length b else Fs j b ∧ j < e.length) v2 dd
        simp only [if_neg nj]
        exact Rep.mono sv2 fun b z => ⟨z, hj⟩
      | ro dd => exact sv2
      | ali r p =>
        obtain ⟨a, vr, b, c⟩ := sv2
        rw [List.getElem?_append_left (by omega)] at b
        exact ⟨a, vr, by rw [List.getElem?_set_ne fun z => q2 r p rfl z.symm]; exact b, c⟩
theorem EnvOk.bind {i : Nat} {β : B} (h : EnvOk K H U m e ρ) (hi : i < e.length) (hb : match β with | .own _ => False | .ro d => Vw K H (fun b => ¬ U b) v d | .ali r p => r < m ∧ r ≠ i ∧ ∃ vr, e[r]? = some (some vr) ∧ PathV H vr p v) :
    EnvOk K H U m (e.set i (some v)) ((unroot i ρ).set i (some β)) := by
  obtain ⟨hl, mu, Fs, dj, sub, sl⟩ := h
  refine ⟨by rw [List.length_set, List.length_set, unroot_len]; exact hl, mu, Fs, dj, sub, fun j γ hγ => ?_⟩
  by_cases cj : i = j
  · subst cj
    rw [List.getElem?_set_self (by rw [unroot_len]; omega)] at hγ
    cases hγ
    refine ⟨v, List.getElem?_set_self hi, ?_⟩
    cases β with
    | own d => exact hb.elim
    | ro d => exact hb
    | ali r p =>
      obtain ⟨a, b, vr, c, q⟩ := hb
      exact ⟨a, vr, by rw [List.getElem?_set_ne fun z => b z.symm]; exact c, q⟩
  · rw [List.getElem?_set_ne cj] at hγ
    obtain ⟨q1, q2⟩ := unroot_get hγ
    obtain ⟨v2, ev2, sv2⟩ := sl j γ q1
    refine ⟨v2, by rw [List.getElem?_set_ne cj]; exact ev2, ?_⟩
    cases γ with
    | own dd => exact sv2
    | ro dd => exact sv2
    | ali r p =>
      obtain ⟨a, vr, b, c⟩ := sv2
      exact ⟨a, vr, by rw [List.getElem?_set_ne fun z => q2 r p rfl z.symm]; exact b, c⟩
end
structure Sit (K : W.Frag) (n : Nat) (H : Hp) (U : Addr → Prop) (σ hv : List (Option V)) (ρ : En) (τv : List V) (τd : List D) : Prop where
  ok : EnvOk K H U ρ.length (σ ++ hv ++ τv.map some) (ρ ++ τd.map fun d => some (.own d))
  len : σ.length + hv.length = ρ.length
  nn : σ.length = n
inductive Fl where
  | nx (ρ : En) | rt (d : D) (ρ : En) | bk (ρ : En) | ct (ρ : En)
noncomputable def EndOk (K : W.Frag) (n : Nat) (H : Hp) (U : Addr → Prop) (hv : List (Option V)) (τv : List V) (τd : List D) (E : Ends) : Fl → Prop
  | .nx ρ' => ∀ σ' H' U', Sit K n H' U' σ' hv ρ' τv τd → Stp U H U' H' → E.nx σ' H'
  | .rt d ρ' => ∀ v σ' H' U', Sit K n H' U' σ' hv ρ' (τv ++ [v]) (τd ++ [d]) → Stp U H U' H' → E.rt v H'
  | .bk ρ' => ∀ σ' H' U', Sit K n H' U' σ' hv ρ' τv τd → Stp U H U' H' → E.bk σ' H'
  | .ct ρ' => ∀ σ' H' U', Sit K n H' U' σ' hv ρ' τv τd → Stp U H U' H' → E.ct σ' H'
class SV (K : W.Frag) (n : Nat) (t : TE) (f : outParam (En → Option D)) : Prop where
  s : ∀ {σ hv : List (Option V)} {H : Hp} {U : Addr → Prop} {ρ : En} {τv : List V} {τd : List D} {d : D} {Q : VK}, Sit K n H U σ hv ρ τv τd → f ρ = some d → (∀ v H', Same H H' → Vw K H' T1 v d → Q v H') → t σ H Q
class SF (K : W.Frag) (n : Nat) (t : TE) (f : outParam (En → Option D)) : Prop where
  s : ∀ {σ hv : List (Option V)} {H : Hp} {U : Addr → Prop} {ρ : En} {τv : List V} {τd : List D} {d : D} {Q : VK}, Sit K n H U σ hv ρ τv τd → f ρ = some d → (∀ v H', Same H H' → Own K H H' v d → Q v H') → t σ H Q
class SM (K : W.Frag) (n : Nat) (t : TE) (f : outParam (En → Option (D × En))) : Prop where
  s : ∀ {σ hv : List (Option V)} {H : Hp} {U : Addr → Prop} {ρ ρ' : En} {τv : List V} {τd : List D} {d : D} {Q : VK}, Sit K n H U σ hv ρ τv τd → f ρ = some (d, ρ') →
    (∀ v H' U', Sit K n H' U' σ hv ρ' (τv ++ [v]) (τd ++ [d]) → Stp U H U' H' → Q v H') → t σ H Q
inductive Pl where
  | rt (r : Nat) (p : List Nat) | ro (d : D)
noncomputable def PlOk (K : W.Frag) (H : Hp) (U : Addr → Prop) (e : List (Option V)) (ρ : En) (v : V) : Pl → Prop
  | .rt r p => r < ρ.length ∧ ∃ vr d, e[r]? = some (some vr) ∧ rootD ρ r = some d ∧ (getP d p).isSome = true ∧ PathV H vr p v
  | .ro d => Vw K H (fun b => ¬ U b) v d
class SP (K : W.Frag) (n : Nat) (t : TE) (f : outParam (En → Option Pl)) : Prop where
  s : ∀ {σ hv : List (Option V)} {H : Hp} {U : Addr → Prop} {ρ : En} {τv : List V} {τd : List D} {q : Pl} {Q : VK}, Sit K n H U σ hv ρ τv τd → f ρ = some q → (∀ v H', Same H H' → PlOk K H' U (σ ++ hv) ρ v q → Q v H') → t σ H Q
class SVT (K : W.Frag) (n : Nat) (t : TT) (f : outParam (En → Option Bool)) : Prop where
  s : ∀ {σ hv : List (Option V)} {H : Hp} {U : Addr → Prop} {ρ : En} {τv : List V} {τd : List D} {b : Bool} {Q : Bool → Hp → Prop}, Sit K n H U σ hv ρ τv τd → f ρ = some b → (∀ H', Same H H' → Q b H') → t σ H Q
class ST (K : W.Frag) (n : Nat) (t : TT) (f : outParam (En → Option (Bool × En))) : Prop where
  s : ∀ {σ hv : List (Option V)} {H : Hp} {U : Addr → Prop} {ρ ρ' : En} {τv : List V} {τd : List D} {b : Bool} {Q : Bool → Hp → Prop}, Sit K n H U σ hv ρ τv τd → f ρ = some (b, ρ') →
    (∀ H' U', Sit K n H' U' σ hv ρ' τv τd → Stp U H U' H' → Q b H') → t σ H Q
noncomputable def VwL (K : W.Frag) (H : Hp) (N : Addr → Prop) (vs : List V) (ds : List D) : Prop := vs.length = ds.length ∧ ∀ (i : Nat) (v : V) (d : D), vs[i]? = some v → ds[i]? = some d → Vw K H N v d
class SA (K : W.Frag) (n : Nat) (t : TA) (f : outParam (En → Option (List D))) : Prop where
  s : ∀ {σ hv : List (Option V)} {H : Hp} {U : Addr → Prop} {ρ : En} {τv : List V} {τd : List D} {ds : List D} {Q : List V → Hp → Prop}, Sit K n H U σ hv ρ τv τd → f ρ = some ds → (∀ vs H', Same H H' → VwL K H' T1 vs ds → Q vs H') → t σ H Q
class SMA (K : W.Frag) (n : Nat) (t : TA) (f : outParam (En → Option (List D × En))) : Prop where
  s : ∀ {σ hv : List (Option V)} {H : Hp} {U : Addr → Prop} {ρ ρ' : En} {τv : List V} {τd : List D} {ds : List D} {Q : List V → Hp → Prop}, Sit K n H U σ hv ρ τv τd → f ρ = some (ds, ρ') →
    (∀ vs H' U', vs.length = ds.length → Sit K n H' U' σ hv ρ' (τv ++ vs) (τd ++ ds) → Stp U H U' H' → Q vs H') → t σ H Q
class SS (K : W.Frag) (n : Nat) (t : TS) (f : outParam (En → Option Fl)) : Prop where
  s : ∀ {σ hv : List (Option V)} {H : Hp} {U : Addr → Prop} {ρ : En} {τv : List V} {τd : List D} {fl : Fl} {E : Ends}, Sit K n H U σ hv ρ τv τd → f ρ = some fl → EndOk K n H U hv τv τd E fl → t E σ H
section
variable {K : W.Frag} {n : Nat} {H H' : Hp} {U U' : Addr → Prop} {σ hv : List (Option V)} {ρ ρ' : En} {τv vs : List V} {τd ds : List D} {v : V} {d : D}
theorem Sit.same (h : Sit K n H U σ hv ρ τv τd) (s : Same H H') : Sit K n H' U σ hv ρ τv τd := ⟨h.ok.same s, h.len, h.nn⟩
theorem Sit.push (h : Sit K n H U σ hv ρ τv τd) (s : Same H H') (o : Own K H H' v d) : ∃ U', Sit K n H' U' σ hv ρ (τv ++ [v]) (τd ++ [d]) ∧ Stp U H U' H' := by
  obtain ⟨U', k, st⟩ := h.ok.push s (by have := h.len; simp; omega) o
  refine ⟨U', ⟨?_, h.len, h.nn⟩, st⟩
  rw [List.map_append, List.map_append, ← List.append_assoc, ← List.append_assoc]
  exact k
theorem Sit.drop (h : Sit K n H U σ hv ρ (τv ++ vs) (τd ++ ds)) (hl : vs.length = ds.length) : Sit K n H U σ hv ρ τv τd := by
  refine ⟨?_, h.len, h.nn⟩
  have k := h.ok
  have e := k.len
  have l := h.len
  rw [List.map_append, List.map_append, ← List.append_assoc, ← List.append_assoc] at k
  refine k.drop ?_ (by simp; omega)
  simp at e ⊢
  omega
theorem Sit.drop1 (h : Sit K n H U σ hv ρ (τv ++ [v]) (τd ++ [d])) : Sit K n H U σ hv ρ τv τd := h.drop (vs := [v]) (ds := [d]) rfl
theorem Sit.tl (h : Sit K n H U σ hv ρ τv τd) : τv.length = τd.length := by
  have e := h.ok.len
  have l := h.len
  simp at e
  omega
theorem Sit.last (h : Sit K n H U σ hv ρ (τv ++ [v]) (τd ++ [d])) : Vw K H T1 v d := by
  have tl := h.tl
  have l := h.len
  obtain ⟨_, mu, Fs, dj, sub, sl⟩ := h.ok
  obtain ⟨v', ev, sv⟩ := sl (ρ.length + τd.length) (.own d) (by simp)
  have : v' = v := by
    have e2 : (σ ++ hv ++ (τv ++ [v]).map some)[ρ.length + τd.length]? = some (some v) := by
      rw [List.getElem?_append_right (by simp; omega)]
      simp at tl ⊢
      rw [show ρ.length + τd.length - (σ.length + hv.length) = τv.length by omega]
      simp
    rw [e2] at ev
    cases ev; rfl
  subst this
  exact Rep.vw sv
end
end VL
namespace VL
open PySem L2
class LtN (i n : Nat) : Prop where
  h : i < n
instance {n : Nat} : LtN 0 (n + 1) := ⟨Nat.succ_pos n⟩
instance {i n : Nat} [h : LtN i n] : LtN (i + 1) (n + 1) := ⟨Nat.succ_lt_succ h.h⟩
section
variable {K : W.Frag} {n : Nat} {H H' : Hp} {U U' : Addr → Prop} {σ hv : List (Option V)} {ρ ρ' : En} {τv vs : List V} {τd ds : List D} {v : V} {d : D}
instance (priority := 100) sv_of_sf {t : TE} {f : En → Option D} [S : SF K n t f] : SV K n t f := ⟨fun I h k => S.s I h fun v H' s o => k v H' s o.vw⟩
instance (priority := 200) sm_of_sf {t : TE} {f : En → Option D} [S : SF K n t f] : SM K n t (fun ρ => (f ρ).map fun d => (d, ρ)) := ⟨fun {σ hv H U ρ ρ' τv τd d Q} I h k => by
  obtain ⟨d', h1, h2⟩ := Option.map_eq_some_iff.mp h
  cases h2
  refine S.s I h1 fun v H' s o => ?_
  obtain ⟨U', I', st⟩ := I.push s o
  exact k v H' U' I' st⟩
noncomputable def plainM (f : En → Option D) (ρ : En) : Option (D × En) := (f ρ).bind fun d => if plain d = true then some (d, ρ) else none
instance (priority := 90) sm_of_sv {t : TE} {f : En → Option D} [S : SV K n t f] : SM K n t (plainM f) := ⟨fun {σ hv H U ρ ρ' τv τd d Q} I h k => by
  obtain ⟨d', h1, h2⟩ := Option.bind_eq_some_iff.mp h
  by_cases p : plain d' = true
  · rw [if_pos p] at h2
    cases h2
    refine S.s I h1 fun v H' s w => ?_
    obtain ⟨U', I', st⟩ := I.push s (Own.plain w p)
    exact k v H' U' I' st
  · rw [if_neg p] at h2; cases h2⟩
instance (priority := 100) st_of_svt {t : TT} {f : En → Option Bool} [S : SVT K n t f] : ST K n t (fun ρ => (f ρ).map fun b => (b, ρ)) := ⟨fun {σ hv H U ρ ρ' τv τd b Q} I h k => by
  obtain ⟨b', h1, h2⟩ := Option.map_eq_some_iff.mp h
  cases h2
  refine S.s I h1 fun H' s => k H' U (I.same s) fun b o q nu => ⟨s b o q, nu⟩⟩
noncomputable def bD (ρ : En) : Option B → Option D
  | some (.own d) => some d
  | some (.ro d) => some d
  | some (.ali r p) => (rootD ρ r).bind (getP · p)
  | none => none
noncomputable def dVar (i : Nat) (ρ : En) : Option D := (ρ[i]?).bind (bD ρ)
theorem Sit.slot {i : Nat} {β : B} (I : Sit K n H U σ hv ρ τv τd) (h : ρ[i]? = some (some β)) : ∃ v F, (σ ++ hv)[i]? = some (some v) ∧ (∀ b, F b → U b) ∧ SlotOk K H U F ρ.length (σ ++ hv) v β := by
  have l := I.len
  have hi : i < ρ.length := (List.getElem?_eq_some_iff.mp h).1
  obtain ⟨_, mu, Fs, dj, sub, sl⟩ := I.ok
  obtain ⟨v, ev, sv⟩ := sl i β (by rw [List.getElem?_append_left hi]; exact h)
  rw [List.getElem?_append_left (by simp; omega)] at ev
  exact ⟨v, Fs i, ev, sub i, SlotOk.slots sv fun r hr => (List.getElem?_append_left (by simp; omega)).symm⟩
theorem Sit.name {i : Nat} (I : Sit K n H U σ hv ρ τv τd) (hi : i < n) : (σ ++ hv)[i]? = σ[i]? := List.getElem?_append_left (by rw [I.nn]; exact hi)
theorem Sit.rootV {r : Nat} (I : Sit K n H U σ hv ρ τv τd) (h : rootD ρ r = some d) : ∃ v F, (σ ++ hv)[r]? = some (some v) ∧ (∀ b, F b → U b) ∧ Rep K H F v d := by
  obtain ⟨v, F, a, b, c⟩ := I.slot (rootD_of h)
  exact ⟨v, F, a, b, c⟩
noncomputable def plD (ρ : En) : Pl → Option D
  | .rt r p => (rootD ρ r).bind (getP · p)
  | .ro d => some d
theorem Sit.at {q : Pl} (I : Sit K n H U σ hv ρ τv τd) (h : PlOk K H U (σ ++ hv) ρ v q) (hd : plD ρ q = some d) : Vw K H T1 v d := by
  cases q with
  | ro d' => cases hd; exact h.any
  | rt r p =>
    obtain ⟨_, vr, d0, er, hr, _, hp⟩ := h
    have hd : (rootD ρ r).bind (getP · p) = some d := hd
    rw [hr] at hd
    obtain ⟨v', F, ev, _, rp⟩ := I.rootV hr
    rw [er] at ev; cases ev
    exact rp.sub hd hp fun _ _ => trivial
instance sv_var {i : Nat} [L : LtN i n] : SV K n (tVar i) (dVar i) := ⟨fun {σ hv H U ρ τv τd d Q} I h k => by
  obtain ⟨o, h1, h2⟩ := Option.bind_eq_some_iff.mp h
  cases o with
  | none => cases h2
  | some β =>
    obtain ⟨v, F, ev, sub, sv⟩ := I.slot h1
    rw [I.name L.h] at ev
    refine ⟨v, ev, k v H (Same.refl H) ?_⟩
    cases β with
    | own d' => cases h2; exact Rep.vw sv
    | ro d' => cases h2; exact Vw.any sv
    | ali r p =>
      obtain ⟨d0, hr, g⟩ := Option.bind_eq_some_iff.mp h2
      obtain ⟨_, vr, er, hp⟩ := sv
      obtain ⟨v', F', ev', _, rp⟩ := I.rootV hr
      rw [er] at ev'; cases ev'
      exact rp.sub g hp fun _ _ => trivial⟩
noncomputable def plVar (i : Nat) (ρ : En) : Option Pl := match ρ[i]? with
  | some (some (.own _)) => some (.rt i [])
  | some (some (.ro d)) => some (.ro d)
  | some (some (.ali r p)) => if ((rootD ρ r).bind (getP · p)).isSome = true then some (.rt r p) else none
  | _ => none
instance sp_var {i : Nat} [L : LtN i n] : SP K n (tVar i) (plVar i) := ⟨fun {σ hv H U ρ τv τd q Q} I h k => by
  unfold plVar at h
  split at h
  · next d e1 =>
    cases h
    obtain ⟨v, F, ev, sub, sv⟩ := I.slot e1
    have ev' := ev
    rw [I.name L.h] at ev
    have hr : rootD ρ i = some d := by unfold rootD; rw [e1]
    exact ⟨v, ev, k v H (Same.refl H) ⟨(List.getElem?_eq_some_iff.mp e1).1, v, d, ev', hr, rfl, .nil v⟩⟩
  · next d e1 =>
    cases h
    obtain ⟨v, F, ev, sub, sv⟩ := I.slot e1
    rw [I.name L.h] at ev
    exact ⟨v, ev, k v H (Same.refl H) sv⟩
  · next r p e1 =>
    by_cases c : ((rootD ρ r).bind (getP · p)).isSome = true
    · rw [if_pos c] at h
      cases h
      obtain ⟨v, F, ev, sub, sv⟩ := I.slot e1
      rw [I.name L.h] at ev
      obtain ⟨hr, vr, er, hp⟩ := sv
      cases hd : rootD ρ r with
      | none => rw [hd] at c; cases c
      | some d0 =>
        rw [hd] at c
        exact ⟨v, ev, k v H (Same.refl H) ⟨hr, vr, d0, er, hd, c, hp⟩⟩
    · rw [if_neg c] at h; cases h
  · cases h⟩
instance sf_c {v : V} : SF K n (tC v) (fun _ => some (.sc v)) := ⟨fun I h k => by cases h; exact k v _ (Same.refl _) (.sc v)⟩
class OpD (K : W.Frag) (r : R2) (g : outParam (D → D → Option D)) : Prop where
  s : ∀ {H : Hp} {x y : V} {dx dy d : D} {Q : VK}, Vw K H T1 x dx → Vw K H T1 y dy → g dx dy = some d → (∀ v H', Same H H' → Own K H H' v d → Q v H') → r x y H Q
noncomputable def op2 (g : D → D → Option D) (fa fb : En → Option D) (ρ : En) : Option D := (fa ρ).bind fun a => (fb ρ).bind fun b => g a b
instance sf_op {r : R2} {ta tb : TE} {fa fb : En → Option D} {g : D → D → Option D} [A : SV K n ta fa] [B' : SV K n tb fb] [O : OpD K r g] : SF K n (tOp r ta tb) (op2 g fa fb) := ⟨fun {σ hv H U ρ τv τd d Q} I h k => by
  obtain ⟨a, ha, h⟩ := Option.bind_eq_some_iff.mp h
  obtain ⟨b, hb, h⟩ := Option.bind_eq_some_iff.mp h
  refine A.s I ha fun x H1 s1 w1 => ?_
  refine B'.s (I.same s1) hb fun y H2 s2 w2 => ?_
  exact O.s (w1.same s2) w2 h fun v H3 s3 o => k v H3 (s1.trans (s2.trans s3)) (o.early (s1.trans s2))⟩
noncomputable def op2M (g : D → D → Option D) (fa fb : En → Option (D × En)) (ρ : En) : Option (D × En) := (fa ρ).bind fun a => (fb a.2).bind fun b => (g a.1 b.1).map fun d => (d, b.2)
theorem Sit.two {v1 v2 : V} {d1 d2 : D} (I : Sit K n H U σ hv ρ (τv ++ [v1] ++ [v2]) (τd ++ [d1] ++ [d2])) : Vw K H T1 v1 d1 ∧ Vw K H T1 v2 d2 := ⟨I.drop1.last, I.last⟩
instance (priority := 80) sm_op {r : R2} {ta tb : TE} {fa fb : En → Option (D × En)} {g : D → D → Option D} [A : SM K n ta fa] [B' : SM K n tb fb] [O : OpD K r g] : SM K n (tOp r ta tb) (op2M g fa fb) := ⟨fun {σ hv H U ρ ρ' τv τd d Q} I h k => by
  obtain ⟨⟨a, ρ1⟩, ha, h⟩ := Option.bind_eq_some_iff.mp h
  obtain ⟨⟨b, ρ2⟩, hb, h⟩ := Option.bind_eq_some_iff.mp h
  obtain ⟨d', hg, h⟩ := Option.map_eq_some_iff.mp h
  cases h
  refine A.s I ha fun x H1 U1 I1 st1 => ?_
  refine B'.s I1 hb fun y H2 U2 I2 st2 => ?_
  refine O.s I2.two.1 I2.two.2 hg fun v H3 s3 o => ?_
  obtain ⟨U3, I3, st3⟩ := (I2.drop1.drop1).push s3 o
  exact k v H3 U3 I3 (st1.trans (st2.trans st3))⟩
class UnD (K : W.Frag) (r : V → Hp → VK → Prop) (g : outParam (D → Option D)) : Prop where
  s : ∀ {H : Hp} {x : V} {dx d : D} {Q : VK}, Vw K H T1 x dx → g dx = some d → (∀ v H', Same H H' → Own K H H' v d → Q v H') → r x H Q
instance sf_un {r : V → Hp → VK → Prop} {ta : TE} {fa : En → Option D} {g : D → Option D} [A : SV K n ta fa] [O : UnD K r g] : SF K n (tUn r ta) (fun ρ => (fa ρ).bind g) := ⟨fun {σ hv H U ρ τv τd d Q} I h k => by
  obtain ⟨a, ha, h⟩ := Option.bind_eq_some_iff.mp h
  refine A.s I ha fun x H1 s1 w1 => ?_
  exact O.s w1 h fun v H3 s3 o => k v H3 (s1.trans s3) (o.early s1)⟩
instance sa_nil : SA K n tNil (fun _ => some []) := ⟨fun I h k => by cases h; exact k [] _ (Same.refl _) ⟨rfl, fun i v d hv => by simp at hv⟩⟩
noncomputable def consA (fa : En → Option D) (fr : En → Option (List D)) (ρ : En) : Option (List D) := (fa ρ).bind fun a => (fr ρ).map (a :: ·)
theorem VwL.same {N : Addr → Prop} (h : VwL K H N vs ds) (s : Same H H') : VwL K H' N vs ds := ⟨h.1, fun i v d hv hd => (h.2 i v d hv hd).same s⟩
theorem VwL.cons {N : Addr → Prop} (h : Vw K H N v d) (t : VwL K H N vs ds) : VwL K H N (v :: vs) (d :: ds) := ⟨by rw [List.length_cons, List.length_cons, t.1], fun i x y hx hy => by
  cases i with
  | zero => cases hx; cases hy; exact h
  | succ i => exact t.2 i x y (by simpa using hx) (by simpa using hy)⟩
instance sa_cons {ta : TE} {tr : TA} {fa : En → Option D} {fr : En → Option (List D)} [A : SV K n ta fa] [R : SA K n tr fr] : SA K n (tCons ta tr) (consA fa fr) := ⟨fun {σ hv H U ρ τv τd ds Q} I h k => by
  obtain ⟨a, ha, h⟩ := Option.bind_eq_some_iff.mp h
  obtain ⟨r, hr, h⟩ := Option.map_eq_some_iff.mp h
  cases h
  refine A.s I ha fun x H1 s1 w1 => ?_
  exact R.s (I.same s1) hr fun xs H2 s2 w2 => k (x :: xs) H2 (s1.trans s2) (.cons (w1.same s2) w2)⟩
instance sma_nil : SMA K n tNil (fun ρ => some ([], ρ)) := ⟨fun {σ hv H U ρ ρ' τv τd ds Q} I h k => by cases h; exact k [] H U rfl (by rw [List.append_nil, List.append_nil]; exact I) (Stp.refl U H)⟩
noncomputable def consM (fa : En → Option (D × En)) (fr : En → Option (List D × En)) (ρ : En) : Option (List D × En) := (fa ρ).bind fun a => (fr a.2).map fun r => (a.1 :: r.1, r.2)
instance sma_cons {ta : TE} {tr : TA} {fa : En → Option (D × En)} {fr : En → Option (List D × En)} [A : SM K n ta fa] [R : SMA K n tr fr] : SMA K n (tCons ta tr) (consM fa fr) := ⟨fun {σ hv H U ρ ρ' τv τd ds Q} I h k => by
  obtain ⟨⟨a, ρ1⟩, ha, h⟩ := Option.bind_eq_some_iff.mp h
  obtain ⟨⟨r, ρ2⟩, hr, h⟩ := Option.map_eq_some_iff.mp h
  cases h
  refine A.s I ha fun x H1 U1 I1 st1 => ?_
  refine R.s I1 hr fun xs H2 U2 hl I2 st2 => ?_
  refine k (x :: xs) H2 U2 (by rw [List.length_cons, List.length_cons, hl]) ?_ (st1.trans st2)
  rw [List.append_cons, List.append_cons τd]
  exact I2⟩
theorem sat_get {α β : Type} {vs : List α} {ds : List β} {i : Nat} {d : β} (h : vs.length = ds.length) (hd : ds[i]? = some d) : ∃ v, vs[i]? = some v := ⟨_, List.getElem?_eq_getElem (by rw [h]; exact (List.getElem?_eq_some_iff.mp hd).1)⟩
theorem Sit.gather {k : Kd} {p : Addr} {o : HO} (I : Sit K n H U σ hv ρ (τv ++ vs) (τd ++ ds)) (hl : vs.length = ds.length) (hp : H p = none)
    (hold : (imm k = true ∧ k = .tup ∧ o = .tup vs) ∨ (imm k = false ∧ fits K k vs.length ∧ ∃ dx, o = ho k dx vs)) :
    ∃ U', Sit K n (upd H p o) U' σ hv ρ (τv ++ [.ref p]) (τd ++ [.nd k ds]) ∧ Stp U H U' (upd H p o) := by
  have l := I.len
  have s : Same H (upd H p o) := fun b u q => by rw [upd_ne (ne_of_none q hp)]; exact q
  have tl := I.tl
  obtain ⟨he, mu, Fs, dj, sub, sl⟩ := I.ok.same s
  have np : ∀ i, ¬ Fs i p := fun i z => by
    obtain ⟨u, w⟩ := mut_some (I.ok.mu p (sub i p z))
    rw [hp] at w; cases w
  have base : (σ ++ hv ++ τv.map some).length = ρ.length + τd.length := by simp at tl ⊢; omega
  have mup : imm k = false → Mut (upd H p o p) := fun hk => by
    rcases hold with ⟨z, _⟩ | ⟨_, z, dx, w⟩
    · rw [hk] at z; cases z
    · rw [upd_same, w]
      have : CellM K (upd H p o) p k vs := ⟨hk, z, dx, by rw [upd_same, w]⟩
      have := this.mu
      rw [upd_same, w] at this
      exact this
  refine ⟨fun b => U b ∨ (imm k = false ∧ b = p), ⟨⟨by simp at tl ⊢; omega, fun b z => ?_, fun i b => if i = ρ.length + τd.length then (∃ j, ρ.length + τd.length ≤ j ∧ Fs j b) ∨ (imm k = false ∧ b = p) else Fs i b ∧ i < ρ.length + τd.length, fun i j b hi hj => ?_, fun i b hb => ?_, fun i β hβ => ?_⟩, l, I.nn⟩, fun b u q nu => ⟨s b u q, fun z => z.elim nu fun ⟨_, z⟩ => by rw [z, hp] at q; cases q⟩⟩
  · rcases z with z | ⟨z, w⟩
    · exact mu b z
    · rw [w]; exact mup z
  · have hi : if i = ρ.length + τd.length then (∃ j, ρ.length + τd.length ≤ j ∧ Fs j b) ∨ (imm k = false ∧ b = p) else Fs i b ∧ i < ρ.length + τd.length := hi
    have hj : if j = ρ.length + τd.length then (∃ j, ρ.length + τd.length ≤ j ∧ Fs j b) ∨ (imm k = false ∧ b = p) else Fs j b ∧ j < ρ.length + τd.length := hj
    by_cases ci : i = ρ.length + τd.length
    · rw [if_pos ci] at hi
      by_cases cj : j = ρ.length + τd.length
      · omega
      · rw [if_neg cj] at hj
        rcases hi with ⟨x, hx, hi⟩ | ⟨_, hi⟩
        · have := dj _ _ b hi hj.1; omega
        · rw [hi] at hj; exact absurd hj.1 (np j)
    · rw [if_neg ci] at hi
      by_cases cj : j = ρ.length + τd.length
      · rw [if_pos cj] at hj
        rcases hj with ⟨x, hx, hj⟩ | ⟨_, hj⟩
        · have := dj _ _ b hi.1 hj; omega
        · rw [hj] at hi; exact absurd hi.1 (np i)
      · rw [if_neg cj] at hj
        exact dj _ _ b hi.1 hj.1
  · have hb : if i = ρ.length + τd.length then (∃ j, ρ.length + τd.length ≤ j ∧ Fs j b) ∨ (imm k = false ∧ b = p) else Fs i b ∧ i < ρ.length + τd.length := hb
    by_cases ci : i = ρ.length + τd.length
    · rw [if_pos ci] at hb
      rcases hb with ⟨x, _, hb⟩ | hb
      · exact .inl (sub x b hb)
      · exact .inr hb
    · rw [if_neg ci] at hb
      exact .inl (sub i b hb.1)
  · have hβ' : ((ρ ++ τd.map fun d => some (B.own d)) ++ [some (.own (.nd k ds))])[i]? = some (some β) := by
      rw [List.map_append, ← List.append_assoc] at hβ; exact hβ
    have hlen2 : (σ ++ hv ++ τv.map some).length = (ρ ++ τd.map fun d => some (B.own d)).length := by rw [base]; simp
    have lft : ∀ {i : Nat} (hi : i < (σ ++ hv ++ τv.map some).length) {x : V}, (σ ++ hv ++ (τv ++ [x]).map some)[i]? = (σ ++ hv ++ τv.map some)[i]? := fun {i} hi {x} => by
      rw [List.map_append, ← List.append_assoc, List.getElem?_append_left hi]
    have lft2 : ∀ {i : Nat} (hi : i < (σ ++ hv ++ τv.map some).length), (σ ++ hv ++ (τv ++ vs).map some)[i]? = (σ ++ hv ++ τv.map some)[i]? := fun {i} hi => by
      rw [List.map_append, ← List.append_assoc, List.getElem?_append_left hi]
    rcases slot_of hlen2 hβ' with ⟨hi, q⟩ | ⟨hi, q⟩
    · obtain ⟨v', ev, sv⟩ := sl i β (by rw [List.map_append, ← List.append_assoc, List.getElem?_append_left (by rw [← hlen2]; exact hi)]; exact q)
      rw [lft2 hi] at ev
      refine ⟨v', by rw [lft hi]; exact ev, ?_⟩
      have ni : ¬ i = ρ.length + τd.length := by omega
      have sv := SlotOk.slots sv (e' := σ ++ hv ++ (τv ++ [V.ref p]).map some) fun r hr => by rw [lft (by omega), lft2 (by omega)]
      cases β with
      | own dd =>
        show Rep K (upd H p o) (fun b => if i = ρ.length + τd.length then _ else Fs i b ∧ i < ρ.length + τd.length) v' dd
        simp only [if_neg ni]
        exact Rep.mono sv fun b z => ⟨z, by omega⟩
      | ro dd =>
        obtain ⟨v2, ev2, sv0⟩ := I.ok.ex.choose_spec.2.2 i _ (by rw [List.map_append, ← List.append_assoc, List.getElem?_append_left (by rw [← hlen2]; exact hi)]; exact q)
        rw [lft2 hi, ev] at ev2; cases ev2
        have sv0 : Vw K H (fun b => ¬ U b) v' dd := sv0
        exact sv0.over (fun b o nb q => ⟨s b o q, fun z => z.elim nb fun ⟨_, z⟩ => by rw [z, hp] at q; cases q⟩) (Stay.of s)
      | ali _ _ => exact sv
    · have e0 : i - (σ ++ hv ++ τv.map some).length = 0 := by
        have := (List.getElem?_eq_some_iff.mp q).1
        simp at this ⊢; omega
      rw [e0] at q
      cases q
      have ei : i = ρ.length + τd.length := by omega
      subst ei
      refine ⟨.ref p, by rw [List.map_append, ← List.append_assoc, List.getElem?_append_right (by omega), base, Nat.sub_self]; rfl, ?_⟩
      have kid : ∀ (j : Nat) (v : V) (d : D), vs[j]? = some v → ds[j]? = some d → Rep K (upd H p o) (Fs (ρ.length + τd.length + j)) v d := fun j v d hv hd => by
        obtain ⟨v', ev, sv⟩ := sl (ρ.length + τd.length + j) (.own d) (by
          rw [List.map_append, ← List.append_assoc, List.getElem?_append_right (by simp), List.getElem?_map]
          simp [hd])
        have : v' = v := by
          rw [List.map_append, ← List.append_assoc, List.getElem?_append_right (by omega), base] at ev
          simp [hv] at ev
          exact ev.symm
        subst this
        exact sv
      show Rep K (upd H p o) (fun b => if ρ.length + τd.length = ρ.length + τd.length then (∃ j, ρ.length + τd.length ≤ j ∧ Fs j b) ∨ (imm k = false ∧ b = p) else _) (.ref p) (.nd k ds)
      simp only [if_pos rfl]
      refine .nd (fun j => Fs (ρ.length + τd.length + j)) ?_ hl (fun i j b hi hj => by have := dj _ _ b hi hj; omega) (fun j b hb => ⟨.inl ⟨_, by omega, hb⟩, fun _ z => by rw [z] at hb; exact np _ hb⟩) kid
      rcases hold with ⟨_, h1, h2⟩ | ⟨h1, h2, dx, h3⟩
      · subst h1
        show upd H p o p = some (.tup vs)
        rw [upd_same, h2]
      · exact Hold.put h1 (.inr ⟨h1, rfl⟩) ⟨h1, h2, dx, by rw [upd_same, h3]⟩
noncomputable def tupM (f : En → Option (List D × En)) (ρ : En) : Option (D × En) := (f ρ).bind fun r => if r.1.length ≤ sizeLine then some (.nd .tup r.1, r.2) else none
noncomputable def lstM (f : En → Option (List D × En)) (ρ : En) : Option (D × En) := (f ρ).bind fun r => if r.1.length ≤ sizeLine then some (.nd .lst r.1, r.2) else none
instance (priority := 300) sm_tup {ta : TA} {fa : En → Option (List D × En)} [A : SMA K n ta fa] : SM K n (tTup ta) (tupM fa) := ⟨fun {σ hv H U ρ ρ' τv τd d Q} I h k => by
  obtain ⟨⟨a, ρ1⟩, ha, h⟩ := Option.bind_eq_some_iff.mp h
  by_cases c : a.length ≤ sizeLine
  · rw [if_pos c] at h
    cases h
    refine A.s I ha fun xs H1 U1 hl I1 st1 => ⟨by rw [hl]; exact c, fun p hp => ?_⟩
    obtain ⟨U2, I2, st2⟩ := I1.gather (k := .tup) (o := .tup xs) hl hp (.inl ⟨rfl, rfl, rfl⟩)
    exact k _ _ U2 I2 (st1.trans st2)
  · rw [if_neg c] at h; cases h⟩
instance (priority := 300) sm_lst {ta : TA} {fa : En → Option (List D × En)} [A : SMA K n ta fa] : SM K n (tLst ta) (lstM fa) := ⟨fun {σ hv H U ρ ρ' τv τd d Q} I h k => by
  obtain ⟨⟨a, ρ1⟩, ha, h⟩ := Option.bind_eq_some_iff.mp h
  by_cases c : a.length ≤ sizeLine
  · rw [if_pos c] at h
    cases h
    refine A.s I ha fun xs H1 U1 hl I1 st1 => ⟨by rw [hl]; exact c, fun p hp => ?_⟩
    obtain ⟨U2, I2, st2⟩ := I1.gather (k := .lst) (o := .lst xs) hl hp (.inr ⟨rfl, trivial, 0, rfl⟩)
    exact k _ _ U2 I2 (st1.trans st2)
  · rw [if_neg c] at h; cases h⟩
end
end VL
namespace VL
open PySem L2
section
variable {K : W.Frag} {n : Nat} {H H' : Hp} {U U' : Addr → Prop} {m : Nat} {e : List (Option V)} {σ hv : List (Option V)} {ρ ρ' ρ2 : En} {τv vs xs : List V} {τd ds : List D} {v : V} {d : D}
noncomputable def owns (ds : List D) : En := ds.map fun d => some (.own d)
theorem owns_only (ds : List D) : ownOnly (owns ds) := fun b hb => by
  obtain ⟨d, _, rfl⟩ := List.mem_map.mp hb
  exact .inr ⟨d, rfl⟩
theorem owns_noAli (ds : List D) : noAli (owns ds) := fun b hb r p => by
  obtain ⟨d, _, rfl⟩ := List.mem_map.mp hb
  exact fun z => nomatch z
theorem EnvOk.weaken (h : EnvOk K H U m e ρ2) (hl : ρ.length = ρ2.length) (w : ∀ (i : Nat) (β : B), ρ[i]? = some (some β) → ρ2[i]? = some (some β)) : EnvOk K H U m e ρ := by
  obtain ⟨a, mu, Fs, dj, sub, sl⟩ := h
  exact ⟨a.trans hl.symm, mu, Fs, dj, sub, fun i β hβ => sl i β (w i β hβ)⟩
theorem stay_upd {a : Addr} {o : HO} (h : Mut (H a)) : Stay H (upd H a o) := fun b u nm q => by
  have : b ≠ a := fun z => by subst z; rw [q] at h; exact nm h
  rw [upd_ne this]; exact q
theorem mut_ho {a : Addr} {k : Kd} {dx : Addr} (hk : imm k = false) : Mut (some (ho k dx vs)) := by
  cases k with
  | tup => cases hk
  | frl => cases hk
  | lst => trivial
  | dic ks => trivial
  | dit ks => trivial
  | obj C ns => trivial
theorem EnvOk.edit {k : Kd} {cs : List D} (h : EnvOk K H U 0 (xs.map some ++ [some v]) (owns ds ++ [some (.own (.nd k cs))])) (hl : xs.length = ds.length) (hk : imm k = false) :
    ∃ (a dx : Addr) (vs : List V), v = .ref a ∧ H a = some (ho k dx vs) ∧ fits K k vs.length ∧ vs.length = cs.length ∧ VwL K H T1 vs cs ∧ ∀ (k' : Kd) (vs' : List V) (cs' : List D) (π : Nat → Nat), imm k' = false → fits K k' vs'.length → vs'.length = cs'.length →
      (∀ i j, i < vs'.length → j < vs'.length → π i = π j → i = j) → (∀ (i : Nat) (x : V), vs'[i]? = some x → (vs ++ xs)[π i]? = some x) → (∀ (i : Nat) (y : D), cs'[i]? = some y → (cs ++ ds)[π i]? = some y) →
      EnvOk K (upd H a (ho k' dx vs')) U 0 [some v] [some (.own (.nd k' cs'))] ∧ Stp U H U (upd H a (ho k' dx vs')) := by
  obtain ⟨hlen, mu, Fs, dj, sub, sl⟩ := h
  have lo : (owns ds).length = xs.length := by unfold owns; rw [List.length_map, hl]
  obtain ⟨v', ev, sv⟩ := sl xs.length (.own (.nd k cs)) (by rw [List.getElem?_append_right (by omega), lo, Nat.sub_self]; rfl)
  rw [List.getElem?_append_right (by simp)] at ev
  have : v' = v := by simp at ev; exact ev.symm
  subst this
  have sv : Rep K H (Fs xs.length) v' (.nd k cs) := sv
  obtain ⟨a, vs, rfl, h1, h2, Gs, g3, g4, g5⟩ := sv.node
  obtain ⟨Fa, _, hf, dx, ha⟩ := h1.own hk
  have nGa : ∀ i, ¬ Gs i a := fun i z => (g4 i a z).2 hk rfl
  refine ⟨a, dx, vs, rfl, ha, hf, h2, ⟨h2, fun i v d hv hd => (g5 i v d hv hd).vw⟩, fun k' vs' cs' π hk' hf' hl' inj hv' hc' => ?_⟩
  have hMa : Mut (H a) := mu a (sub _ a Fa)
  have st : Stay H (upd H a (ho k' dx vs')) := stay_upd hMa
  have keep : ∀ b u, b ≠ a → H b = some u → upd H a (ho k' dx vs') b = some u := fun b u ne q => by rw [upd_ne ne]; exact q
  -- the footprint of what comes from place j
  let Fp : Nat → Addr → Prop := fun j => if j < cs.length then Gs j else fun b => Fs (j - cs.length) b ∧ j - cs.length < xs.length
  have FpL : ∀ j, j < cs.length → Fp j = Gs j := fun j hj => if_pos hj
  have FpR : ∀ j, ¬ j < cs.length → Fp j = fun b => Fs (j - cs.length) b ∧ j - cs.length < xs.length := fun j hj => if_neg hj
  have Fpin : ∀ j b, Fp j b → (j < cs.length ∧ Gs j b) ∨ (¬ j < cs.length ∧ Fs (j - cs.length) b ∧ j - cs.length < xs.length) := fun j b hb => by
    by_cases c : j < cs.length
    · rw [FpL j c] at hb; exact .inl ⟨c, hb⟩
    · rw [FpR j c] at hb; exact .inr ⟨c, hb.1, hb.2⟩
  have FpU : ∀ j b, Fp j b → U b := fun j b hb => by
    rcases Fpin j b hb with ⟨_, z⟩ | ⟨_, z, _⟩
    · exact sub _ b (g4 j b z).1
    · exact sub _ b z
  have Fpna : ∀ j, ¬ Fp j a := fun j z => by
    rcases Fpin j a z with ⟨_, z⟩ | ⟨_, z, w⟩
    · exact nGa j z
    · have := dj _ _ a z Fa; omega
  have Fpdj : ∀ i j b, Fp i b → Fp j b → i = j := fun i j b hi hj => by
    rcases Fpin i b hi with ⟨c1, z1⟩ | ⟨c1, z1, w1⟩ <;> rcases Fpin j b hj with ⟨c2, z2⟩ | ⟨c2, z2, w2⟩
    · exact g3 i j b z1 z2
    · have := dj _ _ b (g4 i b z1).1 z2; omega
    · have := dj _ _ b (g4 j b z2).1 z1; omega
    · have := dj _ _ b z1 z2; omega
  have Fprep : ∀ (j : Nat) (x : V) (y : D), (vs ++ xs)[j]? = some x → (cs ++ ds)[j]? = some y → Rep K H (Fp j) x y := fun j x y hx hy => by
    by_cases c : j < cs.length
    · rw [FpL j c]
      rw [List.getElem?_append_left (by omega)] at hx
      rw [List.getElem?_append_left c] at hy
      exact g5 j x y hx hy
    · rw [FpR j c]
      rw [List.getElem?_append_right (by omega)] at hx
      rw [List.getElem?_append_right (by omega)] at hy
      rw [h2] at hx
      have hjx : j - cs.length < xs.length := (List.getElem?_eq_some_iff.mp hx).1
      obtain ⟨x', ex, sx⟩ := sl (j - cs.length) (.own y) (by rw [List.getElem?_append_left (by rw [lo]; exact hjx)]; unfold owns; rw [List.getElem?_map, hy]; rfl)
      have : x' = x := by
        rw [List.getElem?_append_left (by simp; exact hjx), List.getElem?_map, hx] at ex
        cases ex; rfl
      subst this
      exact Rep.mono sx fun b z => ⟨z, hjx⟩
  refine ⟨⟨rfl, fun b ub => ?_, fun i b => i = 0 ∧ (b = a ∨ ∃ j, j < vs'.length ∧ Fp (π j) b), fun i j b hi hj => by rw [hi.1, hj.1], fun i b hb => ?_, fun i β hβ => ?_⟩, fun b u q nu => ?_⟩
  · by_cases c : b = a
    · subst c; rw [upd_same]; exact mut_ho (a := b) hk'
    · rw [upd_ne c]; exact mu b ub
  · rcases hb.2 with z | ⟨j, _, z⟩
    · subst z; exact sub _ b Fa
    · exact FpU _ b z
  · cases i with
    | succ i => simp at hβ
    | zero =>
      cases hβ
      refine ⟨.ref a, rfl, ?_⟩
      refine .nd (fun i b => i < vs'.length ∧ Fp (π i) b) (Hold.put hk' ⟨rfl, .inl rfl⟩ ⟨hk', hf', dx, upd_same⟩) hl' (fun i j b hi hj => inj i j hi.1 hj.1 (Fpdj _ _ b hi.2 hj.2)) (fun i b hb => ⟨⟨rfl, .inr ⟨i, hb.1, hb.2⟩⟩, fun _ z => by subst z; exact Fpna _ hb.2⟩) fun i x y hx hy => ?_
      have hi : i < vs'.length := (List.getElem?_eq_some_iff.mp hx).1
      have r := Fprep (π i) x y (hv' i x hx) (hc' i y hy)
      refine (r.frame (H' := upd H a (ho k' dx vs')) (fun b u hb q => keep b u (fun z => by subst z; exact Fpna _ hb) q) st).mono fun b z => ⟨hi, z⟩
  · have : b ≠ a := fun z => by subst z; exact nu (sub _ b Fa)
    exact ⟨keep b u this q, nu⟩
theorem getP_hole : ∀ {p q : List Nat} {d d1 x y : D}, getP d p = some d1 → plain x = false → plain y = false → (∀ n r, getP x (n :: r) = none) → (∀ n r, getP y (n :: r) = none) → (getP (setP d p x) q).isSome = (getP (setP d p y) q).isSome
  | [], [], d, d1, x, y, g, hx, hy, zx, zy => by rw [setP, setP, getP, getP]; rfl
  | [], n :: r, d, d1, x, y, g, hx, hy, zx, zy => by rw [setP, setP, zx, zy]
  | n :: p, q, .sc _, d1, x, y, g, hx, hy, zx, zy => by rw [getP] at g; cases g
  | n :: p, q, .hl _, d1, x, y, g, hx, hy, zx, zy => by rw [getP] at g; cases g
  | n :: p, q, .nd k cs, d1, x, y, g, hx, hy, zx, zy => by
    rw [getP] at g
    by_cases hpl : imm k = true ∧ plainL cs = true
    · rw [if_pos hpl] at g; cases g
    rw [if_neg hpl] at g
    cases hc : cs[n]? with
    | none => rw [hc] at g; cases g
    | some c =>
      rw [hc] at g
      have hn := (List.getElem?_eq_some_iff.mp hc).1
      have e1 : setP (.nd k cs) (n :: p) x = .nd k (cs.set n (setP c p x)) := by rw [setP, hc]
      have e2 : setP (.nd k cs) (n :: p) y = .nd k (cs.set n (setP c p y)) := by rw [setP, hc]
      rw [e1, e2]
      cases q with
      | nil => rw [getP, getP]; rfl
      | cons i q =>
        have px := plainL_set hn (plain_setP g hx)
        have py := plainL_set hn (plain_setP g hy)
        rw [getP, getP, if_neg (by rintro ⟨_, z⟩; rw [px] at z; cases z), if_neg (by rintro ⟨_, z⟩; rw [py] at z; cases z)]
        by_cases ci : n = i
        · subst ci
          rw [List.getElem?_set_self hn, List.getElem?_set_self hn]
          exact getP_hole g hx hy zx zy
        · rw [List.getElem?_set_ne ci, List.getElem?_set_ne ci]
noncomputable def editE (ρ : En) (r : Nat) (d0 : D) (p : List Nat) (d' : D) : En := (prune (ρ.set r (some (.own (setP d0 p (.hl .non)))))).set r (some (.own (setP d0 p d')))
theorem editE_len (ρ : En) (r : Nat) (d0 : D) (p : List Nat) (d' : D) : (editE ρ r d0 p d').length = ρ.length := by unfold editE; rw [List.length_set, prune_len, List.length_set]
theorem rootD_set_ne {r s : Nat} {b : Option B} (h : r ≠ s) : rootD (ρ.set r b) s = rootD ρ s := by
  unfold rootD
  rw [List.getElem?_set_ne h]
theorem rootD_set_self {r : Nat} (h : r < ρ.length) : rootD (ρ.set r (some (.own d))) r = some d := by
  unfold rootD
  rw [List.getElem?_set_self h]
theorem prune_own {i : Nat} {d : D} (h : ρ[i]? = some (some (.own d))) : (prune ρ)[i]? = some (some (.own d)) := by
  unfold prune
  rw [List.getElem?_map, h]
  rfl
theorem rootD_app {r : Nat} {d : D} {τ : En} (h : rootD ρ r = some d) : rootD (ρ ++ τ) r = some d := by
  have q := rootD_of h
  have hr : r < ρ.length := (List.getElem?_eq_some_iff.mp q).1
  unfold rootD
  rw [List.getElem?_append_left hr, q]
theorem prune_app {τ : En} (hτ : noAli τ) : ∀ (i : Nat) (β : B), (prune ρ ++ τ)[i]? = some (some β) → (prune (ρ ++ τ))[i]? = some (some β) := fun i β h => by
  unfold prune at h ⊢
  rw [List.map_append]
  by_cases hi : i < ρ.length
  · rw [List.getElem?_append_left (by rw [List.length_map]; exact hi)] at h
    rw [List.getElem?_append_left (by rw [List.length_map]; exact hi)]
    rw [List.getElem?_map] at h ⊢
    cases q : ρ[i]? with
    | none => rw [q] at h; cases h
    | some o =>
      rw [q] at h
      have h : pruneB ρ o = some β := Option.some.inj h
      show some (pruneB (ρ ++ τ) o) = _
      cases o with
      | none => exact congrArg some h
      | some c =>
        cases c with
        | own d => exact congrArg some h
        | ro d => exact congrArg some h
        | ali r p =>
          have h : (if p = [] ∨ ((rootD ρ r).bind (getP · p)).isSome = true then some (B.ali r p) else none) = some β := h
          show some (if p = [] ∨ ((rootD (ρ ++ τ) r).bind (getP · p)).isSome = true then some (B.ali r p) else none) = _
          by_cases c : p = [] ∨ ((rootD ρ r).bind (getP · p)).isSome = true
          · rw [if_pos c] at h
            have c' : p = [] ∨ ((rootD (ρ ++ τ) r).bind (getP · p)).isSome = true := by
              rcases c with c | c
              · exact .inl c
              · cases hd : rootD ρ r with
                | none => rw [hd] at c; cases c
                | some d => rw [rootD_app hd]; rw [hd] at c; exact .inr c
            rw [if_pos c', h]
          · rw [if_neg c] at h; cases h
  · rw [List.getElem?_append_right (by rw [List.length_map]; omega)] at h ⊢
    rw [List.length_map] at h ⊢
    rw [List.getElem?_map, h]
    cases β with
    | own d => rfl
    | ro d => rfl
    | ali r p => exact absurd rfl (hτ _ (List.mem_of_getElem? h) r p)
theorem prune_hole {r : Nat} {d0 d1 : D} {p : List Nat} {v : V} (hr : r < ρ.length) (g : getP d0 p = some d1) : ∀ (i : Nat) (β : B), i ≠ r → (prune (ρ.set r (some (.own (setP d0 p (.hl .non))))))[i]? = some (some β) → (prune (ρ.set r (some (.own (setP d0 p (.hl v))))))[i]? = some (some β) := fun i β ni h => by
  unfold prune at h ⊢
  rw [List.getElem?_map, List.getElem?_set_ne (Ne.symm ni)] at h ⊢
  cases q : ρ[i]? with
  | none => rw [q] at h; cases h
  | some o =>
    rw [q] at h
    have h := Option.some.inj h
    show some (pruneB _ o) = _
    cases o with
    | none => exact congrArg some h
    | some c =>
      cases c with
      | own d => exact congrArg some h
      | ro d => exact congrArg some h
      | ali s p' =>
        have h : (if p' = [] ∨ ((rootD (ρ.set r (some (.own (setP d0 p (.hl .non))))) s).bind (getP · p')).isSome = true then some (B.ali s p') else none) = some β := h
        show some (if p' = [] ∨ ((rootD (ρ.set r (some (.own (setP d0 p (.hl v))))) s).bind (getP · p')).isSome = true then some (B.ali s p') else none) = _
        by_cases cs : r = s
        · subst cs
          rw [rootD_set_self hr] at h ⊢
          have e : ((some (setP d0 p (.hl v))).bind (getP · p')).isSome = ((some (setP d0 p (.hl .non))).bind (getP · p')).isSome := getP_hole g rfl rfl (fun _ _ => by rw [getP]) fun _ _ => by rw [getP]
          rw [e, h]
        · rw [rootD_set_ne cs] at h ⊢
          rw [h]
theorem Sit.edit {r : Nat} {p : List Nat} {d0 : D} {k : Kd} {cs : List D} (I : Sit K n H U σ hv ρ (τv ++ xs) (τd ++ ds)) (hl : xs.length = ds.length) (hp : PlOk K H U (σ ++ hv) ρ v (.rt r p)) (hr : rootD ρ r = some d0) (hg : getP d0 p = some (.nd k cs)) (hk : imm k = false) :
    ∃ (a dx : Addr) (vs : List V), v = .ref a ∧ H a = some (ho k dx vs) ∧ fits K k vs.length ∧ vs.length = cs.length ∧ VwL K H T1 vs cs ∧ ∀ (k' : Kd) (vs' : List V) (cs' : List D) (π : Nat → Nat), imm k' = false → fits K k' vs'.length → vs'.length = cs'.length →
      (∀ i j, i < vs'.length → j < vs'.length → π i = π j → i = j) → (∀ (i : Nat) (x : V), vs'[i]? = some x → (vs ++ xs)[π i]? = some x) → (∀ (i : Nat) (y : D), cs'[i]? = some y → (cs ++ ds)[π i]? = some y) →
      ∃ U', Sit K n (upd H a (ho k' dx vs')) U' σ hv (editE ρ r d0 p (.nd k' cs')) τv τd ∧ Stp U H U' (upd H a (ho k' dx vs')) := by
  have l := I.len
  have tl := I.tl
  rw [List.length_append, List.length_append] at tl
  obtain ⟨hrl, vr, d0', er, hr', _, hpv⟩ := hp
  rw [hr] at hr'; cases hr'
  have hro := rootD_of hr
  -- all in one row
  have ok0 : EnvOk K H U ρ.length ((σ ++ hv ++ τv.map some) ++ xs.map some) ((ρ ++ owns τd) ++ owns ds) := by
    have := I.ok
    rw [List.map_append, List.map_append, ← List.append_assoc, ← List.append_assoc] at this
    exact this
  have lE : (σ ++ hv ++ τv.map some).length = (ρ ++ owns τd).length := by unfold owns; simp; omega
  have hm : ρ.length ≤ (σ ++ hv ++ τv.map some).length := by simp; omega
  have ok1 := ok0.take (r := r) (vr := vr) (u := v) (d := d0) (p := p) (by rw [List.length_append]; omega) (by rw [List.getElem?_append_left (by rw [List.length_append]; omega), List.getElem?_append_left hrl]; exact hro)
    (by rw [List.getElem?_append_left (by omega), List.getElem?_append_left (by simp; omega)]; exact er) hpv hg
  have es : ((ρ ++ owns τd) ++ owns ds).set r (some (.own (setP d0 p (.hl v)))) ++ [some (B.own (.nd k cs))] = (ρ.set r (some (.own (setP d0 p (.hl v)))) ++ owns τd) ++ (owns ds ++ [some (.own (.nd k cs))]) := by
    rw [List.set_append_left _ _ (by rw [List.length_append]; omega), List.set_append_left _ _ hrl]
    simp
  rw [es, List.append_assoc] at ok1
  have nA : noAli (owns ds ++ [some (B.own (.nd k cs))]) := fun b hb q p => by
    rcases List.mem_append.mp hb with z | z
    · exact owns_noAli ds b z q p
    · rw [List.mem_singleton.mp z]; exact fun w => nomatch w
  have lE' : (σ ++ hv ++ τv.map some).length = (ρ.set r (some (.own (setP d0 p (.hl v)))) ++ owns τd).length := by
    rw [lE, List.length_append, List.length_append, List.length_set]
  obtain ⟨Ut, _, small, _, back⟩ := ok1.call lE' hm nA
  obtain ⟨a, dx, vs, ev, ha, hf, hlv, vw, ed⟩ := small.edit hl hk
  refine ⟨a, dx, vs, ev, ha, hf, hlv, vw, fun k' vs' cs' π hk' hf' hl' inj hv' hc' => ?_⟩
  obtain ⟨okE, stE⟩ := ed k' vs' cs' π hk' hf' hl' inj hv' hc'
  obtain ⟨U', ok2, st2⟩ := back _ Ut [some v] [some (.own (.nd k' cs'))] okE stE fun b hb => by rw [List.mem_singleton.mp hb]; exact .inr ⟨_, rfl⟩
  refine ⟨U', ⟨?_, by rw [editE_len]; exact l, I.nn⟩, st2⟩
  have hrl2 : r < (ρ.set r (some (.own (setP d0 p (.hl v))))).length := by rw [List.length_set]; exact hrl
  have gh : getP (setP d0 p (.hl v)) p = some (.hl v) := getP_setP hg rfl
  have ok3 := ok2.put (r := r) (d0 := setP d0 p (.hl v)) (u := v) (p := p) (d1 := .nd k' cs') (by rw [prune_len]; exact lE') hm (by
    refine prune_own ?_
    rw [List.getElem?_append_left hrl2, List.getElem?_set_self hrl]) gh
  rw [setP_setP hg] at ok3
  rw [editE_len]
  refine ok3.weaken (by rw [List.length_append, editE_len, List.length_set, prune_len, List.length_append, List.length_set]; unfold owns; rfl) fun i β hβ => ?_
  have hβ : (editE ρ r d0 p (.nd k' cs') ++ owns τd)[i]? = some (some β) := hβ
  by_cases ci : r = i
  · subst ci
    rw [List.getElem?_append_left (by rw [editE_len]; exact hrl)] at hβ
    unfold editE at hβ
    rw [List.getElem?_set_self (by rw [prune_len, List.length_set]; exact hrl)] at hβ
    rw [List.getElem?_set_self (by rw [prune_len, List.length_append, List.length_set]; omega)]
    exact hβ
  · rw [List.getElem?_set_ne ci]
    refine prune_app (owns_noAli τd) i β ?_
    by_cases hi : i < ρ.length
    · rw [List.getElem?_append_left (by rw [editE_len]; exact hi)] at hβ
      rw [List.getElem?_append_left (by rw [prune_len, List.length_set]; exact hi)]
      unfold editE at hβ
      rw [List.getElem?_set_ne ci] at hβ
      exact prune_hole hrl hg i β (fun z => ci z.symm) hβ
    · rw [List.getElem?_append_right (by rw [editE_len]; omega), editE_len] at hβ
      rw [List.getElem?_append_right (by rw [prune_len, List.length_set]; omega), prune_len, List.length_set]
      exact hβ
end
end VL
namespace VL
open PySem L2
section
variable {K : W.Frag} {n : Nat} {H H' : Hp} {U U' : Addr → Prop} {σ hv : List (Option V)} {ρ ρ' : En} {τv vs : List V} {τd ds : List D} {v : V} {d : D} {E : Ends}
theorem Sit.bound {i : Nat} (I : Sit K n H U σ hv ρ (τv ++ [v]) (τd ++ [d])) (hi : i < n) (hτ : τv = [] ∧ τd = [] ∨ True) : Sit K n H U (σ.set i (some v)) hv ((unroot i ρ).set i (some (.own d))) τv τd := by
  have l := I.len
  have nn := I.nn
  have tl := I.tl
  rw [List.length_append, List.length_append] at tl
  have tl : τv.length = τd.length := by simp at tl; omega
  refine ⟨?_, by rw [List.length_set, List.length_set, unroot_len]; exact l, by rw [List.length_set]; exact nn⟩
  have ok := I.ok
  rw [List.map_append, List.map_append, ← List.append_assoc, ← List.append_assoc] at ok
  have k := ok.set (i := i) (by simp; omega) (by simp; omega) (by simp; omega)
  have e1 : (σ ++ hv ++ τv.map some).set i (some v) = σ.set i (some v) ++ hv ++ τv.map some := by
    rw [List.set_append_left _ _ (by simp; omega), List.set_append_left _ _ (by omega)]
  rw [e1] at k
  have lu : ((unroot i ρ).set i (some (B.own d))).length = ρ.length := by rw [List.length_set, unroot_len]
  rw [lu]
  refine k.weaken (by simp [unroot_len]) fun j β hβ => ?_
  by_cases hj : j < ρ.length
  · rw [List.getElem?_append_left (by rw [lu]; exact hj)] at hβ
    by_cases c : i = j
    · subst c
      rw [List.getElem?_set_self (by rw [unroot_len]; exact hj)] at hβ
      rw [List.getElem?_set_self (by rw [unroot_len]; simp; omega)]
      exact hβ
    · rw [List.getElem?_set_ne c] at hβ ⊢
      unfold unroot at hβ ⊢
      rw [List.map_append, List.getElem?_append_left (by simpa using hj)]
      exact hβ
  · rw [List.getElem?_append_right (by rw [lu]; omega), lu] at hβ
    rw [List.getElem?_set_ne (by omega)]
    unfold unroot
    rw [List.map_append, List.getElem?_append_right (by simp; omega), List.length_map, List.getElem?_map]
    have : (τd.map fun d => some (B.own d))[j - ρ.length]? = some (some β) := hβ
    rw [this]
    rw [List.getElem?_map] at this
    cases q : τd[j - ρ.length]? with
    | none => rw [q] at this; cases this
    | some x => rw [q] at this; cases this; rfl
theorem Sit.named {i : Nat} {β : B} (I : Sit K n H U σ hv ρ τv τd) (hi : i < n) (hb : match β with | .own _ => False | .ro d => Vw K H (fun b => ¬ U b) v d | .ali r p => r < ρ.length ∧ r ≠ i ∧ ∃ vr, (σ ++ hv)[r]? = some (some vr) ∧ PathV H vr p v) :
    Sit K n H U (σ.set i (some v)) hv ((unroot i ρ).set i (some β)) τv τd := by
  have l := I.len
  have nn := I.nn
  have tl := I.tl
  refine ⟨?_, by rw [List.length_set, List.length_set, unroot_len]; exact l, by rw [List.length_set]; exact nn⟩
  have k := I.ok.bind (i := i) (β := β) (v := v) (by simp; omega) (by
    cases β with
    | own d => exact hb
    | ro d => exact hb
    | ali r p =>
      obtain ⟨h1, h2, vr, h3, h4⟩ := hb
      exact ⟨h1, h2, vr, by rw [List.getElem?_append_left (by simp; omega)]; exact h3, h4⟩)
  have e1 : (σ ++ hv ++ τv.map some).set i (some v) = σ.set i (some v) ++ hv ++ τv.map some := by
    rw [List.set_append_left _ _ (by simp; omega), List.set_append_left _ _ (by omega)]
  rw [e1] at k
  have lu : ((unroot i ρ).set i (some β)).length = ρ.length := by rw [List.length_set, unroot_len]
  rw [lu]
  refine k.weaken (by simp [unroot_len]) fun j γ hγ => ?_
  by_cases hj : j < ρ.length
  · rw [List.getElem?_append_left (by rw [lu]; exact hj)] at hγ
    by_cases c : i = j
    · subst c
      rw [List.getElem?_set_self (by rw [unroot_len]; exact hj)] at hγ
      rw [List.getElem?_set_self (by rw [unroot_len]; simp; omega)]
      exact hγ
    · rw [List.getElem?_set_ne c] at hγ ⊢
      unfold unroot at hγ ⊢
      rw [List.map_append, List.getElem?_append_left (by simpa using hj)]
      exact hγ
  · rw [List.getElem?_append_right (by rw [lu]; omega), lu] at hγ
    rw [List.getElem?_set_ne (by omega)]
    unfold unroot
    rw [List.map_append, List.getElem?_append_right (by simp; omega), List.length_map, List.getElem?_map]
    have : (τd.map fun d => some (B.own d))[j - ρ.length]? = some (some γ) := hγ
    rw [this]
    rw [List.getElem?_map] at this
    cases q : τd[j - ρ.length]? with
    | none => rw [q] at this; cases this
    | some x => rw [q] at this; cases this; rfl
theorem Sit.moved {i : Nat} (I : Sit K n H U σ hv ρ τv τd) (hi : i < n) (h : ρ[i]? = some (some (.own d))) : ∃ v, σ[i]? = some (some v) ∧ Sit K n H U σ hv (ρ.set i none) (τv ++ [v]) (τd ++ [d]) := by
  have l := I.len
  have nn := I.nn
  have tl := I.tl
  have hil : i < ρ.length := (List.getElem?_eq_some_iff.mp h).1
  obtain ⟨v, F, ev, _, _⟩ := I.slot h
  rw [I.name hi] at ev
  refine ⟨v, ev, ?_, by rw [List.length_set]; exact l, nn⟩
  have hi2 : (ρ ++ τd.map fun d => some (B.own d))[i]? = some (some (.own d)) := by rw [List.getElem?_append_left hil]; exact h
  have he2 : (σ ++ hv ++ τv.map some)[i]? = some (some v) := by rw [List.getElem?_append_left (by simp; omega), List.getElem?_append_left (by omega)]; exact ev
  have k := I.ok.take (r := i) (p := []) (by simp; omega) hi2 he2 (.nil v) rfl
  rw [List.length_set, List.map_append, List.map_append, ← List.append_assoc, ← List.append_assoc]
  refine k.weaken (by simp; omega) fun j β hβ => ?_
  rw [List.set_append_left _ _ hil]
  by_cases hj : j < ρ.length
  · rw [List.append_assoc, List.getElem?_append_left (by simpa using hj)] at hβ ⊢
    by_cases c : i = j
    · subst c
      rw [List.getElem?_set_self hil] at hβ
      cases hβ
    · rw [List.getElem?_set_ne c] at hβ ⊢
      exact hβ
  · rw [List.append_assoc, List.getElem?_append_right (by simp; omega)] at hβ ⊢
    rw [List.length_set] at hβ ⊢
    exact hβ
noncomputable def mvVar (i : Nat) (ρ : En) : Option (D × En) := (dVar i ρ).bind fun d => if plain d = true then some (d, ρ) else match ρ[i]? with
  | some (some (.own d')) => some (d', ρ.set i none)
  | _ => none
instance (priority := 400) sm_var {i : Nat} [L : LtN i n] : SM K n (tVar i) (mvVar i) := ⟨fun {σ hv H U ρ ρ' τv τd d Q} I h k => by
  obtain ⟨d1, h1, h2⟩ := Option.bind_eq_some_iff.mp h
  by_cases p : plain d1 = true
  · rw [if_pos p] at h2
    cases h2
    refine (sv_var (i := i)).s I h1 fun v H' s w => ?_
    obtain ⟨U', I', st⟩ := I.push s (Own.plain w p)
    exact k v H' U' I' st
  · rw [if_neg p] at h2
    split at h2
    · next d' e1 =>
      cases h2
      obtain ⟨v, ev, I'⟩ := I.moved L.h e1
      exact ⟨v, ev, k v H U I' (Stp.refl U H)⟩
    · cases h2⟩
instance ss_next : SS K n tNext (fun ρ => some (.nx ρ)) := ⟨fun I h k => by cases h; exact k _ _ _ I (Stp.refl _ _)⟩
instance ss_never : SS K n tNever (fun _ => none) := ⟨fun I h k => by cases h⟩
noncomputable def thenF (u : En → Option Fl) : Fl → Option Fl
  | .nx ρ => u ρ
  | fl => some fl
noncomputable def seqF (t u : En → Option Fl) (ρ : En) : Option Fl := (t ρ).bind (thenF u)
theorem EndOk.step {fl : Fl} (h : EndOk K n H U hv τv τd E fl) (st : Stp U H U' H') : EndOk K n H' U' hv τv τd E fl := by
  cases fl with
  | nx ρ => exact fun σ H2 U2 I s => h σ H2 U2 I (st.trans s)
  | rt d ρ => exact fun v σ H2 U2 I s => h v σ H2 U2 I (st.trans s)
  | bk ρ => exact fun σ H2 U2 I s => h σ H2 U2 I (st.trans s)
  | ct ρ => exact fun σ H2 U2 I s => h σ H2 U2 I (st.trans s)
instance ss_seq {t u : TS} {ft fu : En → Option Fl} [A : SS K n t ft] [B' : SS K n u fu] : SS K n (tSeq t u) (seqF ft fu) := ⟨fun {σ hv H U ρ τv τd fl E} I h k => by
  obtain ⟨f1, h1, h2⟩ := Option.bind_eq_some_iff.mp h
  refine A.s I h1 ?_
  cases f1 with
  | nx ρ1 => exact fun σ1 H1 U1 I1 st1 => B'.s I1 h2 (k.step st1)
  | rt d ρ1 => cases h2; exact k
  | bk ρ1 => cases h2; exact k
  | ct ρ1 => cases h2; exact k⟩
noncomputable def ifF (c : En → Option (Bool × En)) (t u : En → Option Fl) (ρ : En) : Option Fl := (c ρ).bind fun b => if b.1 = true then t b.2 else u b.2
instance ss_if {c : TT} {t u : TS} {fc : En → Option (Bool × En)} {ft fu : En → Option Fl} [C : ST K n c fc] [A : SS K n t ft] [B' : SS K n u fu] : SS K n (tIfS c t u) (ifF fc ft fu) := ⟨fun {σ hv H U ρ τv τd fl E} I h k => by
  obtain ⟨⟨b, ρ1⟩, h1, h2⟩ := Option.bind_eq_some_iff.mp h
  refine C.s I h1 fun H1 U1 I1 st1 => ?_
  cases b with
  | true => rw [if_pos rfl]; exact A.s I1 h2 (k.step st1)
  | false => rw [if_neg Bool.false_ne_true]; exact B'.s I1 h2 (k.step st1)⟩
noncomputable def retF (f : En → Option (D × En)) (ρ : En) : Option Fl := (f ρ).map fun r => .rt r.1 r.2
instance ss_ret {te : TE} {fe : En → Option (D × En)} [A : SM K n te fe] : SS K n (tRet te) (retF fe) := ⟨fun {σ hv H U ρ τv τd fl E} I h k => by
  obtain ⟨⟨d, ρ1⟩, h1, h2⟩ := Option.map_eq_some_iff.mp h
  cases h2
  exact A.s I h1 fun v H1 U1 I1 st1 => k v σ H1 U1 I1 st1⟩
noncomputable def dropF (f : En → Option (D × En)) (ρ : En) : Option Fl := (f ρ).map fun r => .nx r.2
instance ss_drop {te : TE} {fe : En → Option (D × En)} [A : SM K n te fe] : SS K n (tDrop te) (dropF fe) := ⟨fun {σ hv H U ρ τv τd fl E} I h k => by
  obtain ⟨⟨d, ρ1⟩, h1, h2⟩ := Option.map_eq_some_iff.mp h
  cases h2
  exact A.s I h1 fun v H1 U1 I1 st1 => k σ H1 U1 I1.drop1 st1⟩
noncomputable def bindE (i : Nat) (β : B) (ρ : En) : En := (unroot i ρ).set i (some β)
noncomputable def asgM (i : Nat) (f : En → Option (D × En)) (ρ : En) : Option Fl := (f ρ).map fun r => .nx (bindE i (.own r.1) r.2)
instance (priority := 100) ss_asgM {i : Nat} {te : TE} {fe : En → Option (D × En)} [L : LtN i n] [A : SM K n te fe] : SS K n (tAsg te (gName i)) (asgM i fe) := ⟨fun {σ hv H U ρ τv τd fl E} I h k => by
  obtain ⟨⟨d, ρ1⟩, h1, h2⟩ := Option.map_eq_some_iff.mp h
  cases h2
  exact A.s I h1 fun v H1 U1 I1 st1 => k _ H1 U1 (I1.bound L.h (.inr trivial)) st1⟩
noncomputable def asgP (i : Nat) (f : En → Option Pl) (ρ : En) : Option Fl := (f ρ).bind fun q => (plD ρ q).bind fun d => if plain d = true then some (.nx (bindE i (.own d) ρ)) else match q with
  | .ro d => some (.nx (bindE i (.ro d) ρ))
  | .rt r p => if r = i then none else some (.nx (bindE i (.ali r p) ρ))
instance (priority := 500) ss_asgP {i : Nat} {te : TE} {fe : En → Option Pl} [L : LtN i n] [A : SP K n te fe] : SS K n (tAsg te (gName i)) (asgP i fe) := ⟨fun {σ hv H U ρ τv τd fl E} I h k => by
  obtain ⟨q, h1, h2⟩ := Option.bind_eq_some_iff.mp h
  obtain ⟨d, h3, h4⟩ := Option.bind_eq_some_iff.mp h2
  refine A.s I h1 fun v H1 s1 w1 => ?_
  have I1 := I.same s1
  have stS : Stp U H U H1 := fun b o q nu => ⟨s1 b o q, nu⟩
  by_cases p : plain d = true
  · rw [if_pos p] at h4
    cases h4
    obtain ⟨U', I', st⟩ := I1.push (Same.refl H1) (Own.plain (I1.at w1 h3) p)
    exact k _ H1 U' (I'.bound L.h (.inr trivial)) (stS.trans st)
  · rw [if_neg p] at h4
    cases q with
    | ro d' =>
      cases h4
      exact k _ H1 U (I1.named L.h (β := .ro d') w1) stS
    | rt r p' =>
      have h4 : (if r = i then none else some (Fl.nx (bindE i (.ali r p') ρ))) = some fl := h4
      by_cases c : r = i
      · rw [if_pos c] at h4; cases h4
      · rw [if_neg c] at h4
        cases h4
        obtain ⟨hr, vr, d0, er, _, _, hp⟩ := w1
        exact k _ H1 U (I1.named L.h (β := .ali r p') ⟨hr, c, vr, er, hp⟩) stS⟩
instance svt_b {t : TE} {f : En → Option D} [A : SV K n t f] : SVT K n (tB t) (fun ρ => (f ρ).bind fun | .sc (.bl b) => some b | _ => none) := ⟨fun {σ hv H U ρ τv τd b Q} I h k => by
  obtain ⟨d, h1, h2⟩ := Option.bind_eq_some_iff.mp h
  refine A.s I h1 fun v H1 s1 w1 => ?_
  split at h2
  · cases h2; exact ⟨b, w1.scal, k H1 s1⟩
  · cases h2⟩
instance svt_test {t : TE} {f : En → Option D} [A : SV K n t f] : SVT K n (tTest t) (fun ρ => (f ρ).bind fun | .sc (.bl b) => some b | _ => none) := ⟨fun {σ hv H U ρ τv τd b Q} I h k => by
  obtain ⟨d, h1, h2⟩ := Option.bind_eq_some_iff.mp h
  refine A.s I h1 fun v H1 s1 w1 => ?_
  split at h2
  · cases h2; exact ⟨b, w1.scal, k H1 s1⟩
  · cases h2⟩
noncomputable def tstM (f : En → Option (D × En)) (ρ : En) : Option (Bool × En) := (f ρ).bind fun r => match r.1 with
  | .sc (.bl b) => some (b, r.2)
  | _ => none
instance (priority := 50) st_test {t : TE} {f : En → Option (D × En)} [A : SM K n t f] : ST K n (tTest t) (tstM f) := ⟨fun {σ hv H U ρ ρ' τv τd b Q} I h k => by
  obtain ⟨⟨d, ρ1⟩, h1, h2⟩ := Option.bind_eq_some_iff.mp h
  refine A.s I h1 fun v H1 U1 I1 st1 => ?_
  split at h2
  · next b' e =>
    have e : d = .sc (.bl b') := e
    subst e
    cases h2; exact ⟨b, I1.last.scal, k H1 U1 I1.drop1 st1⟩
  · cases h2⟩
noncomputable def andT (a b : En → Option Bool) (ρ : En) : Option Bool := (a ρ).bind fun x => if x = true then b ρ else some false
noncomputable def orT (a b : En → Option Bool) (ρ : En) : Option Bool := (a ρ).bind fun x => if x = true then some true else b ρ
instance svt_and {t u : TT} {f g : En → Option Bool} [A : SVT K n t f] [B' : SVT K n u g] : SVT K n (tAnd t u) (andT f g) := ⟨fun {σ hv H U ρ τv τd b Q} I h k => by
  obtain ⟨x, h1, h2⟩ := Option.bind_eq_some_iff.mp h
  refine A.s I h1 fun H1 s1 => ?_
  cases x with
  | true => rw [if_pos rfl]; exact B'.s (I.same s1) h2 fun H2 s2 => k H2 (s1.trans s2)
  | false => cases h2; rw [if_neg Bool.false_ne_true]; exact k H1 s1⟩
instance svt_or {t u : TT} {f g : En → Option Bool} [A : SVT K n t f] [B' : SVT K n u g] : SVT K n (tOr t u) (orT f g) := ⟨fun {σ hv H U ρ τv τd b Q} I h k => by
  obtain ⟨x, h1, h2⟩ := Option.bind_eq_some_iff.mp h
  refine A.s I h1 fun H1 s1 => ?_
  cases x with
  | true => cases h2; rw [if_pos rfl]; exact k H1 s1
  | false => rw [if_neg Bool.false_ne_true]; exact B'.s (I.same s1) h2 fun H2 s2 => k H2 (s1.trans s2)⟩
instance svt_not {t : TT} {f : En → Option Bool} [A : SVT K n t f] : SVT K n (tNot t) (fun ρ => (f ρ).map (!·)) := ⟨fun {σ hv H U ρ τv τd b Q} I h k => by
  obtain ⟨x, h1, h2⟩ := Option.map_eq_some_iff.mp h
  cases h2
  exact A.s I h1 fun H1 s1 => k H1 s1⟩
instance sv_andV {ta tb : TE} {fa fb : En → Option D} [A : SV K n ta fa] [B' : SV K n tb fb] : SV K n (tAndV ta tb) (fun ρ => (fa ρ).bind fun | .sc (.bl true) => fb ρ | .sc (.bl false) => some (.sc (.bl false)) | _ => none) := ⟨fun {σ hv H U ρ τv τd d Q} I h k => by
  obtain ⟨x, h1, h2⟩ := Option.bind_eq_some_iff.mp h
  refine A.s I h1 fun v H1 s1 w1 => ?_
  split at h2
  · exact ⟨true, w1.scal, by rw [if_pos rfl]; exact B'.s (I.same s1) h2 fun v H2 s2 w => k v H2 (s1.trans s2) w⟩
  · cases h2; exact ⟨false, w1.scal, by rw [if_neg Bool.false_ne_true]; exact k _ H1 s1 (.sc _)⟩
  · cases h2⟩
instance sv_notV {ta : TE} {fa : En → Option D} [A : SV K n ta fa] : SV K n (tNotV ta) (fun ρ => (fa ρ).bind fun | .sc (.bl b) => some (.sc (.bl (!b))) | _ => none) := ⟨fun {σ hv H U ρ τv τd d Q} I h k => by
  obtain ⟨x, h1, h2⟩ := Option.bind_eq_some_iff.mp h
  refine A.s I h1 fun v H1 s1 w1 => ?_
  split at h2
  · next b => cases h2; exact ⟨b, w1.scal, k _ H1 s1 (.sc _)⟩
  · cases h2⟩
noncomputable def ifV (c : En → Option Bool) (a b : En → Option D) (ρ : En) : Option D := (c ρ).bind fun x => if x = true then a ρ else b ρ
instance sv_if {c : TT} {ta tb : TE} {fc : En → Option Bool} {fa fb : En → Option D} [C : SVT K n c fc] [A : SV K n ta fa] [B' : SV K n tb fb] : SV K n (tIf c ta tb) (ifV fc fa fb) := ⟨fun {σ hv H U ρ τv τd d Q} I h k => by
  obtain ⟨x, h1, h2⟩ := Option.bind_eq_some_iff.mp h
  refine C.s I h1 fun H1 s1 => ?_
  cases x with
  | true => rw [if_pos rfl]; exact A.s (I.same s1) h2 fun v H2 s2 w => k v H2 (s1.trans s2) w
  | false => rw [if_neg Bool.false_ne_true]; exact B'.s (I.same s1) h2 fun v H2 s2 w => k v H2 (s1.trans s2) w⟩
end
end VL
namespace VL
open PySem L2
noncomputable def posF (f : Str) : List Str → Option Nat
  | [] => none
  | g :: r => if f == g then some 0 else (posF f r).map (· + 1)
theorem posF_lookup {f : Str} : ∀ {ns : List Str} {vs : List V} {i : Nat}, posF f ns = some i → ns.length = vs.length → (ns.zip vs).lookup f = vs[i]?
  | [], _, _, h, _ => by cases h
  | g :: r, [], _, _, h => by cases h
  | g :: r, v :: vs, i, h, hl => by
    rw [posF] at h
    rw [List.zip_cons_cons, List.lookup_cons]
    by_cases c : (f == g) = true
    · rw [if_pos c] at h; cases h; rw [c]; rfl
    · rw [if_neg c] at h
      obtain ⟨j, h1, h2⟩ := Option.map_eq_some_iff.mp h
      subst h2
      rw [Bool.not_eq_true] at c
      rw [c]
      exact posF_lookup h1 (Nat.succ.inj hl)
theorem posF_lt {f : Str} : ∀ {ns : List Str} {i : Nat}, posF f ns = some i → i < ns.length
  | [], _, h => by cases h
  | g :: r, i, h => by
    rw [posF] at h
    by_cases c : (f == g) = true
    · rw [if_pos c] at h; cases h; exact Nat.succ_pos _
    · rw [if_neg c] at h
      obtain ⟨j, h1, h2⟩ := Option.map_eq_some_iff.mp h
      subst h2
      exact Nat.succ_lt_succ (posF_lt h1)
theorem posF_mem {f : Str} : ∀ {ns : List Str} {i : Nat}, posF f ns = some i → f ∈ ns
  | [], _, h => by cases h
  | g :: r, i, h => by
    rw [posF] at h
    by_cases c : (f == g) = true
    · have : f = g := by simpa using c
      rw [this]; exact .head _
    · rw [if_neg c] at h
      obtain ⟨j, h1, _⟩ := Option.map_eq_some_iff.mp h
      exact .tail _ (posF_mem h1)
theorem posF_put {f : Str} {y : V} : ∀ {ns : List Str} {vs : List V} {i : Nat}, posF f ns = some i → ns.length = vs.length → putF f y (ns.zip vs) = ns.zip (vs.set i y)
  | [], _, _, h, _ => by cases h
  | g :: r, [], _, _, h => by cases h
  | g :: r, v :: vs, i, h, hl => by
    rw [posF] at h
    rw [List.zip_cons_cons, putF]
    by_cases c : (f == g) = true
    · have e : g = f := by have : f = g := by simpa using c
                           exact this.symm
      rw [if_pos c] at h; cases h
      rw [if_pos e]; rfl
    · have ne : ¬ g = f := fun z => c (by rw [z]; simp)
      rw [if_neg c] at h
      obtain ⟨j, h1, h2⟩ := Option.map_eq_some_iff.mp h
      subst h2
      rw [if_neg ne, posF_put h1 (Nat.succ.inj hl)]
      rfl
theorem posF_new {f : Str} {y : V} : ∀ {ns : List Str} {vs : List V}, posF f ns = none → ns.length = vs.length → putF f y (ns.zip vs) = (ns ++ [f]).zip (vs ++ [y])
  | [], [], _, _ => rfl
  | [], _ :: _, _, h => by cases h
  | g :: r, [], _, h => by cases h
  | g :: r, v :: vs, h, hl => by
    rw [posF] at h
    rw [List.zip_cons_cons, putF]
    by_cases c : (f == g) = true
    · rw [if_pos c] at h; cases h
    · have ne : ¬ g = f := fun z => c (by rw [z]; simp)
      rw [if_neg c] at h
      rw [if_neg ne, posF_new (Option.map_eq_none_iff.mp h) (Nat.succ.inj hl)]
      rfl
section
variable {K : W.Frag} {n : Nat} {H H' : Hp} {U U' : Addr → Prop} {σ hv : List (Option V)} {ρ ρ' : En} {τv vs : List V} {τd ds : List D} {v : V} {d : D} {E : Ends}
noncomputable def fldI (f : Str) : D → Option Nat
  | .nd (.obj _ ns) _ => posF f ns
  | _ => none
noncomputable def kidD : D → Nat → Option D
  | .nd _ cs, i => cs[i]?
  | _, _ => none
noncomputable def fldD (f : Str) (d : D) : Option D := (fldI f d).bind (kidD d)
instance sv_fld {ta : TE} {fa : En → Option D} {f : Str} [A : SV K n ta fa] : SV K n (tFld K ta f) (fun ρ => (fa ρ).bind (fldD f)) := ⟨fun {σ hv H U ρ τv τd d Q} I h k => by
  obtain ⟨x, h1, h2⟩ := Option.bind_eq_some_iff.mp h
  obtain ⟨i, h3, h4⟩ := Option.bind_eq_some_iff.mp h2
  refine A.s I h1 fun v H1 s1 w1 => ?_
  unfold fldI at h3
  split at h3
  · next C ns cs =>
    obtain ⟨a, vs, rfl, _, ⟨⟨hl, hC, hA⟩, dx, hc⟩, hl2, kid⟩ := w1.node
    have h4 : cs[i]? = some d := h4
    obtain ⟨u, hu⟩ := sat_get hl2 h4
    exact ⟨a, C, dx, _, u, rfl, hc, hC, hA f (posF_mem h3), (posF_lookup h3 hl).trans hu, k u H1 s1 (kid i u d hu h4)⟩
  · cases h3⟩
noncomputable def plKid (ρ : En) (q : Pl) (i : Nat) : Option Pl := (plD ρ q).bind fun d => (kidD d i).bind fun c => match q with
  | .rt r p => if plain d = true then some (.ro c) else some (.rt r (p ++ [i]))
  | .ro _ => some (.ro c)
theorem getP_app : ∀ {p : List Nat} {d d1 : D} {i : Nat}, getP d p = some d1 → getP d (p ++ [i]) = getP d1 [i]
  | [], d, d1, i, g => by cases g; rfl
  | n :: p, .sc _, d1, i, g => by rw [getP] at g; cases g
  | n :: p, .hl _, d1, i, g => by rw [getP] at g; cases g
  | n :: p, .nd k cs, d1, i, g => by
    rw [getP] at g
    rw [List.cons_append, getP]
    by_cases hpl : imm k = true ∧ plainL cs = true
    · rw [if_pos hpl] at g; cases g
    rw [if_neg hpl] at g ⊢
    cases hc : cs[n]? with
    | none => rw [hc] at g; cases g
    | some c => rw [hc] at g; exact getP_app g
theorem PathV.app {u w : V} {p q : List Nat} (h : PathV H v p u) (h2 : PathV H u q w) : PathV H v (p ++ q) w := by
  induction h with
  | nil => exact h2
  | cons e1 e2 _ ih => exact .cons e1 e2 (ih h2)
theorem plain_imm {k : Kd} {cs : List D} (h : ¬ plain (.nd k cs) = true) : ¬ (imm k = true ∧ plainL cs = true) := fun ⟨a, b⟩ => by
  cases k with
  | tup => exact h b
  | frl => exact h b
  | _ => cases a
theorem Sit.kid {q q' : Pl} {i : Nat} (I : Sit K n H U σ hv ρ τv τd) (h : PlOk K H U (σ ++ hv) ρ v q) (hq : plKid ρ q i = some q') :
    ∃ (a : Addr) (k : Kd) (vs : List V) (cs : List D) (u : V) (c : D), v = .ref a ∧ plD ρ q = some (.nd k cs) ∧ Cell K H a k vs ∧ vs.length = cs.length ∧ vs[i]? = some u ∧ cs[i]? = some c ∧ PlOk K H U (σ ++ hv) ρ u q' ∧ plD ρ q' = some c := by
  obtain ⟨d, h1, h2⟩ := Option.bind_eq_some_iff.mp hq
  obtain ⟨c, h3, h4⟩ := Option.bind_eq_some_iff.mp h2
  cases d with
  | sc _ => cases h3
  | hl _ => cases h3
  | nd k cs =>
    have h3 : cs[i]? = some c := h3
    cases q with
    | ro d' =>
      cases h4
      cases h1
      obtain ⟨a, vs, rfl, _, hc, hl, kid⟩ := Vw.node (show Vw K H (fun b => ¬ U b) v (.nd k cs) from h)
      obtain ⟨u, hu⟩ := sat_get hl h3
      exact ⟨a, k, vs, cs, u, c, rfl, rfl, hc, hl, hu, h3, kid i u c hu h3, rfl⟩
    | rt r p =>
      have h4 : (if plain (.nd k cs) = true then some (Pl.ro c) else some (.rt r (p ++ [i]))) = some q' := h4
      by_cases pd : plain (.nd k cs) = true
      · rw [if_pos pd] at h4
        cases h4
        obtain ⟨a, vs, rfl, _, hc, hl, kid⟩ := (I.at h h1).node
        obtain ⟨u, hu⟩ := sat_get hl h3
        have pc : plain c = true := by
          cases k with
          | tup => exact plainL_get pd h3
          | frl => exact plainL_get pd h3
          | _ => cases pd
        exact ⟨a, k, vs, cs, u, c, rfl, h1, hc, hl, hu, h3, ((kid i u c hu h3).plain pc).view fun _ z => z.elim, rfl⟩
      · rw [if_neg pd] at h4
        cases h4
        obtain ⟨hr, vr, d0, er, hd0, hg, hp⟩ := h
        have h1' : (rootD ρ r).bind (getP · p) = some (.nd k cs) := h1
        rw [hd0] at h1'
        have h1' : getP d0 p = some (.nd k cs) := h1'
        have g2 : getP d0 (p ++ [i]) = some c := by
          rw [getP_app h1', getP, if_neg (plain_imm pd), h3]
          rfl
        obtain ⟨vr', F, ev, _, rp⟩ := I.rootV hd0
        rw [er] at ev; cases ev
        obtain ⟨F1, _, r1, _⟩ := rp.focus hp h1'
        obtain ⟨a, vs, rfl, ho, hl, Fs, _, _, kid⟩ := r1.node
        obtain ⟨u, hu⟩ := sat_get hl h3
        have hoo : ∃ o, H a = some o := by
          cases k with
          | tup => exact ⟨_, ho⟩
          | frl => exact absurd ⟨rfl, ho.1⟩ (plain_imm pd)
          | _ => obtain ⟨_, _, _, dx, x⟩ := ho; exact ⟨_, x⟩
        obtain ⟨o, eo⟩ := hoo
        have hp2 : PathV H vr (p ++ [i]) u := hp.app (.cons eo (by rw [ho.kids (plain_imm pd) eo]; exact hu) (.nil u))
        exact ⟨a, k, vs, cs, u, c, rfl, h1, ho.cell, hl, hu, h3, ⟨hr, vr, d0, er, hd0, by rw [g2]; rfl, hp2⟩, by show (rootD ρ r).bind (getP · (p ++ [i])) = some c; rw [hd0]; exact g2⟩
noncomputable def ixD (d i : D) : Option Nat := match d, i with
  | .nd .tup cs, .sc (.int j) => ixN cs.length j
  | .nd .lst cs, .sc (.int j) => ixN cs.length j
  | .nd .frl cs, .sc (.int j) => ixN cs.length j
  | _, _ => none
class IxD (K : W.Frag) (r : R2) (g : outParam (D → D → Option Nat)) (gs : outParam (V → D → Option V)) : Prop where
  t : ∀ {H : Hp} {x y w : V} {dy : D} {Q : VK}, Vw K H T1 y dy → gs x dy = some w → Q w H → r x y H Q
  s : ∀ {H : Hp} {a : Addr} {k : Kd} {vs : List V} {cs : List D} {y u : V} {dy : D} {i : Nat} {Q : VK}, Cell K H a k vs → vs.length = cs.length → Vw K H T1 y dy → g (.nd k cs) dy = some i → vs[i]? = some u → Q u H → r (.ref a) y H Q
noncomputable def ixV (g : D → D → Option Nat) (gs : V → D → Option V) (a b : D) : Option D := match a with
  | .sc x => (gs x b).map .sc
  | a => (g a b).bind (kidD a)
instance (priority := 900) sv_ix {r : R2} {ta tb : TE} {fa fb : En → Option D} {g : D → D → Option Nat} {gs : V → D → Option V} [A : SV K n ta fa] [B' : SV K n tb fb] [O : IxD K r g gs] : SV K n (tOp r ta tb) (op2 (ixV g gs) fa fb) := ⟨fun {σ hv H U ρ τv τd d Q} I h k => by
  obtain ⟨a, ha, h⟩ := Option.bind_eq_some_iff.mp h
  obtain ⟨b, hb, h⟩ := Option.bind_eq_some_iff.mp h
  refine A.s I ha fun x H1 s1 w1 => ?_
  refine B'.s (I.same s1) hb fun y H2 s2 w2 => ?_
  cases a with
  | sc z =>
    obtain ⟨w, h1, h2⟩ := Option.map_eq_some_iff.mp h
    subst h2
    rw [w1.scal]
    exact O.t w2 h1 (k w H2 (s1.trans s2) (.sc w))
  | hl _ =>
    obtain ⟨i, hi, h⟩ := Option.bind_eq_some_iff.mp h
    cases h
  | nd kk cs =>
    obtain ⟨i, hi, h⟩ := Option.bind_eq_some_iff.mp h
    have h : cs[i]? = some d := h
    obtain ⟨a, vs, rfl, _, hc, hl, kid⟩ := (w1.same s2).node
    obtain ⟨u, hu⟩ := sat_get hl h
    exact O.s hc hl w2 hi hu (k u H2 (s1.trans s2) (kid i u d hu h))⟩
noncomputable def ixP (g : D → D → Option Nat) (fa : En → Option Pl) (fb : En → Option D) (ρ : En) : Option Pl := (fa ρ).bind fun q => (fb ρ).bind fun b => (plD ρ q).bind fun d => (g d b).bind (plKid ρ q)
theorem PlOk.same {q : Pl} {e : List (Option V)} (h : PlOk K H U e ρ v q) (s : Same H H') : PlOk K H' U e ρ v q := by
  cases q with
  | ro d => exact Vw.same h s
  | rt r p =>
    obtain ⟨a, vr, d, b, c, e, f⟩ := h
    exact ⟨a, vr, d, b, c, e, f.same s⟩
instance sp_ix {r : R2} {ta tb : TE} {fa : En → Option Pl} {fb : En → Option D} {g : D → D → Option Nat} {gs : V → D → Option V} [A : SP K n ta fa] [B' : SV K n tb fb] [O : IxD K r g gs] : SP K n (tOp r ta tb) (ixP g fa fb) := ⟨fun {σ hv H U ρ τv τd q' Q} I h k => by
  obtain ⟨q, ha, h⟩ := Option.bind_eq_some_iff.mp h
  obtain ⟨b, hb, h⟩ := Option.bind_eq_some_iff.mp h
  obtain ⟨d, hd, h⟩ := Option.bind_eq_some_iff.mp h
  obtain ⟨i, hi, h⟩ := Option.bind_eq_some_iff.mp h
  refine A.s I ha fun x H1 s1 w1 => ?_
  refine B'.s (I.same s1) hb fun y H2 s2 w2 => ?_
  obtain ⟨a, kk, vs, cs, u, c, rfl, e1, hc, hl, hu, h5, ok, _⟩ := ((I.same s1).same s2).kid (w1.same s2) h
  rw [hd] at e1; cases e1
  exact O.s hc hl w2 hi hu (k u H2 (s1.trans s2) ok)⟩
noncomputable def ixS (x : V) (i : D) : Option V := match x, i with
  | .str z, .sc (.int j) => if z.length ≤ sizeLine then (atI z.cps.toList j).map fun c => .str ⟨#[c]⟩ else none
  | _, _ => none
theorem ixN_lt {m : Nat} {j : Int} {i : Nat} (h : ixN m j = some i) : i < m := by
  unfold ixN at h
  split at h
  · split at h
    · cases h; omega
    · cases h
  · split at h
    · cases h; omega
    · cases h
instance ix_seqD : IxD K (rIx K) ixD ixS where
  t := fun {H x y w dy Q} w2 h q => by
    unfold ixS at h
    split at h
    · next z j =>
      by_cases c : z.length ≤ sizeLine
      · rw [if_pos c] at h
        obtain ⟨ch, h1, h2⟩ := Option.map_eq_some_iff.mp h
        subst h2
        rw [w2.scal]
        exact .inr (.inr ⟨z, j, ch, rfl, rfl, c, h1, q⟩)
      · rw [if_neg c] at h; cases h
    · cases h
  s := fun {H a k vs cs y u dy i Q} hc hl w2 h hu q => by
    unfold ixD at h
    have at_ : ∀ j, ixN cs.length j = some i → atI vs j = some u := fun j e => by
      unfold atI
      rw [hl, e]
      exact hu
    split at h
    · next cs' j e =>
      cases e
      rw [w2.scal]
      exact .inr (.inl ⟨a, vs, j, u, rfl, rfl, SqT.of hc.2, at_ j h, q⟩)
    · next cs' j e =>
      cases e
      rw [w2.scal]
      exact .inl ⟨a, vs, j, u, rfl, rfl, .inl (.inl hc.2), at_ j h, q⟩
    · next cs' j e =>
      cases e
      rw [w2.scal]
      exact .inl ⟨a, vs, j, u, rfl, rfl, hc.2.sq, at_ j h, q⟩
    · cases h
class SQ (K : W.Frag) (n : Nat) (t : TE) (f : outParam (En → Option D)) : Prop where
  o : ∀ {σ hv : List (Option V)} {H : Hp} {U : Addr → Prop} {ρ : En} {τv : List V} {τd : List D} {d : D} {Q : VK}, Sit K n H U σ hv ρ τv τd → f ρ = some d → (∀ v H', Same H H' → Own K H H' v d → Q v H') → t σ H Q
theorem SQ.s {t : TE} {f : En → Option D} [S : SQ K n t f] {Q : VK} (I : Sit K n H U σ hv ρ τv τd) (h : f ρ = some d) (k : ∀ v H' U', Sit K n H' U' σ hv ρ (τv ++ [v]) (τd ++ [d]) → Stp U H U' H' → Same H H' → Q v H') : t σ H Q :=
  S.o I h fun v H' s o => by
    obtain ⟨U', I', st⟩ := I.push s o
    exact k v H' U' I' st s
instance (priority := 200) sq_of_sf {t : TE} {f : En → Option D} [S : SF K n t f] : SQ K n t f := ⟨fun I h k => S.s I h k⟩
noncomputable def plainQ (f : En → Option D) (ρ : En) : Option D := (f ρ).bind fun d => if plain d = true then some d else none
instance (priority := 100) sq_of_sv {t : TE} {f : En → Option D} [S : SV K n t f] : SQ K n t (plainQ f) := ⟨fun {σ hv H U ρ τv τd d Q} I h k => by
  obtain ⟨d', h1, h2⟩ := Option.bind_eq_some_iff.mp h
  by_cases p : plain d' = true
  · rw [if_pos p] at h2
    cases h2
    exact S.s I h1 fun v H' s w => k v H' s (Own.plain w p)
  · rw [if_neg p] at h2; cases h2⟩
noncomputable def nodeAt (ρ : En) (r : Nat) (p : List Nat) : Option (D × Kd × List D) := (rootD ρ r).bind fun d0 => (getP d0 p).bind fun
  | .nd k cs => some (d0, k, cs)
  | _ => none
theorem nodeAt_of {r : Nat} {p : List Nat} {d0 : D} {k : Kd} {cs : List D} (h : nodeAt ρ r p = some (d0, k, cs)) : rootD ρ r = some d0 ∧ getP d0 p = some (.nd k cs) := by
  obtain ⟨x, h1, h2⟩ := Option.bind_eq_some_iff.mp h
  obtain ⟨y, h3, h4⟩ := Option.bind_eq_some_iff.mp h2
  cases y with
  | sc _ => cases h4
  | hl _ => cases h4
  | nd k' cs' => cases h4; exact ⟨h1, h3⟩
open Classical in
noncomputable def fldPut (K : W.Frag) (f : Str) (k : Kd) (cs : List D) (d : D) : Option D := match k with
  | .obj C ns => if cs.length < 1000 then (match posF f ns with
    | some i => some (.nd (.obj C ns) (cs.set i d))
    | none => if NoAttr K C f then some (.nd (.obj C (ns ++ [f])) (cs ++ [d])) else none) else none
  | _ => none
noncomputable def fldF (K : W.Frag) (f : Str) (fv : En → Option (D × En)) (fp : En → Option Pl) (ρ : En) : Option Fl := (fv ρ).bind fun a => (fp a.2).bind fun
  | .rt r p => (nodeAt a.2 r p).bind fun z => (fldPut K f z.2.1 z.2.2 a.1).map fun d' => .nx (editE a.2 r z.1 p d')
  | .ro _ => none
theorem sel_set {α : Type} {xs : List α} {x : α} {i : Nat} (hi : i < xs.length) : ∀ (j : Nat) (y : α), (xs.set i x)[j]? = some y → (xs ++ [x])[if j = i then xs.length else j]? = some y := fun j y h => by
  by_cases c : j = i
  · subst c
    rw [List.getElem?_set_self hi] at h
    rw [if_pos rfl, List.getElem?_append_right (Nat.le_refl _), Nat.sub_self]
    exact h
  · rw [List.getElem?_set_ne (Ne.symm c)] at h
    rw [if_neg c, List.getElem?_append_left (List.getElem?_eq_some_iff.mp h).1]
    exact h
theorem sel_inj {i m : Nat} (hi : i < m) : ∀ a b, a < m → b < m → (if a = i then m else a) = (if b = i then m else b) → a = b := fun a b ha hb h => by
  by_cases c1 : a = i
  · by_cases c2 : b = i
    · omega
    · rw [if_pos c1, if_neg c2] at h; omega
  · by_cases c2 : b = i
    · rw [if_neg c1, if_pos c2] at h; omega
    · rw [if_neg c1, if_neg c2] at h; exact h
instance ss_fld {ta tv : TE} {f : Str} {fv : En → Option (D × En)} {fp : En → Option Pl} [A : SM K n tv fv] [P : SP K n ta fp] : SS K n (sFld K ta tv f) (fldF K f fv fp) := ⟨fun {σ hv H U ρ τv τd fl E} I h k => by
  obtain ⟨⟨d, ρ1⟩, h1, h⟩ := Option.bind_eq_some_iff.mp h
  obtain ⟨q, h2, h⟩ := Option.bind_eq_some_iff.mp h
  cases q with
  | ro _ => cases h
  | rt r p =>
    obtain ⟨⟨d0, kk, cs⟩, h3, h⟩ := Option.bind_eq_some_iff.mp h
    obtain ⟨d', h4, h⟩ := Option.map_eq_some_iff.mp h
    subst h
    obtain ⟨hr, hg⟩ := nodeAt_of h3
    refine A.s I h1 fun y H1 U1 I1 st1 => ?_
    refine P.s I1 h2 fun x H2 s2 w2 => ?_
    have I2 := I1.same s2
    have stS : Stp U1 H1 U1 H2 := fun b o q nu => ⟨s2 b o q, nu⟩
    unfold fldPut at h4
    split at h4
    · next C ns e =>
      have e : kk = .obj C ns := e
      subst e
      by_cases c : cs.length < 1000
      · rw [if_pos c] at h4
        obtain ⟨a, dx, vs, rfl, ha, hf, hl, _, ed⟩ := Sit.edit (xs := [y]) (ds := [d]) I2 rfl w2 hr hg rfl
        obtain ⟨hf1, hC, hA⟩ := hf
        split at h4
        · next i e2 =>
          cases h4
          have hi : i < vs.length := by rw [← hf1]; exact posF_lt e2
          refine ⟨a, C, dx, _, rfl, ha, hC, hA f (posF_mem e2), by rw [List.length_zip]; omega, ?_⟩
          rw [posF_put e2 hf1]
          obtain ⟨U3, I3, st3⟩ := ed (.obj C ns) (vs.set i y) (cs.set i d) (fun j => if j = i then vs.length else j) rfl ⟨by rw [List.length_set]; exact hf1, hC, hA⟩ (by rw [List.length_set, List.length_set]; exact hl)
            (fun x z hx hz => sel_inj hi x z (by rw [List.length_set] at hx; exact hx) (by rw [List.length_set] at hz; exact hz)) (sel_set hi) (by rw [hl]; exact sel_set (by omega))
          exact k σ _ U3 I3 (st1.trans (stS.trans st3))
        · next e2 =>
          by_cases cn : NoAttr K C f
          · rw [if_pos cn] at h4
            cases h4
            refine ⟨a, C, dx, _, rfl, ha, hC, cn, by rw [List.length_zip]; omega, ?_⟩
            rw [posF_new e2 hf1]
            obtain ⟨U3, I3, st3⟩ := ed (.obj C (ns ++ [f])) (vs ++ [y]) (cs ++ [d]) id rfl ⟨by simp; exact hf1, hC, fun g hg => by
              rcases List.mem_append.mp hg with z | z
              · exact hA g z
              · rw [List.mem_singleton.mp z]; exact cn⟩ (by simp; exact hl) (fun x z _ _ h => h) (fun j x h => h) fun j x h => h
            exact k σ _ U3 I3 (st1.trans (stS.trans st3))
          · rw [if_neg cn] at h4; cases h4
      · rw [if_neg c] at h4; cases h4
    · cases h4⟩
noncomputable def lstEd (ρ : En) (r : Nat) (p : List Nat) (g : List D → Option (List D)) : Option En := (nodeAt ρ r p).bind fun z => match z.2.1 with
  | .lst => (g z.2.2).map fun cs' => editE ρ r z.1 p (.nd .lst cs')
  | _ => none
noncomputable def appD (d : D) (cs : List D) : Option (List D) := if cs.length < sizeLine then some (cs ++ [d]) else none
noncomputable def appF (fp : En → Option Pl) (fe : En → Option D) (ρ : En) : Option (D × En) := (fp ρ).bind fun
  | .rt r p => (fe ρ).bind fun d => (lstEd ρ r p (appD d)).map fun ρ' => (.sc .non, ρ')
  | .ro _ => none
noncomputable def appM (fp : En → Option Pl) (fe : En → Option (D × En)) (ρ : En) : Option (D × En) := (fp ρ).bind fun
  | .rt r p => if p = [] then (match rootD ρ r with
    | some (.nd .lst _) => (fe ρ).bind fun a => (lstEd a.2 r [] (appD a.1)).map fun ρ' => (.sc .non, ρ')
    | _ => none) else none
  | .ro _ => none
theorem tyV_list {p : Addr} {xs : List V} (h : H p = some (.lst xs)) : tyV K "list" (.ref p) H := .inl ⟨rfl, xs, .inl (.inl h)⟩
theorem Sit.append {r : Nat} {p : List Nat} {x y : V} {ρ2 : En} {Q : VK} (I : Sit K n H U σ hv ρ (τv ++ [y]) (τd ++ [d])) (w : PlOk K H U (σ ++ hv) ρ x (.rt r p)) (h : lstEd ρ r p (appD d) = some ρ2)
    (k : ∀ v H' U', Sit K n H' U' σ hv ρ2 (τv ++ [v]) (τd ++ [.sc .non]) → Stp U H U' H' → Q v H') : tyV K "list" x H ∧ rAppend x [y] H Q := by
  obtain ⟨⟨d0, kk, cs⟩, h3, h⟩ := Option.bind_eq_some_iff.mp h
  obtain ⟨hr, hg⟩ := nodeAt_of h3
  split at h
  · next e =>
    have e : kk = .lst := e
    subst e
    obtain ⟨cs', h4, h⟩ := Option.map_eq_some_iff.mp h
    subst h
    unfold appD at h4
    have h4 : (if cs.length < sizeLine then some (cs ++ [d]) else none) = some cs' := h4
    by_cases c : cs.length < sizeLine
    · rw [if_pos c] at h4
      cases h4
      obtain ⟨a, dx, vs, rfl, ha, hf, hl, _, ed⟩ := Sit.edit (xs := [y]) (ds := [d]) I rfl w hr hg rfl
      obtain ⟨U3, I3, st3⟩ := ed .lst (vs ++ [y]) (cs ++ [d]) id rfl trivial (by simp; exact hl) (fun x z _ _ h => h) (fun j x h => h) fun j x h => h
      obtain ⟨U4, I4, st4⟩ := I3.push (Same.refl _) (Own.sc (K := K) .non)
      exact ⟨tyV_list ha, a, vs, y, rfl, rfl, ha, by omega, k _ _ U4 I4 (st3.trans st4)⟩
    · rw [if_neg c] at h4; cases h4
  · cases h
theorem PlOk.root {r : Nat} {ρ2 : En} {e : List (Option V)} (h : PlOk K H U e ρ v (.rt r [])) (hd : rootD ρ2 r = some d) : PlOk K H' U' e ρ2 v (.rt r []) := by
  obtain ⟨_, vr, d0, er, _, _, hp⟩ := h
  cases hp
  exact ⟨(List.getElem?_eq_some_iff.mp (rootD_of hd)).1, v, d, er, hd, rfl, .nil v⟩
instance (priority := 600) sm_append {to te : TE} {fp : En → Option Pl} {fe : En → Option D} [P : SP K n to fp] [A : SQ K n te fe] : SM K n (tBM K "list" rAppend to (tCons te tNil)) (appF fp fe) := ⟨fun {σ hv H U ρ ρ' τv τd d Q} I h k => by
  obtain ⟨q, h1, h⟩ := Option.bind_eq_some_iff.mp h
  cases q with
  | ro _ => cases h
  | rt r p =>
    obtain ⟨d1, h2, h⟩ := Option.bind_eq_some_iff.mp h
    obtain ⟨ρ2, h3, h⟩ := Option.map_eq_some_iff.mp h
    cases h
    refine P.s I h1 fun x H1 s1 w1 => ?_
    have I1 := I.same s1
    have stS : Stp U H U H1 := fun b o q nu => ⟨s1 b o q, nu⟩
    -- what kind of thing it is, ahead of the argument
    obtain ⟨⟨d0, kk, cs⟩, h4, h5⟩ := Option.bind_eq_some_iff.mp h3
    obtain ⟨hr, hg⟩ := nodeAt_of h4
    have hty : tyV K "list" x H1 := by
      split at h5
      · next e =>
        have e : kk = .lst := e
        subst e
        obtain ⟨a, vs, rfl, _, hc, _, _⟩ := (I1.at (q := .rt r p) (d := .nd .lst cs) w1 (by show (rootD ρ r).bind _ = _; rw [hr]; exact hg)).node
        exact tyV_list hc.2
      · cases h5
    refine ⟨hty, SQ.s (f := fe) I1 h2 fun y H2 U2 I2 st2 s2 => ?_⟩
    have w2 : PlOk K H2 U2 (σ ++ hv) ρ x (.rt r p) := by
      obtain ⟨a, vr, d, b, c, e, f⟩ := w1
      exact ⟨a, vr, d, b, c, e, f.same s2⟩
    exact (I2.append w2 h3 fun v H3 U3 I3 st3 => k v H3 U3 I3 (stS.trans (st2.trans st3))).2⟩
instance (priority := 500) sm_appendM {to te : TE} {fp : En → Option Pl} {fe : En → Option (D × En)} [P : SP K n to fp] [A : SM K n te fe] : SM K n (tBM K "list" rAppend to (tCons te tNil)) (appM fp fe) := ⟨fun {σ hv H U ρ ρ' τv τd d Q} I h k => by
  obtain ⟨q, h1, h⟩ := Option.bind_eq_some_iff.mp h
  cases q with
  | ro _ => cases h
  | rt r p =>
    by_cases cp : p = []
    · subst cp
      have h : (match rootD ρ r with | some (.nd .lst _) => (fe ρ).bind fun a => (lstEd a.2 r [] (appD a.1)).map fun ρ' => (D.sc .non, ρ') | _ => none) = some (d, ρ') := h
      split at h
      · next cs0 e0 =>
        obtain ⟨⟨d1, ρ1⟩, h2, h⟩ := Option.bind_eq_some_iff.mp h
        obtain ⟨ρ2, h3, h⟩ := Option.map_eq_some_iff.mp h
        cases h
        refine P.s I h1 fun x H1 s1 w1 => ?_
        have I1 := I.same s1
        have stS : Stp U H U H1 := fun b o q nu => ⟨s1 b o q, nu⟩
        obtain ⟨a, vs, rfl, _, hc, _, _⟩ := (I1.at (q := .rt r []) (d := .nd .lst cs0) w1 (by show (rootD ρ r).bind _ = _; rw [e0]; rfl)).node
        refine ⟨tyV_list hc.2, A.s I1 h2 fun y H2 U2 I2 st2 => ?_⟩
        obtain ⟨⟨d0, kk, cs⟩, h4, h5⟩ := Option.bind_eq_some_iff.mp h3
        have w2 : PlOk K H2 U2 (σ ++ hv) ρ1 (.ref a) (.rt r []) := w1.root (nodeAt_of h4).1
        exact (I2.append w2 h3 fun v H3 U3 I3 st3 => k v H3 U3 I3 (stS.trans (st2.trans st3))).2
      · cases h
    · have h : (if p = [] then _ else none) = some (d, ρ') := h
      rw [if_neg cp] at h; cases h⟩
end
end VL
namespace VL
open PySem L2
noncomputable def start' (n : Nat) (vs : List V) : St := vs.map some ++ List.replicate (n - vs.length) none
section
variable {K : W.Frag} {n : Nat} {H H' : Hp} {U U' : Addr → Prop} {m : Nat} {e t ws : List (Option V)} {τ ωs : En} {σ hv : List (Option V)} {ρ ρ' : En} {τv vs : List V} {τd ds : List D} {v : V} {d : D} {E : XK}
noncomputable def spP (K : W.Frag) (m : Nat) (G : List D → Option D) : Sp := fun vs H Q _ => ∃ (ds : List D) (d : D), ds.length = m ∧ VwL K H T1 vs ds ∧ G ds = some d ∧ ∀ v H', Same H H' → Own K H H' v d → Q v H'
instance sf_call {ta : TA} {fa : En → Option (List D)} {G : List D → Option D} {m : Nat} [A : SA K n ta fa] : SF K n (tCall (spP K m G) [] E ta) (fun ρ => (fa ρ).bind fun ds => if ds.length = m then G ds else none) := ⟨fun {σ hv H U ρ τv τd d Q} I h k => by
  obtain ⟨ds, h1, h2⟩ := Option.bind_eq_some_iff.mp h
  by_cases c : ds.length = m
  · rw [if_pos c] at h2
    refine A.s I h1 fun vs H1 s1 w1 => ?_
    show spP K m G (vs ++ []) H1 Q E
    rw [List.append_nil]
    exact ⟨ds, d, c, w1, h2, fun v H' s o => k v H' (s1.trans s) (o.early s1)⟩
  · rw [if_neg c] at h2; cases h2⟩
noncomputable def bodyP (n : Nat) (f : En → Option Fl) (ds : List D) : Option D := match f (ds.map (fun d => some (.ro d)) ++ List.replicate (n - ds.length) none) with
  | some (.rt d _) => some d
  | some (.nx _) => some (.sc .non)
  | _ => none
theorem VwL.get {N : Addr → Prop} (h : VwL K H N vs ds) {i : Nat} {d : D} (hd : ds[i]? = some d) : ∃ v, vs[i]? = some v ∧ Vw K H N v d := by
  obtain ⟨v, hv⟩ := sat_get h.1 hd
  exact ⟨v, hv, h.2 i v d hv hd⟩
theorem pure_fn {t : TS} {f : En → Option Fl} {m : Nat} {Q : VK} {X : XK} [S : SS K n t f] (h : spP K m (bodyP n f) vs H Q X) (hm : m ≤ n) : t { nx := fun _ H' => Q .non H', rt := Q } (start' n vs) H := by
  obtain ⟨ds, d, hd, w, hG, k⟩ := h
  have hl := w.1
  have rp : ∀ (i : Nat) (β : B), (ds.map (fun d => some (B.ro d)) ++ List.replicate (n - ds.length) none)[i]? = some (some β) → ∃ d, ds[i]? = some d ∧ β = .ro d := fun i β h => by
    by_cases hi : i < ds.length
    · rw [List.getElem?_append_left (by simpa using hi), List.getElem?_map] at h
      cases q : ds[i]? with
      | none => rw [q] at h; cases h
      | some x => rw [q] at h; cases h; exact ⟨x, rfl, rfl⟩
    · rw [List.getElem?_append_right (by simp; omega), List.getElem?_replicate] at h
      split at h <;> cases h
  have I : Sit K n H (fun _ => False) (start' n vs) [] (ds.map (fun d => some (.ro d)) ++ List.replicate (n - ds.length) none) [] [] := by
    refine ⟨⟨by unfold start'; simp [hl], fun b z => z.elim, fun _ _ => False, fun i j b z => z.elim, fun i b z => z.elim, fun i β hβ => ?_⟩, by unfold start'; simp [hl], by unfold start'; simp; omega⟩
    rw [List.map_nil, List.append_nil] at hβ
    obtain ⟨x, hx, rfl⟩ := rp i β hβ
    obtain ⟨v, hv, vw⟩ := w.get hx
    refine ⟨v, ?_, vw.mono fun _ _ z => z⟩
    rw [List.map_nil, List.append_nil, List.append_nil]
    unfold start'
    rw [List.getElem?_append_left (by simpa using (List.getElem?_eq_some_iff.mp hv).1), List.getElem?_map, hv]
    rfl
  have fin : ∀ {ρ' : En} {v : V} {σ' : List (Option V)} {H' : Hp} {U' : Addr → Prop}, Sit K n H' U' σ' [] ρ' [v] [d] → Stp (fun _ => False) H U' H' → Q v H' := fun {ρ' v σ' H' U'} J st => by
    refine k v H' (fun b o q => (st b o q fun z => z).1) ?_
    obtain ⟨_, mu, Fs, dj, sub, sl⟩ := J.ok
    have l := J.len
    obtain ⟨v', ev, sv⟩ := sl ρ'.length (.own d) (by simp)
    have : v' = v := by
      rw [List.getElem?_append_right (by simp at l ⊢; omega)] at ev
      simp at ev l
      rw [show ρ'.length - σ'.length = 0 by omega] at ev
      simp at ev; exact ev.symm
    subst this
    refine ⟨_, sv, fun b z => ⟨?_, mu b (sub _ b z)⟩⟩
    cases q : H b with
    | none => rfl
    | some o => exact absurd (sub _ b z) (st b o q fun z => z).2
  unfold bodyP at hG
  split at hG
  · next d' ρ' e =>
    cases hG
    exact S.s I e fun v σ' H' U' J st => fin J st
  · next ρ' e =>
    cases hG
    refine S.s I e fun σ' H' U' J st => ?_
    obtain ⟨U2, J2, st2⟩ := J.push (Same.refl H') (Own.sc (K := K) .non)
    exact fin J2 (st.trans st2)
  · cases hG
noncomputable def ioL {α : Type} : List Bool → List α → List α
  | true :: m, x :: r => x :: ioL m r
  | false :: m, _ :: r => ioL m r
  | _, _ => []
noncomputable def spI (K : W.Frag) (mask : List Bool) (G : List D → Option (D × List D)) : Sp := fun vs H Q _ => vs.length = mask.length ∧ ∃ (ds : List D) (U : Addr → Prop) (d : D) (outs : List D), ds.length = mask.length ∧ EnvOk K H U 0 ((ioL mask vs).map some) (owns (ioL mask ds)) ∧
  (∀ (i : Nat) (v : V) (d : D), mask[i]? = some false → vs[i]? = some v → ds[i]? = some d → Vw K H (fun b => ¬ U b) v d) ∧ G ds = some (d, outs) ∧
  ∀ v H' U', EnvOk K H' U' 0 (some v :: (ioL mask vs).map some) (some (.own d) :: owns outs) → Stp U H U' H' → Q v H'
noncomputable def parB (n : Nat) : Nat → List Bool → List D → En
  | j, true :: m, _ :: r => some (.ali (n + j) []) :: parB n (j + 1) m r
  | j, false :: m, d :: r => some (.ro d) :: parB n j m r
  | _, _, _ => []
noncomputable def allOwn : En → Option (List D)
  | [] => some []
  | some (.own d) :: r => (allOwn r).map (d :: ·)
  | _ => none
theorem allOwn_of : ∀ {ρ : En} {ds : List D}, allOwn ρ = some ds → ρ = owns ds
  | [], ds, h => by cases h; rfl
  | some (.own d) :: r, ds, h => by
    rw [allOwn] at h
    obtain ⟨x, h1, h2⟩ := Option.map_eq_some_iff.mp h
    subst h2
    rw [allOwn_of h1]; rfl
  | none :: r, ds, h => by simp [allOwn] at h
  | some (.ro d) :: r, ds, h => by simp [allOwn] at h
  | some (.ali _ _) :: r, ds, h => by simp [allOwn] at h
noncomputable def envI (n : Nat) (mask : List Bool) (ds : List D) : En := parB n 0 mask ds ++ List.replicate (n - mask.length) none ++ owns (ioL mask ds)
noncomputable def bodyI (n : Nat) (mask : List Bool) (f : En → Option Fl) (ds : List D) : Option (D × List D) := match f (envI n mask ds) with
  | some (.rt d ρ') => (allOwn (ρ'.drop n)).map fun o => (d, o)
  | some (.nx ρ') => (allOwn (ρ'.drop n)).map fun o => (.sc .non, o)
  | _ => none
theorem parB_len (n : Nat) : ∀ (j : Nat) {mask : List Bool} {ds : List D}, ds.length = mask.length → (parB n j mask ds).length = mask.length
  | j, [], [], _ => rfl
  | j, [], _ :: _, h => by cases h
  | j, _ :: _, [], h => by cases h
  | j, true :: m, _ :: r, h => by rw [parB, List.length_cons, parB_len n (j + 1) (Nat.succ.inj h)]; rfl
  | j, false :: m, _ :: r, h => by rw [parB, List.length_cons, parB_len n j (Nat.succ.inj h)]; rfl
theorem ioL_len {α β : Type} : ∀ {mask : List Bool} {xs : List α} {ys : List β}, xs.length = mask.length → ys.length = mask.length → (ioL mask xs).length = (ioL mask ys).length
  | [], [], [], _, _ => rfl
  | [], _ :: _, _, h, _ => by cases h
  | [], _, _ :: _, _, h => by cases h
  | _ :: _, [], _, h, _ => by cases h
  | _ :: _, _, [], _, h => by cases h
  | true :: m, x :: xs, y :: ys, h, h' => by rw [ioL, ioL, List.length_cons, List.length_cons, ioL_len (Nat.succ.inj h) (Nat.succ.inj h')]
  | false :: m, x :: xs, y :: ys, h, h' => by rw [ioL, ioL, ioL_len (Nat.succ.inj h) (Nat.succ.inj h')]
theorem parB_get (n : Nat) : ∀ (j : Nat) {mask : List Bool} {ds : List D} {vs : List V} {i : Nat} {β : B}, ds.length = mask.length → vs.length = mask.length → (parB n j mask ds)[i]? = some (some β) →
    (∃ d, β = .ro d ∧ mask[i]? = some false ∧ ds[i]? = some d) ∨ ∃ j' v, β = .ali (n + j') [] ∧ j ≤ j' ∧ (ioL mask vs)[j' - j]? = some v ∧ vs[i]? = some v
  | j, [], _, _, _, _, _, _, h => by simp [parB] at h
  | j, _ :: _, [], _, _, _, h, _, _ => by cases h
  | j, _ :: _, _, [], _, _, _, h, _ => by cases h
  | j, true :: m, d :: ds, v :: vs, 0, β, h1, h2, h => by
    rw [parB] at h
    cases h
    exact .inr ⟨j, v, rfl, Nat.le_refl _, by rw [Nat.sub_self, ioL]; rfl, rfl⟩
  | j, true :: m, d :: ds, v :: vs, i + 1, β, h1, h2, h => by
    rw [parB] at h
    rcases parB_get n (j + 1) (mask := m) (ds := ds) (vs := vs) (i := i) (Nat.succ.inj h1) (Nat.succ.inj h2) (by simpa using h) with ⟨x, a, b, c⟩ | ⟨j', x, a, b, c, e⟩
    · exact .inl ⟨x, a, by simpa using b, by simpa using c⟩
    · refine .inr ⟨j', x, a, by omega, ?_, by simpa using e⟩
      rw [ioL, show j' - j = (j' - (j + 1)) + 1 by omega]
      simpa using c
  | j, false :: m, d :: ds, v :: vs, 0, β, h1, h2, h => by
    rw [parB] at h
    cases h
    exact .inl ⟨d, rfl, rfl, rfl⟩
  | j, false :: m, d :: ds, v :: vs, i + 1, β, h1, h2, h => by
    rw [parB] at h
    rcases parB_get n j (mask := m) (ds := ds) (vs := vs) (i := i) (Nat.succ.inj h1) (Nat.succ.inj h2) (by simpa using h) with ⟨x, a, b, c⟩ | ⟨j', x, a, b, c, e⟩
    · exact .inl ⟨x, a, by simpa using b, by simpa using c⟩
    · exact .inr ⟨j', x, a, b, by rw [ioL]; exact c, by simpa using e⟩
theorem EnvOk.tail (h : EnvOk K H U m (e ++ t) (ρ ++ τ)) (hl : e.length = ρ.length) (hτ : noAli τ) : ∃ Ut : Addr → Prop, (∀ b, Ut b → U b) ∧ EnvOk K H Ut 0 t τ := by
  obtain ⟨hlen, mu, Fs, dj, sub, sl⟩ := h
  rw [List.length_append, List.length_append] at hlen
  refine ⟨fun b => ∃ i, e.length ≤ i ∧ Fs i b, fun b ⟨i, _, z⟩ => sub i b z, ⟨by omega, fun b ⟨i, _, z⟩ => mu b (sub i b z), fun i => Fs (e.length + i), fun i j b hi hj => by have := dj _ _ b hi hj; omega, fun i b hb => ⟨_, by omega, hb⟩, fun i β hβ => ?_⟩⟩
  have hβ' : (ρ ++ τ)[e.length + i]? = some (some β) := by
    rw [hl, List.getElem?_append_right (by omega), show ρ.length + i - ρ.length = i by omega]
    exact hβ
  obtain ⟨v, ev, sv⟩ := sl _ _ hβ'
  rw [List.getElem?_append_right (by omega), show e.length + i - e.length = i by omega] at ev
  refine ⟨v, ev, ?_⟩
  cases β with
  | own d => exact sv
  | ro d => exact Vw.mono sv fun b nb ⟨j, _, z⟩ => nb (sub j b z)
  | ali r p => exact absurd rfl (hτ _ (List.mem_of_getElem? hβ) r p)
theorem EnvOk.pick {vs' : List V} {ds' : List D} (h : EnvOk K H U 0 (vs.map some) (owns ds)) (hl : vs'.length = ds'.length) (π : Nat → Nat) (inj : ∀ i j, i < vs'.length → j < vs'.length → π i = π j → i = j)
    (hv : ∀ (i : Nat) (x : V), vs'[i]? = some x → vs[π i]? = some x) (hd : ∀ (i : Nat) (x : D), ds'[i]? = some x → ds[π i]? = some x) : EnvOk K H U 0 (vs'.map some) (owns ds') := by
  obtain ⟨hlen, mu, Fs, dj, sub, sl⟩ := h
  refine ⟨by unfold owns; rw [List.length_map, List.length_map]; exact hl, mu, fun i b => i < vs'.length ∧ Fs (π i) b, fun i j b hi hj => inj i j hi.1 hj.1 (dj _ _ b hi.2 hj.2), fun i b hb => sub _ b hb.2, fun i β hβ => ?_⟩
  unfold owns at hβ
  rw [List.getElem?_map] at hβ
  cases q : ds'[i]? with
  | none => rw [q] at hβ; cases hβ
  | some x =>
    rw [q] at hβ
    cases hβ
    obtain ⟨u, hu⟩ := sat_get hl q
    obtain ⟨v, ev, sv⟩ := sl (π i) (.own x) (by unfold owns; rw [List.getElem?_map, hd i x q]; rfl)
    rw [List.getElem?_map, hv i u hu] at ev
    cases ev
    exact ⟨u, by rw [List.getElem?_map, hu]; rfl, Rep.mono sv fun b z => ⟨(List.getElem?_eq_some_iff.mp hu).1, z⟩⟩
theorem rot_get {α : Type} {xs : List α} {x : α} : ∀ (i : Nat) (y : α), (x :: xs)[i]? = some y → (xs ++ [x])[if i = 0 then xs.length else i - 1]? = some y := fun i y h => by
  cases i with
  | zero => simp at h ⊢; exact h
  | succ i =>
    have h : xs[i]? = some y := by simpa using h
    rw [if_neg (Nat.succ_ne_zero i), Nat.add_sub_cancel, List.getElem?_append_left (List.getElem?_eq_some_iff.mp h).1]
    exact h
theorem EnvOk.rot (h : EnvOk K H U 0 ((vs ++ [v]).map some) (owns (ds ++ [d]))) : EnvOk K H U 0 ((v :: vs).map some) (owns (d :: ds)) := by
  have hl : vs.length = ds.length := by have := h.len; unfold owns at this; simp at this; omega
  refine h.pick (by simp [hl]) (fun i => if i = 0 then vs.length else i - 1) (fun i j hi hj q => ?_) rot_get (by rw [hl]; exact rot_get)
  rw [List.length_cons] at hi hj
  by_cases c1 : i = 0
  · by_cases c2 : j = 0
    · omega
    · simp only [if_pos c1, if_neg c2] at q; omega
  · by_cases c2 : j = 0
    · simp only [if_neg c1, if_pos c2] at q; omega
    · simp only [if_neg c1, if_neg c2] at q; omega
theorem io_fn {t : TS} {f : En → Option Fl} {mask : List Bool} {Q : VK} {X : XK} [S : SS K n t f] (h : spI K mask (bodyI n mask f) vs H Q X) (hm : mask.length ≤ n) : t { nx := fun _ H' => Q .non H', rt := Q } (start' n vs) H := by
  obtain ⟨hv, ds, U, d, outs, hd, ok, vw, hG, k⟩ := h
  have l1 := parB_len n 0 (mask := mask) (ds := ds) hd
  have l2 := ioL_len (mask := mask) hv hd
  have lE : (envI n mask ds).length = n + (ioL mask ds).length := by
    unfold envI owns
    rw [List.length_append, List.length_append, l1, List.length_replicate, List.length_map]
    omega
  have sL : (start' n vs).length = n := by unfold start'; simp; omega
  have I : Sit K n H U (start' n vs) ((ioL mask vs).map some) (envI n mask ds) [] [] := by
    obtain ⟨ol, mu, Fs, dj, sub, sl⟩ := ok
    refine ⟨⟨by rw [List.map_nil, List.map_nil, List.append_nil, List.append_nil, List.length_append, sL, lE, List.length_map, l2], mu, fun i b => n ≤ i ∧ Fs (i - n) b, fun i j b hi hj => by have := dj _ _ b hi.2 hj.2; omega, fun i b hb => sub _ b hb.2, fun i β hβ => ?_⟩, by rw [sL, List.length_map, l2, lE], sL⟩
    rw [List.map_nil, List.append_nil] at hβ
    rw [List.map_nil, List.append_nil]
    by_cases hi : i < n
    · have hβ1 : (parB n 0 mask ds ++ List.replicate (n - mask.length) none)[i]? = some (some β) := by
        unfold envI at hβ
        rw [List.getElem?_append_left (by rw [List.length_append, l1, List.length_replicate]; omega)] at hβ
        exact hβ
      by_cases hi2 : i < mask.length
      · rw [List.getElem?_append_left (by omega)] at hβ1
        have sv : ∀ v, vs[i]? = some v → (start' n vs ++ (ioL mask vs).map some)[i]? = some (some v) := fun v q => by
          rw [List.getElem?_append_left (by omega)]
          unfold start'
          rw [List.getElem?_append_left (by simp; omega), List.getElem?_map, q]; rfl
        rcases parB_get n 0 (vs := vs) hd hv hβ1 with ⟨x, rfl, b, c⟩ | ⟨j', x, rfl, _, c, q⟩
        · obtain ⟨v, hvv⟩ := sat_get (vs := vs) (by omega) c
          exact ⟨v, sv v hvv, vw i v x b hvv c⟩
        · refine ⟨x, sv x q, ?_, x, ?_, .nil x⟩
          · have := (List.getElem?_eq_some_iff.mp c).1
            rw [lE]
            omega
          · rw [List.getElem?_append_right (by omega), sL, List.getElem?_map, show n + j' - n = j' - 0 by omega, c]; rfl
      · rw [List.getElem?_append_right (by omega), List.getElem?_replicate] at hβ1
        split at hβ1 <;> cases hβ1
    · have hβ2 : (owns (ioL mask ds))[i - n]? = some (some β) := by
        unfold envI at hβ
        rw [List.getElem?_append_right (by rw [List.length_append, l1, List.length_replicate]; omega)] at hβ
        rw [List.length_append, l1, List.length_replicate, show mask.length + (n - mask.length) = n by omega] at hβ
        exact hβ
      obtain ⟨v, ev, sv⟩ := sl _ β hβ2
      refine ⟨v, by rw [List.getElem?_append_right (by omega), sL]; exact ev, ?_⟩
      cases β with
      | own x => exact Rep.mono sv fun b z => ⟨by omega, z⟩
      | ro x => exact sv
      | ali r p => exact absurd rfl (owns_noAli _ _ (List.mem_of_getElem? hβ2) r p)
  have fin : ∀ {ρ' : En} {v : V} {σ' : List (Option V)} {H' : Hp} {U' : Addr → Prop}, Sit K n H' U' σ' ((ioL mask vs).map some) ρ' [v] [d] → allOwn (ρ'.drop n) = some outs → Stp U H U' H' → Q v H' := fun {ρ' v σ' H' U'} J ho st => by
    have eo := allOwn_of ho
    have ln := J.len
    have nn := J.nn
    have er : ρ' = ρ'.take n ++ owns outs := by rw [← eo, List.take_append_drop]
    have okJ := J.ok
    have lt : σ'.length = (ρ'.take n).length := by rw [List.length_take]; omega
    -- first the names go, then the last one comes to the front
    have okJ : EnvOk K H' U' ρ'.length (σ' ++ ((ioL mask vs).map some ++ [some v])) (ρ'.take n ++ (owns outs ++ [some (.own d)])) := by
      rw [← List.append_assoc, ← List.append_assoc, ← er]; exact okJ
    obtain ⟨Ut, su, ot⟩ := okJ.tail lt fun b hb q p => by
      rcases List.mem_append.mp hb with z | z
      · exact owns_noAli outs b z q p
      · rw [List.mem_singleton.mp z]; exact fun w => nomatch w
    have ot' : EnvOk K H' Ut 0 ((ioL mask vs ++ [v]).map some) (owns (outs ++ [d])) := by
      unfold owns at ot ⊢
      rw [List.map_append, List.map_append]; exact ot
    refine k v H' Ut ot'.rot fun b o q nu => ⟨(st b o q nu).1, fun z => (st b o q nu).2 (su b z)⟩
  unfold bodyI at hG
  split at hG
  · next d' ρ' q =>
    obtain ⟨o, h1, h2⟩ := Option.map_eq_some_iff.mp hG
    cases h2
    exact S.s I q fun v σ' H' U' J st => fin J h1 st
  · next ρ' q =>
    obtain ⟨o, h1, h2⟩ := Option.map_eq_some_iff.mp hG
    cases h2
    refine S.s I q fun σ' H' U' J st => ?_
    obtain ⟨U2, J2, st2⟩ := J.push (Same.refl H') (Own.sc (K := K) .non)
    exact fin J2 h1 (st.trans st2)
  · cases hG
end
end VL
namespace VL
open PySem L2
section
variable {K : W.Frag} {n : Nat} {H H' : Hp} {U U' : Addr → Prop} {σ hv : List (Option V)} {ρ ρ' ρ1 ρ2 : En} {τv vs ws : List V} {τd ds wd : List D} {v : V} {d : D} {E : XK}
theorem Sit.ok' (I : Sit K n H U σ hv ρ τv τd) : EnvOk K H U ρ.length (σ ++ hv ++ τv.map some) (ρ ++ owns τd) := I.ok
theorem Sit.lend {r : Nat} {p : List Nat} {d0 d1 : D} (I : Sit K n H U σ hv ρ τv τd) (w : PlOk K H U (σ ++ hv) ρ v (.rt r p)) (hr : rootD ρ r = some d0) (hg : getP d0 p = some d1) :
    Sit K n H U σ hv (ρ.set r (some (.own (setP d0 p (.hl v))))) (τv ++ [v]) (τd ++ [d1]) := by
  have l := I.len
  have tl := I.tl
  obtain ⟨hrl, vr, d0', er, hr', _, hp⟩ := w
  rw [hr] at hr'; cases hr'
  refine ⟨?_, by rw [List.length_set]; exact l, I.nn⟩
  have k := I.ok'.take (r := r) (p := p) (vr := vr) (u := v) (by simp; omega) (by rw [List.getElem?_append_left hrl]; exact rootD_of hr) (by rw [List.getElem?_append_left (by simp; omega)]; exact er) hp hg
  rw [List.length_set, List.map_append, List.map_append, ← List.append_assoc, ← List.append_assoc]
  rw [List.set_append_left _ _ hrl] at k
  exact k
theorem Sit.back {r : Nat} {p : List Nat} {d0 : D} (I : Sit K n H U σ hv ρ (τv ++ [v]) (τd ++ [d])) (hr : rootD ρ r = some d0) (hg : getP d0 p = some (.hl v)) : Sit K n H U σ hv (ρ.set r (some (.own (setP d0 p d)))) τv τd := by
  have l := I.len
  have tl := I.tl
  have tl : τv.length = τd.length := by simp at tl; omega
  have hro := rootD_of hr
  have hrl : r < ρ.length := (List.getElem?_eq_some_iff.mp hro).1
  have ok := I.ok
  rw [List.map_append, List.map_append, ← List.append_assoc, ← List.append_assoc] at ok
  have k := ok.put (r := r) (p := p) (d0 := d0) (by simp; omega) (by simp; omega) (by rw [List.getElem?_append_left hrl]; exact hro) hg
  rw [List.set_append_left _ _ hrl] at k
  exact ⟨by rw [List.length_set]; exact k, by rw [List.length_set]; exact l, I.nn⟩
theorem Sit.pick {vs' : List V} {ds' : List D} (I : Sit K n H U σ hv ρ (τv ++ vs) (τd ++ ds)) (hl : vs.length = ds.length) (h2 : vs'.length = ds'.length) (π : Nat → Nat) (inj : ∀ i j, i < vs'.length → j < vs'.length → π i = π j → i = j)
    (hv' : ∀ (i : Nat) (x : V), vs'[i]? = some x → vs[π i]? = some x) (hd' : ∀ (i : Nat) (x : D), ds'[i]? = some x → ds[π i]? = some x) : Sit K n H U σ hv ρ (τv ++ vs') (τd ++ ds') := by
  have l := I.len
  have tl := I.tl
  have tl : τv.length = τd.length := by simp at tl; omega
  obtain ⟨he, mu, Fs, dj, sub, sl⟩ := I.ok
  have base : (σ ++ hv ++ τv.map some).length = ρ.length + τd.length := by simp; omega
  refine ⟨⟨by simp; omega, mu, fun i b => if i < ρ.length + τd.length then Fs i b else i < ρ.length + τd.length + vs'.length ∧ Fs (ρ.length + τd.length + π (i - (ρ.length + τd.length))) b, fun i j b hi hj => ?_, fun i b hb => ?_, fun i β hβ => ?_⟩, l, I.nn⟩
  · have hi : if i < ρ.length + τd.length then Fs i b else i < ρ.length + τd.length + vs'.length ∧ Fs (ρ.length + τd.length + π (i - (ρ.length + τd.length))) b := hi
    have hj : if j < ρ.length + τd.length then Fs j b else j < ρ.length + τd.length + vs'.length ∧ Fs (ρ.length + τd.length + π (j - (ρ.length + τd.length))) b := hj
    by_cases ci : i < ρ.length + τd.length
    · rw [if_pos ci] at hi
      by_cases cj : j < ρ.length + τd.length
      · rw [if_pos cj] at hj; exact dj i j b hi hj
      · rw [if_neg cj] at hj; have := dj _ _ b hi hj.2; omega
    · rw [if_neg ci] at hi
      by_cases cj : j < ρ.length + τd.length
      · rw [if_pos cj] at hj; have := dj _ _ b hi.2 hj; omega
      · rw [if_neg cj] at hj
        have := dj _ _ b hi.2 hj.2
        have := inj (i - (ρ.length + τd.length)) (j - (ρ.length + τd.length)) (by omega) (by omega) (by omega)
        omega
  · have hb : if i < ρ.length + τd.length then Fs i b else i < ρ.length + τd.length + vs'.length ∧ Fs (ρ.length + τd.length + π (i - (ρ.length + τd.length))) b := hb
    by_cases ci : i < ρ.length + τd.length
    · rw [if_pos ci] at hb; exact sub _ b hb
    · rw [if_neg ci] at hb; exact sub _ b hb.2
  · have e0 : ∀ (zs : List V) (j : Nat), j < ρ.length + τd.length → (σ ++ hv ++ (τv ++ zs).map some)[j]? = (σ ++ hv ++ τv.map some)[j]? := fun zs j hj => by
      rw [List.map_append, ← List.append_assoc, List.getElem?_append_left (by omega)]
    have lR : (ρ ++ τd.map fun d => some (B.own d)).length = ρ.length + τd.length := by simp
    by_cases hi : i < ρ.length + τd.length
    · have g1 : (ρ ++ (τd ++ ds).map fun d => some (B.own d))[i]? = some (some β) := by
        rw [List.map_append, ← List.append_assoc, List.getElem?_append_left (by omega)] at hβ ⊢
        exact hβ
      obtain ⟨v, ev, sv⟩ := sl i β g1
      refine ⟨v, by rw [e0 vs' i hi]; rw [e0 vs i hi] at ev; exact ev, ?_⟩
      have sv := SlotOk.slots sv (e' := σ ++ hv ++ (τv ++ vs').map some) fun r hr => by rw [e0 vs' r (by omega), e0 vs r (by omega)]
      cases β with
      | own x =>
        show Rep K H (fun b => if i < ρ.length + τd.length then Fs i b else _) v x
        simp only [if_pos hi]; exact sv
      | ro x => exact sv
      | ali r p => exact sv
    · have g0 : (ds'.map fun d => some (B.own d))[i - (ρ.length + τd.length)]? = some (some β) := by
        rw [List.map_append, ← List.append_assoc, List.getElem?_append_right (by omega), lR] at hβ
        exact hβ
      rw [List.getElem?_map] at g0
      cases q : ds'[i - (ρ.length + τd.length)]? with
      | none => rw [q] at g0; cases g0
      | some x =>
        rw [q] at g0
        cases g0
        obtain ⟨u, hu⟩ := sat_get h2 q
        have g1 : (ρ ++ (τd ++ ds).map fun d => some (B.own d))[ρ.length + τd.length + π (i - (ρ.length + τd.length))]? = some (some (.own x)) := by
          rw [List.map_append, ← List.append_assoc, List.getElem?_append_right (by omega), lR, Nat.add_sub_cancel_left, List.getElem?_map, hd' _ x q]
          rfl
        obtain ⟨v, ev, sv⟩ := sl _ _ g1
        rw [List.map_append, ← List.append_assoc, List.getElem?_append_right (by omega), base, Nat.add_sub_cancel_left, List.getElem?_map, hv' _ u hu] at ev
        cases ev
        have hlt : i - (ρ.length + τd.length) < vs'.length := (List.getElem?_eq_some_iff.mp hu).1
        refine ⟨u, by rw [List.map_append, ← List.append_assoc, List.getElem?_append_right (by omega), base, List.getElem?_map, hu]; rfl, ?_⟩
        show Rep K H (fun b => if i < ρ.length + τd.length then _ else i < ρ.length + τd.length + vs'.length ∧ Fs (ρ.length + τd.length + π (i - (ρ.length + τd.length))) b) u x
        simp only [if_neg hi]
        exact Rep.mono sv fun b z => ⟨by omega, z⟩
theorem Sit.dropMid (I : Sit K n H U σ hv ρ (τv ++ ws ++ vs) (τd ++ wd ++ ds)) (hl : ws.length = wd.length) (h2 : vs.length = ds.length) : Sit K n H U σ hv ρ (τv ++ vs) (τd ++ ds) := by
  rw [List.append_assoc, List.append_assoc] at I
  exact I.pick (by simp; omega) h2 (fun i => ws.length + i) (fun i j _ _ h => by omega) (fun i x h => by rw [List.getElem?_append_right (by omega), Nat.add_sub_cancel_left]; exact h) (fun i x h => by rw [hl, List.getElem?_append_right (by omega), Nat.add_sub_cancel_left]; exact h)
theorem rot1 {α : Type} {xs : List α} {x : α} : ∀ (i : Nat) (y : α), (xs ++ [x])[i]? = some y → (x :: xs)[if i = xs.length then 0 else i + 1]? = some y := fun i y h => by
  by_cases c : i = xs.length
  · subst c
    simp at h ⊢; exact h
  · have hi : i < xs.length := by
      have := (List.getElem?_eq_some_iff.mp h).1
      simp at this; omega
    rw [List.getElem?_append_left hi] at h
    rw [if_neg c]
    simpa using h
theorem Sit.rotF (I : Sit K n H U σ hv ρ (τv ++ (v :: vs)) (τd ++ (d :: ds))) (hl : vs.length = ds.length) : Sit K n H U σ hv ρ (τv ++ vs ++ [v]) (τd ++ ds ++ [d]) := by
  rw [List.append_assoc, List.append_assoc]
  refine I.pick (by simp; exact hl) (by simp; exact hl) (fun i => if i = vs.length then 0 else i + 1) (fun i j hi hj h => ?_) rot1 (by rw [hl]; exact rot1)
  by_cases c1 : i = vs.length
  · by_cases c2 : j = vs.length
    · omega
    · simp only [if_pos c1, if_neg c2] at h; omega
  · by_cases c2 : j = vs.length
    · simp only [if_neg c1, if_pos c2] at h; omega
    · simp only [if_neg c1, if_neg c2] at h; omega
structure Io where
  r : Nat
  p : List Nat
noncomputable def holeE : En → List Io → List V → En
  | ρ, io :: L, v :: vs => match rootD ρ io.r with
    | some d0 => holeE (ρ.set io.r (some (.own (setP d0 io.p (.hl v))))) L vs
    | none => ρ
  | ρ, _, _ => ρ
noncomputable def lentD : En → List Io → Option (List D)
  | _, [] => some []
  | ρ, io :: L => (rootD ρ io.r).bind fun d0 => (getP d0 io.p).bind fun d1 => (lentD ρ L).map (d1 :: ·)
noncomputable def putE (ρ0 : En) : En → List Io → List D → En
  | ρ, io :: L, o :: os => match rootD ρ0 io.r with
    | some d0 => putE ρ0 (ρ.set io.r (some (.own (setP d0 io.p o)))) L os
    | none => ρ
  | ρ, _, _ => ρ
noncomputable def rootsApart (L : List Io) : Prop := L.Pairwise fun a b => a.r ≠ b.r
instance (L : List Io) : Decidable (rootsApart L) := inferInstanceAs (Decidable (L.Pairwise _))
theorem Sit.lendAll : ∀ {L : List Io} {ρ : En} {τv : List V} {τd : List D} {vs : List V} {ds : List D}, Sit K n H U σ hv ρ τv τd → rootsApart L → lentD ρ L = some ds → vs.length = L.length → (∀ (i : Nat) (io : Io) (v : V), L[i]? = some io → vs[i]? = some v → PlOk K H U (σ ++ hv) ρ v (.rt io.r io.p)) →
    Sit K n H U σ hv (holeE ρ L vs) (τv ++ vs) (τd ++ ds)
  | [], ρ, τv, τd, vs, ds, I, _, h, hl, _ => by
    cases h
    have : vs = [] := List.eq_nil_of_length_eq_zero hl
    subst this
    rw [List.append_nil, List.append_nil]
    simp only [holeE]
    exact I
  | io :: L, ρ, τv, τd, [], ds, I, _, h, hl, _ => by cases hl
  | io :: L, ρ, τv, τd, v :: vs, ds, I, ha, h, hl, hp => by
    rw [lentD] at h
    obtain ⟨d0, h1, h⟩ := Option.bind_eq_some_iff.mp h
    obtain ⟨d1, h2, h⟩ := Option.bind_eq_some_iff.mp h
    obtain ⟨ds', h3, h⟩ := Option.map_eq_some_iff.mp h
    subst h
    have ap := List.pairwise_cons.mp ha
    have I1 := I.lend (hp 0 io v rfl rfl) h1 h2
    have rne : ∀ j ∈ L, rootD (ρ.set io.r (some (.own (setP d0 io.p (.hl v))))) j.r = rootD ρ j.r := fun j hj => rootD_set_ne (ap.1 j hj)
    have lent' : ∀ (M : List Io) (hM : ∀ j ∈ M, j ∈ L) (ds : List D), lentD ρ M = some ds → lentD (ρ.set io.r (some (.own (setP d0 io.p (.hl v))))) M = some ds := by
      intro M
      induction M with
      | nil => intro _ ds h; exact h
      | cons j M ih =>
        intro hM ds h
        rw [lentD] at h ⊢
        rw [rne j (hM j (.head _))]
        obtain ⟨a, x1, h⟩ := Option.bind_eq_some_iff.mp h
        obtain ⟨b, x2, h⟩ := Option.bind_eq_some_iff.mp h
        obtain ⟨c, x3, h⟩ := Option.map_eq_some_iff.mp h
        rw [x1]
        show (getP a j.p).bind _ = _
        rw [x2]
        show (lentD _ M).map _ = _
        rw [ih (fun k hk => hM k (.tail _ hk)) c x3]
        exact congrArg some h
    have I2 := I1.lendAll ap.2 (lent' L (fun j hj => hj) ds' h3) (vs := vs) (Nat.succ.inj hl) fun i j u hj hu => by
      obtain ⟨q1, vr, dd, q2, q3, q4, q5⟩ := hp (i + 1) j u (by simpa using hj) (by simpa using hu)
      exact ⟨by rw [List.length_set]; exact q1, vr, dd, q2, by rw [rne j (List.mem_of_getElem? hj)]; exact q3, q4, q5⟩
    rw [holeE, h1]
    rw [List.append_cons, List.append_cons τd]
    exact I2
noncomputable def Sim (ρ1 ρ2 : En) : Prop := ∀ s q, ((rootD ρ1 s).bind (getP · q)).isSome = ((rootD ρ2 s).bind (getP · q)).isSome
theorem pruneB_sim (h : Sim ρ1 ρ2) (b : Option B) : pruneB ρ1 b = pruneB ρ2 b := by
  cases b with
  | none => rfl
  | some c =>
    cases c with
    | own d => rfl
    | ro d => rfl
    | ali r p =>
      show (if p = [] ∨ ((rootD ρ1 r).bind (getP · p)).isSome = true then some (B.ali r p) else none) = (if p = [] ∨ ((rootD ρ2 r).bind (getP · p)).isSome = true then some (B.ali r p) else none)
      rw [h r p]
theorem Sim.hole {r : Nat} {p : List Nat} {d0 e0 d1 e1 x y : D} (h : Sim ρ1 ρ2) (l1 : r < ρ1.length) (l2 : r < ρ2.length) (g : ∀ q, (getP (setP d0 p x) q).isSome = (getP (setP e0 p y) q).isSome) : Sim (ρ1.set r (some (.own (setP d0 p x)))) (ρ2.set r (some (.own (setP e0 p y)))) := fun s q => by
  by_cases c : r = s
  · subst c
    rw [rootD_set_self l1, rootD_set_self l2]
    exact g q
  · rw [rootD_set_ne c, rootD_set_ne c]
    exact h s q
theorem holeE_len : ∀ (ρ : En) (L : List Io) (vs : List V), (holeE ρ L vs).length = ρ.length
  | ρ, [], vs => by simp [holeE]
  | ρ, io :: L, [] => by simp [holeE]
  | ρ, io :: L, v :: vs => by
    rw [holeE]
    cases rootD ρ io.r with
    | none => rfl
    | some d0 => show (holeE _ L vs).length = _; rw [holeE_len, List.length_set]
theorem rootD_eq {s : Nat} (h : ρ1[s]? = ρ2[s]?) : rootD ρ1 s = rootD ρ2 s := by unfold rootD; rw [h]
theorem holeE_gen : ∀ {L : List Io} {ρ1 ρ2 : En} {vs us : List V}, rootsApart L → Sim ρ1 ρ2 → ρ1.length = ρ2.length → (∀ io ∈ L, ∃ d0 d1, rootD ρ1 io.r = some d0 ∧ rootD ρ2 io.r = some d0 ∧ getP d0 io.p = some d1) → vs.length = L.length → us.length = L.length → Sim (holeE ρ1 L vs) (holeE ρ2 L us)
  | [], ρ1, ρ2, vs, us, _, h, _, _, _, _ => by simp only [holeE]; exact h
  | io :: L, ρ1, ρ2, [], us, _, _, _, _, h, _ => by cases h
  | io :: L, ρ1, ρ2, _, [], _, _, _, _, _, h => by cases h
  | io :: L, ρ1, ρ2, v :: vs, u :: us, ha, h, hl, hr, l1, l2 => by
    obtain ⟨d0, d1, q1, q2, q3⟩ := hr io (.head _)
    have ap := List.pairwise_cons.mp ha
    have r1 : io.r < ρ1.length := (List.getElem?_eq_some_iff.mp (rootD_of q1)).1
    rw [holeE, holeE, q1, q2]
    refine holeE_gen ap.2 (h.hole (d1 := d1) (e1 := d1) r1 (by omega) fun q => getP_hole q3 rfl rfl (fun _ _ => by rw [getP]) fun _ _ => by rw [getP]) (by rw [List.length_set, List.length_set]; exact hl) (fun j hj => ?_) (Nat.succ.inj l1) (Nat.succ.inj l2)
    obtain ⟨e0, e1, x1, x2, x3⟩ := hr j (.tail _ hj)
    exact ⟨e0, e1, by rw [rootD_set_ne (ap.1 j hj)]; exact x1, by rw [rootD_set_ne (ap.1 j hj)]; exact x2, x3⟩
theorem lentD_mem : ∀ {L : List Io} {ρ : En} {ds : List D}, lentD ρ L = some ds → ∀ io ∈ L, ∃ d0 d1, rootD ρ io.r = some d0 ∧ getP d0 io.p = some d1
  | io :: L, ρ, ds, h, j, hj => by
    rw [lentD] at h
    obtain ⟨d0, h1, h⟩ := Option.bind_eq_some_iff.mp h
    obtain ⟨d1, h2, h⟩ := Option.bind_eq_some_iff.mp h
    obtain ⟨ds', h3, h⟩ := Option.map_eq_some_iff.mp h
    cases hj with
    | head => exact ⟨d0, d1, h1, h2⟩
    | tail _ hj => exact lentD_mem h3 j hj
theorem holeE_sim {L : List Io} {us : List V} (ha : rootsApart L) (h : lentD ρ L = some ds) (l1 : vs.length = L.length) (l2 : us.length = L.length) : Sim (holeE ρ L vs) (holeE ρ L us) :=
  holeE_gen ha (fun _ _ => rfl) rfl (fun io hio => let ⟨d0, d1, a, b⟩ := lentD_mem h io hio; ⟨d0, d1, a, a, b⟩) l1 l2
theorem holeE_out : ∀ {L : List Io} {ρ : En} {vs : List V} {s : Nat}, (∀ io ∈ L, io.r ≠ s) → (holeE ρ L vs)[s]? = ρ[s]?
  | [], ρ, vs, s, _ => by simp only [holeE]
  | io :: L, ρ, [], s, _ => by simp only [holeE]
  | io :: L, ρ, v :: vs, s, h => by
    rw [holeE]
    cases rootD ρ io.r with
    | none => rfl
    | some d0 =>
      show (holeE _ L vs)[s]? = _
      rw [holeE_out fun j hj => h j (.tail _ hj), List.getElem?_set_ne (h io (.head _))]
theorem holeE_in : ∀ {L : List Io} {ρ : En} {vs : List V} {i : Nat} {io : Io} {d0 : D}, rootsApart L → vs.length = L.length → L[i]? = some io → rootD ρ io.r = some d0 → (∀ j ∈ L, ∃ e, rootD ρ j.r = some e) → ∃ v, vs[i]? = some v ∧ rootD (holeE ρ L vs) io.r = some (setP d0 io.p (.hl v))
  | [], ρ, vs, i, io, d0, _, _, h, _, _ => by simp at h
  | j :: L, ρ, [], i, io, d0, _, h, _, _, _ => by cases h
  | j :: L, ρ, v :: vs, 0, io, d0, ha, hl, h, hr, al => by
    cases h
    have ap := List.pairwise_cons.mp ha
    have hrl : j.r < ρ.length := (List.getElem?_eq_some_iff.mp (rootD_of hr)).1
    refine ⟨v, rfl, ?_⟩
    rw [holeE, hr]
    show rootD (holeE _ L vs) j.r = _
    rw [rootD_eq (holeE_out fun k hk => (ap.1 k hk).symm), rootD_set_self hrl]
  | j :: L, ρ, v :: vs, i + 1, io, d0, ha, hl, h, hr, al => by
    have ap := List.pairwise_cons.mp ha
    have h : L[i]? = some io := by simpa using h
    obtain ⟨e, he⟩ := al j (.head _)
    have ne := ap.1 io (List.mem_of_getElem? h)
    rw [holeE, he]
    obtain ⟨u, hu, q⟩ := holeE_in (ρ := ρ.set j.r (some (.own (setP e j.p (.hl v))))) ap.2 (Nat.succ.inj hl) h (d0 := d0) (by rw [rootD_set_ne ne]; exact hr) fun k hk => by
      obtain ⟨x, hx⟩ := al k (.tail _ hk)
      exact ⟨x, by rw [rootD_set_ne (ap.1 k hk)]; exact hx⟩
    exact ⟨u, by simpa using hu, q⟩
end
end VL
namespace VL
open PySem L2
section
variable {K : W.Frag} {n : Nat} {H H' : Hp} {U U' : Addr → Prop} {σ hv : List (Option V)} {ρ ρ' ρ1 ρ2 : En} {τv vs ws : List V} {τd ds wd : List D} {v : V} {d : D} {E : XK}
inductive Ar where
  | io (i : Io) | tm (d : D) | rv (q : Pl) (d : D)
inductive ArgsOk (K : W.Frag) (H : Hp) (U : Addr → Prop) (e : List (Option V)) (ρ : En) : List Bool → List V → List Ar → List V → List D → Prop
  | nil : ArgsOk K H U e ρ [] [] [] [] []
  | io {m : List Bool} {v : V} {i : Io} {vs : List V} {as : List Ar} {ws : List V} {wd : List D} : PlOk K H U e ρ v (.rt i.r i.p) → ArgsOk K H U e ρ m vs as ws wd → ArgsOk K H U e ρ (true :: m) (v :: vs) (.io i :: as) ws wd
  | tm {m : List Bool} {v : V} {d : D} {vs : List V} {as : List Ar} {ws : List V} {wd : List D} : ArgsOk K H U e ρ m vs as ws wd → ArgsOk K H U e ρ (false :: m) (v :: vs) (.tm d :: as) (v :: ws) (d :: wd)
  | rv {m : List Bool} {v : V} {q : Pl} {d : D} {vs : List V} {as : List Ar} {ws : List V} {wd : List D} : PlOk K H U e ρ v q → plD ρ q = some d → ArgsOk K H U e ρ m vs as ws wd → ArgsOk K H U e ρ (false :: m) (v :: vs) (.rv q d :: as) ws wd
class SCp (K : W.Frag) (n : Nat) (mask : List Bool) (t : TA) (f : outParam (En → Option (List Ar))) : Prop where
  s : ∀ {σ hv : List (Option V)} {H : Hp} {U : Addr → Prop} {ρ : En} {τv : List V} {τd : List D} {as : List Ar} {Q : List V → Hp → Prop}, Sit K n H U σ hv ρ τv τd → f ρ = some as →
    (∀ vs ws wd H' U', Sit K n H' U' σ hv ρ (τv ++ ws) (τd ++ wd) → ws.length = wd.length → Stp U H U' H' → Same H H' → ArgsOk K H' U' (σ ++ hv) ρ mask vs as ws wd → Q vs H') → t σ H Q
class SC (K : W.Frag) (n : Nat) (mask : List Bool) (t : TA) (f : outParam (En → Option (List Ar × En))) : Prop where
  s : ∀ {σ hv : List (Option V)} {H : Hp} {U : Addr → Prop} {ρ ρ' : En} {τv : List V} {τd : List D} {as : List Ar} {Q : List V → Hp → Prop}, Sit K n H U σ hv ρ τv τd → f ρ = some (as, ρ') →
    (∀ vs ws wd H' U', Sit K n H' U' σ hv ρ' (τv ++ ws) (τd ++ wd) → ws.length = wd.length → Stp U H U' H' → ArgsOk K H' U' (σ ++ hv) ρ' mask vs as ws wd → Q vs H') → t σ H Q
theorem PlOk.step {q : Pl} {e : List (Option V)} (h : PlOk K H U e ρ v q) (s : Same H H') (st : Stp U H U' H') : PlOk K H' U' e ρ v q := by
  cases q with
  | ro d =>
    have h : Vw K H (fun b => ¬ U b) v d := h
    exact h.over (fun b o nb q => st b o q nb) (Stay.of s)
  | rt r p =>
    obtain ⟨a, vr, d, b, c, e, f⟩ := h
    exact ⟨a, vr, d, b, c, e, f.same s⟩
instance scp_nil : SCp K n [] tNil (fun _ => some []) := ⟨fun {σ hv H U ρ τv τd as Q} I h k => by
  cases h
  exact k [] [] [] H U (by rw [List.append_nil, List.append_nil]; exact I) rfl (Stp.refl U H) (Same.refl H) .nil⟩
noncomputable def cIo (fp : En → Option Pl) (fr : En → Option (List Ar)) (ρ : En) : Option (List Ar) := (fp ρ).bind fun
  | .rt r p => (fr ρ).map (.io ⟨r, p⟩ :: ·)
  | .ro _ => none
instance scp_io {m : List Bool} {te : TE} {tr : TA} {fp : En → Option Pl} {fr : En → Option (List Ar)} [P : SP K n te fp] [R : SCp K n m tr fr] : SCp K n (true :: m) (tCons te tr) (cIo fp fr) := ⟨fun {σ hv H U ρ τv τd as Q} I h k => by
  obtain ⟨q, h1, h⟩ := Option.bind_eq_some_iff.mp h
  cases q with
  | ro _ => cases h
  | rt r p =>
    obtain ⟨as', h2, h⟩ := Option.map_eq_some_iff.mp h
    subst h
    refine P.s I h1 fun v H1 s1 w1 => ?_
    have stS : Stp U H U H1 := fun b o q nu => ⟨s1 b o q, nu⟩
    refine R.s (I.same s1) h2 fun vs ws wd H2 U2 I2 hl st2 s2 ao => ?_
    exact k (v :: vs) ws wd H2 U2 I2 hl (stS.trans st2) (s1.trans s2) (.io (w1.step s2 st2) ao)⟩
noncomputable def cTm (fe : En → Option D) (fr : En → Option (List Ar)) (ρ : En) : Option (List Ar) := (fe ρ).bind fun d => (fr ρ).map (.tm d :: ·)
instance (priority := 200) scp_tm {m : List Bool} {te : TE} {tr : TA} {fe : En → Option D} {fr : En → Option (List Ar)} [A : SQ K n te fe] [R : SCp K n m tr fr] : SCp K n (false :: m) (tCons te tr) (cTm fe fr) := ⟨fun {σ hv H U ρ τv τd as Q} I h k => by
  obtain ⟨d, h1, h⟩ := Option.bind_eq_some_iff.mp h
  obtain ⟨as', h2, h⟩ := Option.map_eq_some_iff.mp h
  subst h
  refine SQ.s (f := fe) I h1 fun v H1 U1 I1 st1 s1 => ?_
  refine R.s I1 h2 fun vs ws wd H2 U2 I2 hl st2 s2 ao => ?_
  refine k (v :: vs) (v :: ws) (d :: wd) H2 U2 ?_ (by rw [List.length_cons, List.length_cons, hl]) (st1.trans st2) (s1.trans s2) (.tm ao)
  rw [List.append_cons, List.append_cons τd]; exact I2⟩
noncomputable def cRv (fp : En → Option Pl) (fr : En → Option (List Ar)) (ρ : En) : Option (List Ar) := (fp ρ).bind fun q => (plD ρ q).bind fun d => if plain d = true then (fr ρ).map (.tm d :: ·) else (fr ρ).map (.rv q d :: ·)
instance (priority := 300) scp_rv {m : List Bool} {te : TE} {tr : TA} {fp : En → Option Pl} {fr : En → Option (List Ar)} [P : SP K n te fp] [R : SCp K n m tr fr] : SCp K n (false :: m) (tCons te tr) (cRv fp fr) := ⟨fun {σ hv H U ρ τv τd as Q} I h k => by
  obtain ⟨q, h1, h⟩ := Option.bind_eq_some_iff.mp h
  obtain ⟨d, h2, h⟩ := Option.bind_eq_some_iff.mp h
  refine P.s I h1 fun v H1 s1 w1 => ?_
  have I1 := I.same s1
  have stS : Stp U H U H1 := fun b o q nu => ⟨s1 b o q, nu⟩
  by_cases p : plain d = true
  · rw [if_pos p] at h
    obtain ⟨as', h3, h⟩ := Option.map_eq_some_iff.mp h
    subst h
    obtain ⟨U1, I1', st1⟩ := I1.push (Same.refl H1) (Own.plain (I1.at w1 h2) p)
    refine R.s I1' h3 fun vs ws wd H2 U2 I2 hl st2 s2 ao => ?_
    refine k (v :: vs) (v :: ws) (d :: wd) H2 U2 ?_ (by rw [List.length_cons, List.length_cons, hl]) (stS.trans (st1.trans st2)) (s1.trans s2) (.tm ao)
    rw [List.append_cons, List.append_cons τd]; exact I2
  · rw [if_neg p] at h
    obtain ⟨as', h3, h⟩ := Option.map_eq_some_iff.mp h
    subst h
    refine R.s I1 h3 fun vs ws wd H2 U2 I2 hl st2 s2 ao => ?_
    exact k (v :: vs) ws wd H2 U2 I2 hl (stS.trans st2) (s1.trans s2) (.rv (w1.step s2 st2) h2 ao)⟩
instance (priority := 1000) sc_of_scp {mask : List Bool} {t : TA} {f : En → Option (List Ar)} [S : SCp K n mask t f] : SC K n mask t (fun ρ => (f ρ).map fun a => (a, ρ)) := ⟨fun {σ hv H U ρ ρ' τv τd as Q} I h k => by
  obtain ⟨as', h1, h2⟩ := Option.map_eq_some_iff.mp h
  cases h2
  exact S.s I h1 fun vs ws wd H' U' I' hl st s ao => k vs ws wd H' U' I' hl st ao⟩
noncomputable def cTmM (fe : En → Option (D × En)) (fr : En → Option (List Ar × En)) (ρ : En) : Option (List Ar × En) := (fe ρ).bind fun a => (fr a.2).map fun r => (.tm a.1 :: r.1, r.2)
instance (priority := 200) sc_tm {m : List Bool} {te : TE} {tr : TA} {fe : En → Option (D × En)} {fr : En → Option (List Ar × En)} [A : SM K n te fe] [R : SC K n m tr fr] : SC K n (false :: m) (tCons te tr) (cTmM fe fr) := ⟨fun {σ hv H U ρ ρ' τv τd as Q} I h k => by
  obtain ⟨⟨d, ρ1⟩, h1, h⟩ := Option.bind_eq_some_iff.mp h
  obtain ⟨⟨as', ρ2⟩, h2, h⟩ := Option.map_eq_some_iff.mp h
  cases h
  refine A.s I h1 fun v H1 U1 I1 st1 => ?_
  refine R.s I1 h2 fun vs ws wd H2 U2 I2 hl st2 ao => ?_
  refine k (v :: vs) (v :: ws) (d :: wd) H2 U2 ?_ (by rw [List.length_cons, List.length_cons, hl]) (st1.trans st2) (.tm ao)
  rw [List.append_cons, List.append_cons τd]; exact I2⟩
noncomputable def arIos : List Ar → List Io
  | [] => []
  | .io i :: r => i :: arIos r
  | .tm _ :: r => arIos r
  | .rv _ _ :: r => arIos r
noncomputable def arD (ρ : En) : Ar → Option D
  | .io i => (rootD ρ i.r).bind (getP · i.p)
  | .tm d => some d
  | .rv _ d => some d
noncomputable def arDs (ρ : En) : List Ar → Option (List D)
  | [] => some []
  | a :: r => (arD ρ a).bind fun d => (arDs ρ r).map (d :: ·)
noncomputable def apartP : List Nat → List Nat → Bool
  | a :: p, b :: q => !decide (a = b) || apartP p q
  | _, _ => false
noncomputable def rvOk (L : List Io) : Ar → Bool
  | .rv (.rt r p) _ => L.all fun i => !decide (i.r = r) || apartP i.p p
  | _ => true
theorem getP_apart : ∀ {p q : List Nat} {d d1 x : D}, apartP p q = true → getP d p = some d1 → plain x = false → getP (setP d p x) q = getP d q
  | [], _, _, _, _, h, _, _ => by simp [apartP] at h
  | _ :: _, [], _, _, _, h, _, _ => by simp [apartP] at h
  | a :: p, b :: q, .sc _, d1, x, h, g, hx => by rw [getP] at g; cases g
  | a :: p, b :: q, .hl _, d1, x, h, g, hx => by rw [getP] at g; cases g
  | a :: p, b :: q, .nd k cs, d1, x, h, g, hx => by
    rw [getP] at g
    by_cases hpl : imm k = true ∧ plainL cs = true
    · rw [if_pos hpl] at g; cases g
    rw [if_neg hpl] at g
    cases hc : cs[a]? with
    | none => rw [hc] at g; cases g
    | some c =>
      rw [hc] at g
      have hn := (List.getElem?_eq_some_iff.mp hc).1
      have e1 : setP (.nd k cs) (a :: p) x = .nd k (cs.set a (setP c p x)) := by rw [setP, hc]
      have px := plainL_set hn (plain_setP g hx)
      rw [e1, getP, getP, if_neg (by rintro ⟨_, z⟩; rw [px] at z; cases z), if_neg hpl]
      by_cases e : a = b
      · subst e
        rw [List.getElem?_set_self hn, hc]
        have h : apartP p q = true := by simpa [apartP] using h
        exact getP_apart h g hx
      · rw [List.getElem?_set_ne e]
noncomputable def finE (ρ : En) (L : List Io) (outs : List D) : En := putE ρ (prune (holeE ρ L (L.map fun _ => V.non))) L outs
theorem ArgsOk.len {e : List (Option V)} {m : List Bool} {as : List Ar} (h : ArgsOk K H U e ρ m vs as ws wd) : vs.length = m.length ∧ as.length = m.length ∧ ws.length = wd.length := by
  induction h with
  | nil => exact ⟨rfl, rfl, rfl⟩
  | io _ _ ih => exact ⟨congrArg _ ih.1, congrArg _ ih.2.1, ih.2.2⟩
  | tm _ ih => exact ⟨congrArg _ ih.1, congrArg _ ih.2.1, congrArg _ ih.2.2⟩
  | rv _ _ _ ih => exact ⟨congrArg _ ih.1, congrArg _ ih.2.1, ih.2.2⟩
theorem ArgsOk.ios {e : List (Option V)} {m : List Bool} {as : List Ar} (h : ArgsOk K H U e ρ m vs as ws wd) : (ioL m vs).length = (arIos as).length ∧ ∀ (i : Nat) (io : Io) (v : V), (arIos as)[i]? = some io → (ioL m vs)[i]? = some v → PlOk K H U e ρ v (.rt io.r io.p) := by
  induction h with
  | nil => exact ⟨rfl, fun i io v h => by simp [arIos] at h⟩
  | @io m v i vs as ws wd p _ ih =>
    refine ⟨by rw [ioL, arIos, List.length_cons, List.length_cons, ih.1], fun j io u h1 h2 => ?_⟩
    rw [arIos] at h1
    rw [ioL] at h2
    cases j with
    | zero => cases h1; cases h2; exact p
    | succ j => exact ih.2 j io u (by simpa using h1) (by simpa using h2)
  | tm _ ih => rw [ioL, arIos]; exact ih
  | rv _ _ _ ih => rw [ioL, arIos]; exact ih
theorem ArgsOk.lent {e : List (Option V)} {m : List Bool} {as : List Ar} (h : ArgsOk K H U e ρ m vs as ws wd) : ∀ {ds : List D}, arDs ρ as = some ds → ds.length = m.length ∧ lentD ρ (arIos as) = some (ioL m ds) := by
  induction h with
  | nil => intro ds q; cases q; exact ⟨rfl, rfl⟩
  | @io m v i vs as ws wd p _ ih =>
    intro ds q
    rw [arDs] at q
    obtain ⟨x, q1, q⟩ := Option.bind_eq_some_iff.mp q
    obtain ⟨r, q2, q⟩ := Option.map_eq_some_iff.mp q
    subst q
    obtain ⟨l1, l2⟩ := ih q2
    refine ⟨congrArg _ l1, ?_⟩
    obtain ⟨d0, x1, x2⟩ := Option.bind_eq_some_iff.mp q1
    rw [arIos, lentD, ioL, x1]
    show (getP d0 i.p).bind _ = _
    rw [x2]
    show (lentD ρ (arIos as)).map _ = _
    rw [l2]; rfl
  | tm _ ih =>
    intro ds q
    rw [arDs] at q
    obtain ⟨x, q1, q⟩ := Option.bind_eq_some_iff.mp q
    obtain ⟨r, q2, q⟩ := Option.map_eq_some_iff.mp q
    subst q
    obtain ⟨l1, l2⟩ := ih q2
    exact ⟨congrArg _ l1, l2⟩
  | rv _ _ _ ih =>
    intro ds q
    rw [arDs] at q
    obtain ⟨x, q1, q⟩ := Option.bind_eq_some_iff.mp q
    obtain ⟨r, q2, q⟩ := Option.map_eq_some_iff.mp q
    subst q
    obtain ⟨l1, l2⟩ := ih q2
    exact ⟨congrArg _ l1, l2⟩
theorem ArgsOk.seen {e : List (Option V)} {m : List Bool} {as : List Ar} {N : Addr → Prop} (h : ArgsOk K H U e ρ m vs as ws wd) : ∀ {ds : List D}, arDs ρ as = some ds → (∀ (i : Nat) (w : V) (d : D), ws[i]? = some w → wd[i]? = some d → Vw K H N w d) →
    (∀ q d v, PlOk K H U e ρ v q → plD ρ q = some d → Ar.rv q d ∈ as → Vw K H N v d) → ∀ (i : Nat) (v : V) (d : D), m[i]? = some false → vs[i]? = some v → ds[i]? = some d → Vw K H N v d := by
  induction h with
  | nil => intro ds q _ _ i v d h; simp at h
  | io _ _ ih =>
    intro ds q hw hs i v d h1 h2 h3
    rw [arDs] at q
    obtain ⟨x, q1, q⟩ := Option.bind_eq_some_iff.mp q
    obtain ⟨r, q2, q⟩ := Option.map_eq_some_iff.mp q
    subst q
    cases i with
    | zero => cases h1
    | succ i => exact ih q2 hw (fun q d v a b c => hs q d v a b (.tail _ c)) i v d (by simpa using h1) (by simpa using h2) (by simpa using h3)
  | tm _ ih =>
    intro ds q hw hs i v d h1 h2 h3
    rw [arDs] at q
    obtain ⟨x, q1, q⟩ := Option.bind_eq_some_iff.mp q
    obtain ⟨r, q2, q⟩ := Option.map_eq_some_iff.mp q
    subst q
    cases q1
    cases i with
    | zero => cases h2; cases h3; exact hw 0 _ _ rfl rfl
    | succ i => exact ih q2 (fun i w d a b => hw (i + 1) w d (by simpa using a) (by simpa using b)) (fun q d v a b c => hs q d v a b (.tail _ c)) i v d (by simpa using h1) (by simpa using h2) (by simpa using h3)
  | rv p1 p2 _ ih =>
    intro ds q hw hs i v d h1 h2 h3
    rw [arDs] at q
    obtain ⟨x, q1, q⟩ := Option.bind_eq_some_iff.mp q
    obtain ⟨r, q2, q⟩ := Option.map_eq_some_iff.mp q
    subst q
    cases q1
    cases i with
    | zero => cases h2; cases h3; exact hs _ _ _ p1 p2 (.head _)
    | succ i => exact ih q2 hw (fun q d v a b c => hs q d v a b (.tail _ c)) i v d (by simpa using h1) (by simpa using h2) (by simpa using h3)
theorem Sit.backAll (ρ0 : En) : ∀ {L : List Io} {ρ : En} {vs : List V} {outs : List D}, Sit K n H U σ hv ρ (τv ++ vs) (τd ++ outs) → rootsApart L → vs.length = L.length → outs.length = L.length →
    (∀ (i : Nat) (io : Io) (v : V), L[i]? = some io → vs[i]? = some v → ∃ d0 d1, rootD ρ0 io.r = some d0 ∧ getP d0 io.p = some d1 ∧ rootD ρ io.r = some (setP d0 io.p (.hl v))) → Sit K n H U σ hv (putE ρ0 ρ L outs) τv τd
  | [], ρ, vs, outs, I, _, h1, h2, _ => by
    have e1 : vs = [] := List.eq_nil_of_length_eq_zero h1
    have e2 : outs = [] := List.eq_nil_of_length_eq_zero h2
    subst e1; subst e2
    rw [List.append_nil, List.append_nil] at I
    simp only [putE]
    exact I
  | io :: L, ρ, [], outs, I, _, h1, h2, _ => by cases h1
  | io :: L, ρ, v :: vs, [], I, _, h1, h2, _ => by cases h2
  | io :: L, ρ, v :: vs, o :: outs, I, ha, h1, h2, hq => by
    have ap := List.pairwise_cons.mp ha
    obtain ⟨d0, d1, q1, q2, q3⟩ := hq 0 io v rfl rfl
    have I1 := (I.rotF (by have := Nat.succ.inj h1; have := Nat.succ.inj h2; omega)).back q3 (getP_setP q2 rfl)
    rw [setP_setP q2] at I1
    rw [putE, q1]
    refine I1.backAll ρ0 ap.2 (Nat.succ.inj h1) (Nat.succ.inj h2) fun i j u hj hu => ?_
    obtain ⟨e0, e1, x1, x2, x3⟩ := hq (i + 1) j u (by simpa using hj) (by simpa using hu)
    exact ⟨e0, e1, x1, x2, by rw [rootD_set_ne (ap.1 j (List.mem_of_getElem? hj))]; exact x3⟩
theorem putE_len (ρ0 : En) : ∀ (ρ : En) (L : List Io) (outs : List D), (putE ρ0 ρ L outs).length = ρ.length
  | ρ, [], _ => by simp only [putE]
  | ρ, io :: L, [] => by simp only [putE]
  | ρ, io :: L, o :: os => by
    rw [putE]
    cases rootD ρ0 io.r with
    | none => rfl
    | some d0 => show (putE ρ0 _ L os).length = _; rw [putE_len, List.length_set]
theorem putE_get (ρ0 : En) : ∀ {L : List Io} {ρ1 ρ2 : En} {outs : List D}, ρ1.length = ρ2.length → outs.length = L.length → (∀ io ∈ L, ∃ d0, rootD ρ0 io.r = some d0) → (∀ io ∈ L, io.r < ρ1.length) → (∀ (i : Nat) (β : B), (∀ io ∈ L, io.r ≠ i) → ρ1[i]? = some (some β) → ρ2[i]? = some (some β)) →
    ∀ (i : Nat) (β : B), (putE ρ0 ρ1 L outs)[i]? = some (some β) → (putE ρ0 ρ2 L outs)[i]? = some (some β)
  | [], ρ1, ρ2, outs, _, _, _, _, h, i, β, q => by
    simp only [putE] at q ⊢
    exact h i β (fun _ z => nomatch z) q
  | io :: L, ρ1, ρ2, [], _, h, _, _, _, _, _, _ => by cases h
  | io :: L, ρ1, ρ2, o :: os, hl, h2, hr, hlt, h, i, β, q => by
    obtain ⟨d0, e0⟩ := hr io (.head _)
    rw [putE, e0] at q ⊢
    refine putE_get ρ0 (by rw [List.length_set, List.length_set]; exact hl) (Nat.succ.inj h2) (fun j hj => hr j (.tail _ hj)) (fun j hj => by rw [List.length_set]; exact hlt j (.tail _ hj)) (fun j γ hj z => ?_) i β q
    by_cases c : io.r = j
    · subst c
      have := hlt io (.head _)
      rw [List.getElem?_set_self this] at z
      rw [List.getElem?_set_self (by omega)]
      exact z
    · rw [List.getElem?_set_ne c] at z ⊢
      exact h j γ (fun k hk => by
        cases hk with
        | head => exact c
        | tail _ hk => exact hj k hk) z
theorem Sit.weaken (I : Sit K n H U σ hv ρ2 τv τd) (hl : ρ.length = ρ2.length) (w : ∀ (i : Nat) (β : B), ρ[i]? = some (some β) → ρ2[i]? = some (some β)) : Sit K n H U σ hv ρ τv τd := by
  have l := I.len
  refine ⟨?_, by rw [hl]; exact l, I.nn⟩
  rw [hl]
  refine I.ok.weaken (by simp [hl]) fun i β h => ?_
  by_cases hi : i < ρ.length
  · rw [List.getElem?_append_left hi] at h
    rw [List.getElem?_append_left (by omega)]
    exact w i β h
  · rw [List.getElem?_append_right (by omega)] at h
    rw [List.getElem?_append_right (by omega), ← hl]
    exact h
theorem Sit.sets (I : Sit K n H U σ hv ρ (τv ++ ws) (τd ++ wd)) (hl : ws.length = wd.length) (i : Nat) {w : V} {d : D} (h1 : ws[i]? = some w) (h2 : wd[i]? = some d) : (σ ++ hv ++ (τv ++ ws).map some)[ρ.length + τd.length + i]? = some (some w) ∧ (ρ ++ owns (τd ++ wd))[ρ.length + τd.length + i]? = some (some (.own d)) := by
  have l := I.len
  have tl := I.tl
  have tl : τv.length = τd.length := by simp at tl; omega
  constructor
  · rw [List.getElem?_append_right (by simp; omega), List.getElem?_map, List.getElem?_append_right (by simp; omega)]
    rw [show ρ.length + τd.length + i - (σ ++ hv).length - τv.length = i by simp; omega, h1]; rfl
  · unfold owns
    rw [List.getElem?_append_right (by omega), List.getElem?_map, List.getElem?_append_right (by omega)]
    rw [show ρ.length + τd.length + i - ρ.length - τd.length = i by omega, h2]; rfl
noncomputable def callR (G : List D → Option (D × List D)) (as : List Ar) (ρ1 : En) : Option (D × En) := (arDs ρ1 as).bind fun ds =>
  if rootsApart (arIos as) ∧ as.all (rvOk (arIos as)) = true then (G ds).bind fun r => if r.2.length = (arIos as).length then some (r.1, finE ρ1 (arIos as) r.2) else none else none
theorem Sit.callI {mask : List Bool} {G : List D → Option (D × List D)} {as : List Ar} {H1 : Hp} {U1 : Addr → Prop} {Q : VK} {ρ1 : En} (I1 : Sit K n H1 U1 σ hv ρ1 (τv ++ ws) (τd ++ wd)) (hl : ws.length = wd.length) (st1 : Stp U H U1 H1) (ao : ArgsOk K H1 U1 (σ ++ hv) ρ1 mask vs as ws wd)
    (h : callR G as ρ1 = some (d, ρ')) (k : ∀ v H' U', Sit K n H' U' σ hv ρ' (τv ++ [v]) (τd ++ [d]) → Stp U H U' H' → Q v H') : spI K mask G vs H1 Q E := by
  obtain ⟨ds, h2, h⟩ := Option.bind_eq_some_iff.mp h
  have c : rootsApart (arIos as) ∧ as.all (rvOk (arIos as)) = true := by
    by_cases c : rootsApart (arIos as) ∧ as.all (rvOk (arIos as)) = true
    · exact c
    · rw [if_neg c] at h; cases h
  rw [if_pos c] at h
  obtain ⟨⟨d', outs⟩, h3, h⟩ := Option.bind_eq_some_iff.mp h
  have h : (if outs.length = (arIos as).length then some (d', finE ρ1 (arIos as) outs) else none) = some (d, ρ') := h
  have co : outs.length = (arIos as).length := by
    by_cases co : outs.length = (arIos as).length
    · exact co
    · rw [if_neg co] at h; cases h
  rw [if_pos co] at h
  cases h
  have hlen := ao.len
  obtain ⟨il, iok⟩ := ao.ios
  obtain ⟨dl, hlent⟩ := ao.lent h2
  have I2 := I1.lendAll c.1 hlent il iok
  have l2 := I2.len
  have tl1 := I1.tl
  have lh : (holeE ρ1 (arIos as) (ioL mask vs)).length = ρ1.length := holeE_len _ _ _
  have idl : (ioL mask vs).length = (ioL mask ds).length := ioL_len hlen.1 dl
  -- what is lent is parted from all else
  have ok2 : EnvOk K H1 U1 ρ1.length ((σ ++ hv ++ (τv ++ ws).map some) ++ (ioL mask vs).map some) ((holeE ρ1 (arIos as) (ioL mask vs) ++ owns (τd ++ wd)) ++ owns (ioL mask ds)) := by
    have := I2.ok
    rw [lh, List.map_append, List.map_append (l₁ := τd ++ wd), ← List.append_assoc, ← List.append_assoc] at this
    exact this
  have lE : (σ ++ hv ++ (τv ++ ws).map some).length = (holeE ρ1 (arIos as) (ioL mask vs) ++ owns (τd ++ wd)).length := by
    unfold owns
    have l1 := I1.len
    simp [lh] at tl1 ⊢
    omega
  have hm : ρ1.length ≤ (σ ++ hv ++ (τv ++ ws).map some).length := by have l1 := I1.len; simp; omega
  obtain ⟨Ut, su, okT, seen, back⟩ := ok2.call lE hm (owns_noAli _)
  have lentM := lentD_mem hlent
  refine ⟨hlen.1, ds, Ut, d, outs, dl, okT, ao.seen h2 (fun i w x hw hx => ?_) (fun q x u pq pd mem => ?_), h3, fun v H2 U2 ok3 st3 => ?_⟩
  · -- what is under way
    obtain ⟨g1, g2⟩ := I2.drop (vs := ioL mask vs) (ds := ioL mask ds) idl |>.sets hl i hw hx
    rw [lh] at g1
    obtain ⟨F, r, nf⟩ := (seen _ w x g1).1 (by rw [lh] at g2; exact g2)
    exact r.view nf
  · -- what is only seen
    cases q with
    | ro y =>
      have pd : some y = some x := pd
      cases pd
      have pq : Vw K H1 (fun b => ¬ U1 b) u x := pq
      exact pq.mono fun b nb z => nb (su b z)
    | rt r p =>
      obtain ⟨hr, vr, d0, er, hd0, hg, hp⟩ := pq
      have pd1 : (rootD ρ1 r).bind (getP · p) = some x := pd
      rw [hd0] at pd1
      have pd2 : getP d0 p = some x := pd1
      have er' : (σ ++ hv ++ (τv ++ ws).map some)[r]? = some (some vr) := by rw [List.getElem?_append_left (by have l1 := I1.len; simp; omega)]; exact er
      have chk : ∀ io ∈ arIos as, io.r ≠ r ∨ apartP io.p p = true := by
        have := List.all_eq_true.mp c.2 _ mem
        have := List.all_eq_true.mp this
        intro io hio
        have := this io hio
        by_cases z : io.r = r
        · right; simpa [z] using this
        · left; exact z
      by_cases inL : ∃ (i : Nat) (io : Io), (arIos as)[i]? = some io ∧ io.r = r
      · obtain ⟨i, io, hi, e⟩ := inL
        subst e
        obtain ⟨v2, hv2, q⟩ := holeE_in (vs := ioL mask vs) c.1 il hi hd0 fun j hj => let ⟨a, _, b, _⟩ := lentM j hj; ⟨a, b⟩
        obtain ⟨a0, a1, b0, b1⟩ := lentM io (List.mem_of_getElem? hi)
        rw [hd0] at b0; cases b0
        have q' := rootD_of q
        obtain ⟨F, rr, nf⟩ := (seen io.r vr _ er').1 (by rw [List.getElem?_append_left (by omega)]; exact q')
        have ap := (chk io (List.mem_of_getElem? hi)).resolve_left fun z => z rfl
        exact rr.sub (by rw [getP_apart ap b1 rfl]; exact pd2) hp nf
      · have q : (holeE ρ1 (arIos as) (ioL mask vs))[r]? = some (some (.own d0)) := by
          rw [holeE_out fun io hio z => by
            obtain ⟨i, hi⟩ := List.mem_iff_getElem?.mp hio
            exact inL ⟨i, io, hi, z⟩]
          exact rootD_of hd0
        obtain ⟨F, rr, nf⟩ := (seen r vr _ er').1 (by rw [List.getElem?_append_left (by omega)]; exact q)
        exact rr.sub pd2 hp nf
  · -- all is given back
    obtain ⟨U3, ok4, st4⟩ := back H2 U2 _ _ ok3 st3 fun b hb => by
      cases hb with
      | head => exact .inr ⟨d, rfl⟩
      | tail _ hb => exact owns_only outs b hb
    have I3 : Sit K n H2 U3 σ hv (prune (holeE ρ1 (arIos as) (ioL mask vs))) (τv ++ ws ++ (v :: ioL mask vs)) (τd ++ wd ++ (d :: outs)) := by
      refine ⟨?_, by rw [prune_len, lh]; exact I1.len, I1.nn⟩
      rw [prune_len, lh]
      have ok5 : EnvOk K H2 U3 ρ1.length (σ ++ hv ++ (τv ++ ws).map some ++ (v :: ioL mask vs).map some) ((prune (holeE ρ1 (arIos as) (ioL mask vs)) ++ owns (τd ++ wd)) ++ owns (d :: outs)) := by
        refine ok4.weaken (by rw [List.length_append, List.length_append, List.length_append, prune_len, prune_len, List.length_append]; rfl) fun i β hβ => ?_
        by_cases hi : i < ρ1.length + (τd ++ wd).length
        · rw [List.getElem?_append_left (by simp [prune_len, owns, lh] at hi ⊢; omega)] at hβ
          rw [List.getElem?_append_left (by simp [prune_len, owns, lh] at hi ⊢; omega)]
          exact prune_app (owns_noAli _) i β hβ
        · rw [List.getElem?_append_right (by simp [prune_len, owns, lh] at hi ⊢; omega)] at hβ
          rw [List.getElem?_append_right (by simp [prune_len, owns, lh] at hi ⊢; omega)]
          simp [prune_len, owns, lh] at hβ ⊢
          exact hβ
      rw [List.map_append (l₁ := τv ++ ws), List.map_append (l₁ := τd ++ wd), ← List.append_assoc, ← List.append_assoc]
      exact ok5
    have I4 := I3.dropMid hl (by rw [List.length_cons, List.length_cons, il, co])
    have I5 : Sit K n H2 U3 σ hv (prune (holeE ρ1 (arIos as) (ioL mask vs))) (τv ++ [v] ++ ioL mask vs) (τd ++ [d] ++ outs) := by
      rw [← List.append_cons, ← List.append_cons]; exact I4
    have I6 := I5.backAll ρ1 (L := arIos as) c.1 il co fun i io u hi hu => by
      obtain ⟨a0, a1, b0, b1⟩ := lentM io (List.mem_of_getElem? hi)
      obtain ⟨v2, hv2, q⟩ := holeE_in (vs := ioL mask vs) c.1 il hi b0 fun j hj => let ⟨a, _, b, _⟩ := lentM j hj; ⟨a, b⟩
      rw [hu] at hv2; cases hv2
      exact ⟨a0, a1, b0, b1, by unfold rootD; rw [prune_own (rootD_of q)]⟩
    refine k v H2 U3 (I6.weaken ?_ ?_) (st1.trans st4)
    · unfold finE
      rw [putE_len, putE_len, prune_len, prune_len, holeE_len, holeE_len]
    · unfold finE
      refine putE_get ρ1 (by rw [prune_len, prune_len, holeE_len, holeE_len]) co (fun io hio => let ⟨a, _, b, _⟩ := lentM io hio; ⟨a, b⟩) (fun io hio => ?_) fun i β hi hβ => ?_
      · obtain ⟨a, _, b, _⟩ := lentM io hio
        rw [prune_len, holeE_len]
        exact (List.getElem?_eq_some_iff.mp (rootD_of b)).1
      · unfold prune at hβ ⊢
        rw [List.getElem?_map, holeE_out hi] at hβ ⊢
        rw [← hβ]
        have sim : Sim (holeE ρ1 (arIos as) (ioL mask vs)) (holeE ρ1 (arIos as) ((arIos as).map fun _ => V.non)) := holeE_sim c.1 hlent il (by simp)
        congr 1
        funext b
        exact pruneB_sim sim b
instance sm_callI {ta : TA} {mask : List Bool} {G : List D → Option (D × List D)} {fa : En → Option (List Ar × En)} [A : SC K n mask ta fa] : SM K n (tCall (spI K mask G) [] E ta) (fun ρ => (fa ρ).bind fun a => callR G a.1 a.2) := ⟨fun {σ hv H U ρ ρ' τv τd d Q} I h k => by
  obtain ⟨⟨as, ρ1⟩, h1, h⟩ := Option.bind_eq_some_iff.mp h
  refine A.s I h1 fun vs ws wd H1 U1 I1 hl st1 ao => ?_
  show spI K mask G (vs ++ []) H1 Q E
  rw [List.append_nil]
  exact I1.callI hl st1 ao h k⟩
end
end VL
namespace VL
open PySem L2
section
variable {K : W.Frag} {n : Nat} {H H' H1 H2 : Hp} {U U' : Addr → Prop} {σ hv : List (Option V)} {ρ ρ' : En} {τv vs : List V} {τd ds : List D} {v : V} {d : D} {E : Ends}
noncomputable def OwnL (K : W.Frag) (H H' : Hp) (vs : List V) (ds : List D) : Prop := vs.length = ds.length ∧ ∃ Fs : Nat → Addr → Prop, (∀ i j b, Fs i b → Fs j b → i = j) ∧ (∀ i b, Fs i b → H b = none ∧ Mut (H' b)) ∧ ∀ (i : Nat) (v : V) (d : D), vs[i]? = some v → ds[i]? = some d → Rep K H' (Fs i) v d
theorem OwnL.nil : OwnL K H H' [] [] := ⟨rfl, fun _ _ => False, fun _ _ _ z => z.elim, fun _ _ z => z.elim, fun i v d h => by simp at h⟩
theorem OwnL.cons (o : Own K H H1 v d) (s1 : Same H1 H2) (t : OwnL K H1 H2 vs ds) (s0 : Same H H1) : OwnL K H H2 (v :: vs) (d :: ds) := by
  obtain ⟨G, r, f⟩ := o
  obtain ⟨hl, Fs, dj, fr, rp⟩ := t
  have Gn : ∀ b, G b → ∀ i, ¬ Fs i b := fun b z i w => by
    obtain ⟨u, q⟩ := mut_some (f b z).2
    rw [(fr i b w).1] at q; cases q
  refine ⟨by rw [List.length_cons, List.length_cons, hl], fun i b => match i with | 0 => G b | i + 1 => Fs i b, fun i j b hi hj => ?_, fun i b hb => ?_, fun i x y hx hy => ?_⟩
  · cases i with
    | zero => cases j with
      | zero => rfl
      | succ j => exact absurd hj (Gn b hi j)
    | succ i => cases j with
      | zero => exact absurd hi (Gn b hj i)
      | succ j => rw [dj i j b hi hj]
  · cases i with
    | zero => exact ⟨(f b hb).1, mut_same (f b hb).2 s1⟩
    | succ i =>
      refine ⟨?_, (fr i b hb).2⟩
      cases q : H b with
      | none => rfl
      | some o => have := (fr i b hb).1; rw [s0 b o q] at this; cases this
  · cases i with
    | zero => cases hx; cases hy; exact r.same s1
    | succ i => exact rp i x y (by simpa using hx) (by simpa using hy)
theorem OwnL.node {k : Kd} {p : Addr} {o : HO} (h : OwnL K H H1 vs ds) (s : Same H H1) (hp : H1 p = none) (hold : (k = .tup ∧ o = .tup vs) ∨ (imm k = false ∧ fits K k vs.length ∧ ∃ dx, o = ho k dx vs)) : Own K H (upd H1 p o) (.ref p) (.nd k ds) := by
  obtain ⟨hl, Fs, dj, fr, rp⟩ := h
  have s2 : Same H1 (upd H1 p o) := same_new hp o
  have np : ∀ i, ¬ Fs i p := fun i z => by
    obtain ⟨u, w⟩ := mut_some (fr i p z).2
    rw [hp] at w; cases w
  have hp0 : H p = none := s.free hp
  refine ⟨fun b => (∃ i, Fs i b) ∨ (imm k = false ∧ b = p), .nd Fs ?_ hl dj (fun i b hb => ⟨.inl ⟨i, hb⟩, fun _ z => by rw [z] at hb; exact np i hb⟩) fun i v d hv hd => (rp i v d hv hd).same s2, fun b hb => ?_⟩
  · rcases hold with ⟨h1, h2⟩ | ⟨h1, h2, dx, h3⟩
    · subst h1
      show upd H1 p o p = some (.tup vs)
      rw [upd_same, h2]
    · exact Hold.put h1 (.inr ⟨h1, rfl⟩) ⟨h1, h2, dx, by rw [upd_same, h3]⟩
  · rcases hb with ⟨i, hb⟩ | ⟨h1, rfl⟩
    · exact ⟨(fr i b hb).1, mut_same (fr i b hb).2 s2⟩
    · refine ⟨hp0, ?_⟩
      rcases hold with ⟨z, _⟩ | ⟨_, _, dx, h3⟩
      · subst z; cases h1
      · rw [upd_same, h3]; exact mut_ho (a := b) h1
class SQA (K : W.Frag) (n : Nat) (t : TA) (f : outParam (En → Option (List D))) : Prop where
  s : ∀ {σ hv : List (Option V)} {H : Hp} {U : Addr → Prop} {ρ : En} {τv : List V} {τd : List D} {ds : List D} {Q : List V → Hp → Prop}, Sit K n H U σ hv ρ τv τd → f ρ = some ds → (∀ vs H', Same H H' → OwnL K H H' vs ds → Q vs H') → t σ H Q
instance sqa_nil : SQA K n tNil (fun _ => some []) := ⟨fun I h k => by cases h; exact k [] _ (Same.refl _) .nil⟩
instance sqa_cons {ta : TE} {tr : TA} {fa : En → Option D} {fr : En → Option (List D)} [A : SQ K n ta fa] [R : SQA K n tr fr] : SQA K n (tCons ta tr) (consA fa fr) := ⟨fun {σ hv H U ρ τv τd ds Q} I h k => by
  obtain ⟨a, ha, h⟩ := Option.bind_eq_some_iff.mp h
  obtain ⟨r, hr, h⟩ := Option.map_eq_some_iff.mp h
  cases h
  refine A.o I ha fun x H1 s1 o1 => ?_
  exact R.s (I.same s1) hr fun xs H2 s2 o2 => k (x :: xs) H2 (s1.trans s2) (OwnL.cons o1 s2 o2 s1)⟩
noncomputable def ndQ (k : Kd) (f : En → Option (List D)) (ρ : En) : Option D := (f ρ).bind fun r => if r.length ≤ sizeLine then some (.nd k r) else none
instance sf_tup {ta : TA} {fa : En → Option (List D)} [A : SQA K n ta fa] : SF K n (tTup ta) (ndQ .tup fa) := ⟨fun {σ hv H U ρ τv τd d Q} I h k => by
  obtain ⟨a, ha, h⟩ := Option.bind_eq_some_iff.mp h
  by_cases c : a.length ≤ sizeLine
  · rw [if_pos c] at h
    cases h
    refine A.s I ha fun xs H1 s1 o => ⟨by rw [o.1]; exact c, fun p hp => ?_⟩
    exact k _ _ (s1.trans (same_new hp _)) (o.node s1 hp (.inl ⟨rfl, rfl⟩))
  · rw [if_neg c] at h; cases h⟩
instance sf_lst {ta : TA} {fa : En → Option (List D)} [A : SQA K n ta fa] : SF K n (tLst ta) (ndQ .lst fa) := ⟨fun {σ hv H U ρ τv τd d Q} I h k => by
  obtain ⟨a, ha, h⟩ := Option.bind_eq_some_iff.mp h
  by_cases c : a.length ≤ sizeLine
  · rw [if_pos c] at h
    cases h
    refine A.s I ha fun xs H1 s1 o => ⟨by rw [o.1]; exact c, fun p hp => ?_⟩
    exact k _ _ (s1.trans (same_new hp _)) (o.node s1 hp (.inr ⟨rfl, trivial, 0, rfl⟩))
  · rw [if_neg c] at h; cases h⟩
theorem VwL.node {k : Kd} {p : Addr} {o : HO} (h : VwL K H T1 vs ds) (hp : H p = none) (hold : (k = .tup ∧ o = .tup vs) ∨ (imm k = false ∧ fits K k vs.length ∧ ∃ dx, o = ho k dx vs)) : Vw K (upd H p o) T1 (.ref p) (.nd k ds) := by
  refine .nd (fun _ => trivial) ?_ h.1 fun i v d hv hd => (h.2 i v d hv hd).same (same_new hp o)
  rcases hold with ⟨h1, h2⟩ | ⟨h1, h2, dx, h3⟩
  · subst h1
    exact ⟨trivial, by show upd H p o p = some (.tup vs); rw [upd_same, h2]⟩
  · exact CellM.cell ⟨h1, h2, dx, by rw [upd_same, h3]⟩
instance (priority := 800) sv_tup {ta : TA} {fa : En → Option (List D)} [A : SA K n ta fa] : SV K n (tTup ta) (ndQ .tup fa) := ⟨fun {σ hv H U ρ τv τd d Q} I h k => by
  obtain ⟨a, ha, h⟩ := Option.bind_eq_some_iff.mp h
  by_cases c : a.length ≤ sizeLine
  · rw [if_pos c] at h
    cases h
    refine A.s I ha fun xs H1 s1 o => ⟨by rw [o.1]; exact c, fun p hp => ?_⟩
    exact k _ _ (s1.trans (same_new hp _)) (o.node hp (.inl ⟨rfl, rfl⟩))
  · rw [if_neg c] at h; cases h⟩
open Classical in
noncomputable def intD (C : Int → Int → Prop) (g : Int → Int → V) (a b : D) : Option D := match a, b with
  | .sc (.int i), .sc (.int j) => if C i j then some (.sc (g i j)) else none
  | _, _ => none
noncomputable def int0 (g : Int → Int → V) (a b : D) : Option D := match a, b with
  | .sc (.int i), .sc (.int j) => some (.sc (g i j))
  | _, _ => none
instance op_int0 {g : Int → Int → V} : OpD K (rI0 g) (int0 g) := ⟨fun {H x y dx dy d Q} w1 w2 h k => by
  unfold int0 at h
  split at h
  · next i j => cases h; exact ⟨i, j, w1.scal, w2.scal, k _ H (Same.refl H) (.sc _)⟩
  · cases h⟩
instance op_intD {C : Int → Int → Prop} {g : Int → Int → V} : OpD K (rI C g) (intD C g) := ⟨fun {H x y dx dy d Q} w1 w2 h k => by
  unfold intD at h
  split at h
  · next i j =>
    by_cases c : C i j
    · rw [if_pos c] at h; cases h; exact ⟨i, j, w1.scal, w2.scal, c, k _ H (Same.refl H) (.sc _)⟩
    · rw [if_neg c] at h; cases h
  · cases h⟩
noncomputable def int1 (g : Int → V) (a : D) : Option D := match a with
  | .sc (.int i) => some (.sc (g i))
  | _ => none
instance un_int {g : Int → V} : UnD K (rU g) (int1 g) := ⟨fun {H x dx d Q} w1 h k => by
  unfold int1 at h
  split at h
  · next i => cases h; exact ⟨i, w1.scal, k _ H (Same.refl H) (.sc _)⟩
  · cases h⟩
mutual
noncomputable def toPy : D → Option PyData
  | .sc .non => some .none
  | .sc (.bl b) => some (.bool b)
  | .sc (.int i) => some (.int i)
  | .sc (.str x) => some (.str x)
  | .nd .tup cs => (toPyL cs).map .tuple
  | .nd .lst cs => (toPyL cs).map .list
  | .nd .frl cs => (toPyL cs).map .list
  | _ => none
noncomputable def toPyL : List D → Option (List PyData)
  | [] => some []
  | d :: ds => (toPy d).bind fun x => (toPyL ds).map (x :: ·)
end
theorem vw_list : ∀ {ds : List D} {vs : List V} {ps : List PyData}, vs.length = ds.length → (∀ (i : Nat) (v : V) (d : D) (p : PyData), vs[i]? = some v → ds[i]? = some d → toPy d = some p → RdD K H v p) → toPyL ds = some ps → RdAll K H vs ps
  | [], [], _, _, _, h => by rw [toPyL] at h; cases h; exact .nil
  | [], _ :: _, _, h, _, _ => by cases h
  | _ :: _, [], _, h, _, _ => by cases h
  | d :: ds, v :: vs, ps, hl, hk, h => by
    rw [toPyL] at h
    obtain ⟨x, h1, h⟩ := Option.bind_eq_some_iff.mp h
    obtain ⟨r, h2, h⟩ := Option.map_eq_some_iff.mp h
    subst h
    exact .cons (hk 0 v d x rfl rfl h1) (vw_list (Nat.succ.inj hl) (fun i v d p a b c => hk (i + 1) v d p (by simpa using a) (by simpa using b) c) h2)
theorem Vw.py {N : Addr → Prop} (h : Vw K H N v d) : ∀ {p : PyData}, toPy d = some p → RdD K H v p := by
  induction h with
  | sc v =>
    intro p e
    cases v with
    | non => rw [toPy] at e; cases e; exact .non
    | bl b => rw [toPy] at e; cases e; exact .bl b
    | int i => rw [toPy] at e; cases e; exact .int i
    | str x => rw [toPy] at e; cases e; exact .str x
    | byt _ => simp [toPy] at e
    | flt _ => simp [toPy] at e
    | ref _ => simp [toPy] at e
    | ty _ => simp [toPy] at e
  | hl v => intro p e; simp [toPy] at e
  | @nd a k vs cs h1 h2 h3 _ ih =>
    intro p e
    cases k with
    | tup =>
      rw [toPy] at e
      obtain ⟨ps, e1, e2⟩ := Option.map_eq_some_iff.mp e
      subst e2
      exact .tup (SqT.of h2.2) (vw_list h3 (fun i v d p x y z => ih i v d x y z) e1)
    | lst =>
      rw [toPy] at e
      obtain ⟨ps, e1, e2⟩ := Option.map_eq_some_iff.mp e
      subst e2
      exact .lst (.inl (.inl h2.2)) (vw_list h3 (fun i v d p x y z => ih i v d x y z) e1)
    | frl =>
      rw [toPy] at e
      obtain ⟨ps, e1, e2⟩ := Option.map_eq_some_iff.mp e
      subst e2
      exact .lst (FrL.sq h2.2) (vw_list h3 (fun i v d p x y z => ih i v d x y z) e1)
    | _ => simp [toPy] at e
noncomputable def rEqD (K : W.Frag) : R2 := fun x y H Q => ∃ dx dy, RdD K H x dx ∧ RdD K H y dy ∧ dx.canLay0 = true ∧ dy.canLay0 = true ∧ dx.depth ≤ 60 ∧ Q (.bl (PyData.eqv dx dy)) H
noncomputable def rNeD (K : W.Frag) : R2 := fun x y H Q => ∃ dx dy, RdD K H x dx ∧ RdD K H y dy ∧ dx.canLay0 = true ∧ dy.canLay0 = true ∧ dx.depth ≤ 60 ∧ Q (.bl (!PyData.eqv dx dy)) H
theorem op_eqV {X : Cx} (hu : X.A.units + 64 < cLine) : OpR X (compareOp .Eq) (rEqD X.K) := op_eqD hu
theorem op_neV {X : Cx} (hu : X.A.units + 64 < cLine) : OpR X (compareOp .NotEq) (rNeD X.K) := op_neD hu
noncomputable def eqP (g : Bool → Bool) (a b : D) : Option D := (toPy a).bind fun x => (toPy b).bind fun y => if x.canLay0 = true ∧ y.canLay0 = true ∧ x.depth ≤ 60 then some (.sc (.bl (g (PyData.eqv x y)))) else none
instance op_eqP : OpD K (rEqD K) (eqP id) := ⟨fun {H x y dx dy d Q} w1 w2 h k => by
  obtain ⟨a, h1, h⟩ := Option.bind_eq_some_iff.mp h
  obtain ⟨b, h2, h⟩ := Option.bind_eq_some_iff.mp h
  by_cases c : a.canLay0 = true ∧ b.canLay0 = true ∧ a.depth ≤ 60
  · rw [if_pos c] at h; cases h
    exact ⟨a, b, w1.py h1, w2.py h2, c.1, c.2.1, c.2.2, k _ H (Same.refl H) (.sc _)⟩
  · rw [if_neg c] at h; cases h⟩
instance op_neP : OpD K (rNeD K) (eqP (!·)) := ⟨fun {H x y dx dy d Q} w1 w2 h k => by
  obtain ⟨a, h1, h⟩ := Option.bind_eq_some_iff.mp h
  obtain ⟨b, h2, h⟩ := Option.bind_eq_some_iff.mp h
  by_cases c : a.canLay0 = true ∧ b.canLay0 = true ∧ a.depth ≤ 60
  · rw [if_pos c] at h; cases h
    exact ⟨a, b, w1.py h1, w2.py h2, c.1, c.2.1, c.2.2, k _ H (Same.refl H) (.sc _)⟩
  · rw [if_neg c] at h; cases h⟩
end
end VL
namespace VL
open PySem PySem.Spec PyProof.Rows L2
section
variable {κ : Type} [DecidableEq κ]
noncomputable def posK (k : κ) : List κ → Option Nat
  | [] => none
  | g :: r => if g = k then some 0 else (posK k r).map (· + 1)
theorem posK_val {k : κ} : ∀ {ks : List κ} {vs : List V}, ks.length = vs.length → valV (ks.zip vs) k = (posK k ks).bind (vs[·]?)
  | [], [], _ => rfl
  | [], _ :: _, h => by cases h
  | _ :: _, [], h => by cases h
  | g :: r, v :: vs, h => by
    rw [List.zip_cons_cons, posK]
    by_cases c : g = k
    · rw [valV_pos (by exact c), if_pos c]; rfl
    · rw [valV_neg (by exact c), if_neg c, posK_val (Nat.succ.inj h)]
      cases posK k r with
      | none => rfl
      | some i => simp
end
noncomputable def keyOf : D → Option Key
  | .sc (.int i) => some (.inl i)
  | .sc (.str x) => some (.inr x)
  | _ => none
noncomputable def keysOf : List D → Option (List Key)
  | [] => some []
  | d :: r => (keyOf d).bind fun k => (keysOf r).map (k :: ·)
section
variable {K : W.Frag} {n : Nat} {H H' H1 H2 : Hp} {U U' : Addr → Prop} {σ hv : List (Option V)} {ρ ρ' : En} {τv vs : List V} {τd ds : List D} {v y : V} {d : D} {E : Ends} {N : Addr → Prop}
theorem Vw.key {k : Key} (h : Vw K H N v d) (e : keyOf d = some k) : v = kV k := by
  unfold keyOf at e
  split at e
  · cases e; exact h.scal
  · cases e; exact h.scal
  · cases e
theorem keys_vs : ∀ {cs : List D} {vs : List V} {ks : List Key}, vs.length = cs.length → (∀ (i : Nat) (v : V) (d : D), vs[i]? = some v → cs[i]? = some d → Vw K H N v d) → keysOf cs = some ks → vs = ks.map kV
  | [], [], _, _, _, h => by rw [keysOf] at h; cases h; rfl
  | [], _ :: _, _, h, _, _ => by cases h
  | _ :: _, [], _, h, _, _ => by cases h
  | d :: cs, v :: vs, ks, hl, hk, h => by
    rw [keysOf] at h
    obtain ⟨x, h1, h⟩ := Option.bind_eq_some_iff.mp h
    obtain ⟨r, h2, h⟩ := Option.map_eq_some_iff.mp h
    subst h
    rw [List.map_cons, (hk 0 v d rfl rfl).key h1, keys_vs (Nat.succ.inj hl) (fun i v d a b => hk (i + 1) v d (by simpa using a) (by simpa using b)) h2]
noncomputable def dkPos (d i : D) : Option (Option Nat) := match d, i with
  | .nd (.dic ks) _, i => (keyOf i).map fun k => posK k ks
  | .nd (.dit ks) _, .nd .tup cs => (keysOf cs).map fun k => posK k ks
  | _, _ => none
theorem Cell.dget {a : Addr} {k : Kd} {cs : List D} {dy : D} {o : Option Nat} (hc : Cell K H a k vs) (hl : vs.length = cs.length) (w : Vw K H N y dy) (h : dkPos (.nd k cs) dy = some o) : DGet H a y (o.bind (vs[·]?)) := by
  unfold dkPos at h
  split at h
  · next ks _ i e =>
    cases e
    obtain ⟨kk, h1, h2⟩ := Option.map_eq_some_iff.mp h
    subst h2
    exact .inl ⟨_, kk, hc.2, w.key h1, (posK_val hc.1).symm⟩
  · next ks _ cs' e =>
    cases e
    obtain ⟨kk, h1, h2⟩ := Option.map_eq_some_iff.mp h
    subst h2
    obtain ⟨b, us, rfl, _, hb, hl2, kid⟩ := w.node
    have e := keys_vs hl2 kid h1
    exact .inr ⟨_, kk, b, hc.2, rfl, by rw [← e]; exact hb.2, (posK_val hc.1).symm⟩
  · cases h
noncomputable def rIxD : R2 := fun x y H Q => ∃ a v, x = .ref a ∧ DGet H a y (some v) ∧ Q v H
noncomputable def rIxU (K : W.Frag) : R2 := fun x y H Q => rIx K x y H Q ∨ rIxD x y H Q
theorem ix_dictR {X : Cx} (hu : X.A.units + 1 < cLine) : IxR X rIxD := by
  intro value slice pins s σ H x y v u Q I rx ry h hs
  obtain ⟨a, w, rfl, g, q⟩ := h
  cases rx
  have hT := dict_typeIs I g
  unfold subscriptTail
  refine wpAny_bind ?_
  rw [getitemInPython_of_ne hT.not_modules]
  refine wpAny_bind (wpAny_specialOf hT PySem.F.slot_dict_getitem.lookup ?_)
  have fin : wpAny (model X.prog X.w) X.A (subscripted slice false (.ref a) u) (fun r s₃ => wpAny (model X.prog X.w) X.A (letTemporaryGo value (.ref a) r >>= fun _ => pure r) (EP X pins σ Q) X.xe s₃) X.xe s := by
    rw [hs]
    exact wpAny_operating (d_getItem hu I g ry fun w' s3 I3 rw' => wpAny_bind (wpAny_letTemporaryGo (wpAny_pure ⟨w, H, I3, rw', q⟩)))
  first
    | exact wpAny_pure (wpAny_bind fin)
    | exact wpAny_bind (wpAny_pure (wpAny_bind fin))
    | exact wpAny_bind fin
theorem ix_any {X : Cx} (hu : X.A.units + 1 < cLine) : IxR X (rIxU X.K) := IxR.or ix_seq (ix_dictR hu)
noncomputable def ixU (d i : D) : Option Nat := match ixD d i with
  | some j => some j
  | none => (dkPos d i).join
instance ix_anyD : IxD K (rIxU K) ixU ixS where
  t := fun w2 h q => .inl (ix_seqD.t w2 h q)
  s := fun {H a k vs cs y u dy i Q} hc hl w2 h hu q => by
    unfold ixU at h
    split at h
    · next j e => cases h; exact .inl (ix_seqD.s hc hl w2 e hu q)
    · cases e : dkPos (.nd k cs) dy with
      | none => rw [e] at h; cases h
      | some o =>
        rw [e] at h
        have h : o = some i := h
        subst h
        have g := hc.dget hl w2 e
        have : (some i).bind (vs[·]?) = some u := hu
        rw [this] at g
        exact .inr ⟨a, u, rfl, g, q⟩
theorem OpR.or {X : Cx} {f : Value → Value → Sem Value} {r r' : R2} (h : OpR X f r) (h' : OpR X f r') : OpR X f (fun x y H Q => r x y H Q ∨ r' x y H Q) := by
  intro pins s σ H x y v u Q I rx ry q
  rcases q with q | q
  · exact h pins s σ H x y v u Q I rx ry q
  · exact h' pins s σ H x y v u Q I rx ry q
noncomputable def rAddStr : R2 := fun x y H Q => ∃ i j, x = .str i ∧ y = .str j ∧ i.length + j.length ≤ sizeLine ∧ Q (.str (i ++ j)) H
noncomputable def rAddU (K : W.Frag) : R2 := fun x y H Q => rI0 (fun i j => .int (i + j)) x y H Q ∨ rAddStr x y H Q ∨ rCat x y H Q ∨ rCatT K x y H Q
theorem op_addU {X : Cx} : OpR X (binaryOp .Add) (rAddU X.K) := OpR.or op_add (OpR.or op_add_str (OpR.or op_cat op_catT))
noncomputable def addD (a b : D) : Option D := match a, b with
  | .sc (.int i), .sc (.int j) => some (.sc (.int (i + j)))
  | .sc (.str i), .sc (.str j) => if i.length + j.length ≤ sizeLine then some (.sc (.str (i ++ j))) else none
  | .nd .lst xs, .nd .lst ys => if xs.length + ys.length ≤ sizeLine ∧ plainL (xs ++ ys) = true then some (.nd .lst (xs ++ ys)) else none
  | .nd .tup xs, .nd .tup ys => if xs ≠ [] ∧ xs.length + ys.length ≤ sizeLine ∧ plainL (xs ++ ys) = true then some (.nd .tup (xs ++ ys)) else none
  | _, _ => none
theorem VwL.app {us : List V} {es : List D} (h : VwL K H N vs ds) (h' : VwL K H N us es) : VwL K H N (vs ++ us) (ds ++ es) := by
  refine ⟨by rw [List.length_append, List.length_append, h.1, h'.1], fun i v d hv hd => ?_⟩
  by_cases c : i < vs.length
  · rw [List.getElem?_append_left c] at hv
    rw [List.getElem?_append_left (by rw [← h.1]; exact c)] at hd
    exact h.2 i v d hv hd
  · rw [List.getElem?_append_right (by omega)] at hv
    rw [List.getElem?_append_right (by rw [← h.1]; omega), ← h.1] at hd
    exact h'.2 _ v d hv hd
theorem VwL.own {k : Kd} {p : Addr} {o : HO} (h : VwL K H T1 vs ds) (pl : plainL ds = true) (hp : H p = none) (hold : (k = .tup ∧ o = .tup vs) ∨ (imm k = false ∧ fits K k vs.length ∧ ∃ dx, o = ho k dx vs)) : Own K H (upd H p o) (.ref p) (.nd k ds) :=
  OwnL.node (H := H) (H1 := H) ⟨h.1, fun _ _ => False, fun _ _ _ z => z.elim, fun _ _ z => z.elim, fun i v d hv hd => (h.2 i v d hv hd).plain (plainL_get pl hd)⟩ (Same.refl H) hp hold
theorem Vw.kids' {k : Kd} {cs : List D} (w : Vw K H T1 v (.nd k cs)) : ∃ a vs, v = .ref a ∧ Cell K H a k vs ∧ VwL K H T1 vs cs := by
  obtain ⟨a, vs, e, _, hc, hl, kid⟩ := w.node
  exact ⟨a, vs, e, hc, hl, kid⟩
instance op_addD : OpD K (rAddU K) addD := ⟨fun {H x y dx dy d Q} w1 w2 h k => by
  unfold addD at h
  split at h
  · next i j => cases h; exact .inl ⟨i, j, w1.scal, w2.scal, k _ H (Same.refl H) (.sc _)⟩
  · next i j =>
    by_cases c : i.length + j.length ≤ sizeLine
    · rw [if_pos c] at h; cases h; exact .inr (.inl ⟨i, j, w1.scal, w2.scal, c, k _ H (Same.refl H) (.sc _)⟩)
    · rw [if_neg c] at h; cases h
  · next xs ys =>
    by_cases c : xs.length + ys.length ≤ sizeLine ∧ plainL (xs ++ ys) = true
    · rw [if_pos c] at h; cases h
      obtain ⟨a, vs, rfl, hc, vl⟩ := w1.kids'
      obtain ⟨b, us, rfl, hc2, ul⟩ := w2.kids'
      refine .inr (.inr (.inl ⟨a, b, vs, us, rfl, rfl, hc.2, hc2.2, by rw [vl.1, ul.1]; exact c.1, fun p hp => ?_⟩))
      exact k _ _ (same_new hp _) ((vl.app ul).own c.2 hp (.inr ⟨rfl, trivial, 0, rfl⟩))
    · rw [if_neg c] at h; cases h
  · next xs ys =>
    by_cases c : xs ≠ [] ∧ xs.length + ys.length ≤ sizeLine ∧ plainL (xs ++ ys) = true
    · rw [if_pos c] at h; cases h
      obtain ⟨a, vs, rfl, hc, vl⟩ := w1.kids'
      obtain ⟨b, us, rfl, hc2, ul⟩ := w2.kids'
      have nv : vs ≠ [] := fun z => by
        subst z
        have := vl.1
        exact c.1 (List.eq_nil_of_length_eq_zero this.symm)
      refine .inr (.inr (.inr ⟨a, b, vs, us, rfl, rfl, SqT.of hc.2, SqT.of hc2.2, nv, by rw [vl.1, ul.1]; exact c.2.1, fun z => ?_, fun _ p hp => ?_⟩))
      · subst z
        have e : ys = [] := List.eq_nil_of_length_eq_zero ul.1.symm
        subst e
        rw [List.append_nil] at c k
        exact k _ H (Same.refl H) (Own.plain w1 c.2.2)
      · exact k _ _ (same_new hp _) ((vl.app ul).own c.2.2 hp (.inl ⟨rfl, rfl⟩))
    · rw [if_neg c] at h; cases h
  · cases h⟩
class CallD (K : W.Frag) (r : List V → Hp → VK → Prop) (g : outParam (List D → Option D)) : Prop where
  s : ∀ {H : Hp} {vs : List V} {ds : List D} {d : D} {Q : VK}, VwL K H T1 vs ds → g ds = some d → (∀ v H', Same H H' → Own K H H' v d → Q v H') → r vs H Q
instance sf_cb {r : List V → Hp → VK → Prop} {ta : TA} {fa : En → Option (List D)} {g : List D → Option D} [A : SA K n ta fa] [C : CallD K r g] : SF K n (tCB r ta) (fun ρ => (fa ρ).bind g) := ⟨fun {σ hv H U ρ τv τd d Q} I h k => by
  obtain ⟨a, ha, h⟩ := Option.bind_eq_some_iff.mp h
  refine A.s I ha fun xs H1 s1 w => ?_
  exact C.s w h fun v H2 s2 o => k v H2 (s1.trans s2) (o.early s1)⟩
theorem Sit.lasts (I : Sit K n H U σ hv ρ (τv ++ vs) (τd ++ ds)) (hl : vs.length = ds.length) : VwL K H T1 vs ds := by
  refine ⟨hl, fun i v d hv' hd => ?_⟩
  obtain ⟨g1, g2⟩ := I.sets hl i hv' hd
  obtain ⟨_, _, Fs, _, _, sl⟩ := I.ok
  obtain ⟨v', ev, sv⟩ := sl _ _ g2
  rw [g1] at ev; cases ev
  exact Rep.vw sv
theorem VwL.one {d : D} (h : VwL K H N vs [d]) : ∃ v, vs = [v] ∧ Vw K H N v d := by
  match vs, h with
  | [v], h => exact ⟨v, rfl, h.2 0 v d rfl rfl⟩
  | [], h => cases h.1
  | _ :: _ :: _, h => cases h.1
theorem VwL.two {d e : D} (h : VwL K H N vs [d, e]) : ∃ v u, vs = [v, u] ∧ Vw K H N v d ∧ Vw K H N u e := by
  match vs, h with
  | [v, u], h => exact ⟨v, u, rfl, h.2 0 v d rfl rfl, h.2 1 u e rfl rfl⟩
  | [], h => cases h.1
  | [_], h => cases h.1
  | _ :: _ :: _ :: _, h => cases h.1
theorem call_lenR {X : Cx} : CallR X (.builtin "len") (fun xs H Q => ∃ a kvs, xs = [V.ref a] ∧ Rd H a (.dK kvs) ∧ Q (.int kvs.length) H) := by
  intro pins s σ H xs us Q I r h
  obtain ⟨a, kvs, rfl, ha, q⟩ := h
  obtain ⟨u, rfl, ru⟩ := vals1 r
  cases ru
  exact d_len I ha fun t s' I' => ⟨.int kvs.length, H, I', ⟨t, rfl⟩, q⟩
noncomputable def rLenU (K : W.Frag) : List V → Hp → VK → Prop := fun xs H Q => (∃ p ys, xs = [.ref p] ∧ (SqL K H p ys ∨ SqT K H p ys) ∧ Q (.int ys.length) H) ∨ (∃ z, xs = [.str z] ∧ z.length ≤ sizeLine ∧ Q (.int z.length) H) ∨ ∃ a kvs, xs = [V.ref a] ∧ Rd H a (.dK kvs) ∧ Q (.int kvs.length) H
theorem call_lenU {X : Cx} : CallR X (.builtin "len") (rLenU X.K) := by
  intro pins s σ H xs us Q I r h
  rcases h with h | h | h
  · exact call_len_seq pins s σ H xs us Q I r h
  · exact call_len_str pins s σ H xs us Q I r h
  · exact call_lenR pins s σ H xs us Q I r h
noncomputable def lenD : List D → Option D
  | [.nd .lst cs] => some (.sc (.int cs.length))
  | [.nd .tup cs] => some (.sc (.int cs.length))
  | [.nd .frl cs] => some (.sc (.int cs.length))
  | [.sc (.str z)] => if z.length ≤ sizeLine then some (.sc (.int z.length)) else none
  | [.nd (.dic _) cs] => some (.sc (.int cs.length))
  | _ => none
instance cd_len : CallD K (rLenU K) lenD := ⟨fun {H vs ds d Q} w h k => by
  unfold lenD at h
  split at h
  · next cs => cases h; obtain ⟨v, rfl, w1⟩ := w.one; obtain ⟨a, us, rfl, hc, vl⟩ := w1.kids'; rw [← vl.1] at k; exact .inl ⟨a, us, rfl, .inl (SqL.of hc.2), k _ H (Same.refl H) (.sc _)⟩
  · next cs => cases h; obtain ⟨v, rfl, w1⟩ := w.one; obtain ⟨a, us, rfl, hc, vl⟩ := w1.kids'; rw [← vl.1] at k; exact .inl ⟨a, us, rfl, .inr (SqT.of hc.2), k _ H (Same.refl H) (.sc _)⟩
  · next cs => cases h; obtain ⟨v, rfl, w1⟩ := w.one; obtain ⟨a, us, rfl, hc, vl⟩ := w1.kids'; rw [← vl.1] at k; exact .inl ⟨a, us, rfl, .inl (FrL.sq hc.2), k _ H (Same.refl H) (.sc _)⟩
  · next z =>
    by_cases c : z.length ≤ sizeLine
    · rw [if_pos c] at h; cases h; obtain ⟨v, rfl, w1⟩ := w.one; rw [w1.scal]; exact .inr (.inl ⟨z, rfl, c, k _ H (Same.refl H) (.sc _)⟩)
    · rw [if_neg c] at h; cases h
  · next ks cs =>
    cases h
    obtain ⟨v, rfl, w1⟩ := w.one
    obtain ⟨a, us, rfl, hc, vl⟩ := w1.kids'
    have hl : ks.length = us.length := hc.1
    have rd : Rd H a (.dK (ks.zip us)) := hc.2
    refine .inr (.inr ⟨a, ks.zip us, rfl, rd, ?_⟩)
    rw [List.length_zip, hl, Nat.min_self, vl.1]
    exact k _ H (Same.refl H) (.sc _)
  · cases h⟩
noncomputable def rListOf (K : W.Frag) : List V → Hp → VK → Prop := fun xs H Q => ∃ p ys, xs = [.ref p] ∧ (SqL K H p ys ∨ SqT K H p ys) ∧ ∀ l, H l = none → Q (.ref l) (upd H l (.lst ys))
theorem call_listOf {X : Cx} : CallR X (.type "list") (rListOf X.K) := call_list_of
noncomputable def rTupOf (K : W.Frag) : List V → Hp → VK → Prop := fun xs H Q => ∃ p ys, xs = [.ref p] ∧ ((SqL K H p ys ∧ ∀ l, H l = none → Q (.ref l) (upd H l (.tup ys))) ∨ (SqT K H p ys ∧ Q (.ref p) H))
theorem call_tupOf {X : Cx} : CallR X (.type "tuple") (rTupOf X.K) := call_tuple_of
noncomputable def listD : List D → Option D
  | [.nd .lst cs] => if plainL cs = true then some (.nd .lst cs) else none
  | [.nd .tup cs] => if plainL cs = true then some (.nd .lst cs) else none
  | _ => none
instance cd_list : CallD K (rListOf K) listD := ⟨fun {H vs ds d Q} w h k => by
  unfold listD at h
  split at h
  · next cs =>
    by_cases c : plainL cs = true
    · rw [if_pos c] at h; cases h; obtain ⟨v, rfl, w1⟩ := w.one; obtain ⟨a, us, rfl, hc, vl⟩ := w1.kids'
      exact ⟨a, us, rfl, .inl (SqL.of hc.2), fun l hl => k _ _ (same_new hl _) (vl.own c hl (.inr ⟨rfl, trivial, 0, rfl⟩))⟩
    · rw [if_neg c] at h; cases h
  · next cs =>
    by_cases c : plainL cs = true
    · rw [if_pos c] at h; cases h; obtain ⟨v, rfl, w1⟩ := w.one; obtain ⟨a, us, rfl, hc, vl⟩ := w1.kids'
      exact ⟨a, us, rfl, .inr (SqT.of hc.2), fun l hl => k _ _ (same_new hl _) (vl.own c hl (.inr ⟨rfl, trivial, 0, rfl⟩))⟩
    · rw [if_neg c] at h; cases h
  · cases h⟩
noncomputable def tupD : List D → Option D
  | [.nd .lst cs] => if plainL cs = true then some (.nd .tup cs) else none
  | [.nd .tup cs] => if plainL cs = true then some (.nd .tup cs) else none
  | _ => none
instance cd_tup : CallD K (rTupOf K) tupD := ⟨fun {H vs ds d Q} w h k => by
  unfold tupD at h
  split at h
  · next cs =>
    by_cases c : plainL cs = true
    · rw [if_pos c] at h; cases h; obtain ⟨v, rfl, w1⟩ := w.one; obtain ⟨a, us, rfl, hc, vl⟩ := w1.kids'
      exact ⟨a, us, rfl, .inl ⟨SqL.of hc.2, fun l hl => k _ _ (same_new hl _) (vl.own c hl (.inl ⟨rfl, rfl⟩))⟩⟩
    · rw [if_neg c] at h; cases h
  · next cs =>
    by_cases c : plainL cs = true
    · rw [if_pos c] at h; cases h; obtain ⟨v, rfl, w1⟩ := w.one; obtain ⟨a, us, rfl, hc, vl⟩ := w1.kids'
      exact ⟨a, us, rfl, .inr ⟨SqT.of hc.2, k _ H (Same.refl H) (Own.plain w1 c)⟩⟩
    · rw [if_neg c] at h; cases h
  · cases h⟩
noncomputable def rMax2 : List V → Hp → VK → Prop := fun xs H Q => ∃ i j, xs = [.int i, .int j] ∧ Q (.int (if j > i then j else i)) H
noncomputable def rMin2 : List V → Hp → VK → Prop := fun xs H Q => ∃ i j, xs = [.int i, .int j] ∧ Q (.int (if j < i then j else i)) H
theorem call_max2' {X : Cx} (hc : X.calm = true) : CallR X (.builtin "max") rMax2 := call_max2 hc
theorem call_min2' {X : Cx} (hc : X.calm = true) : CallR X (.builtin "min") rMin2 := call_min2 hc
noncomputable def int2D (g : Int → Int → V) : List D → Option D
  | [.sc (.int i), .sc (.int j)] => some (.sc (g i j))
  | _ => none
instance cd_max2 : CallD K rMax2 (int2D fun i j => .int (if j > i then j else i)) := ⟨fun {H vs ds d Q} w h k => by
  unfold int2D at h
  split at h
  · next i j => cases h; obtain ⟨v, u, rfl, w1, w2⟩ := w.two; rw [w1.scal, w2.scal]; exact ⟨i, j, rfl, k _ H (Same.refl H) (.sc _)⟩
  · cases h⟩
instance cd_min2 : CallD K rMin2 (int2D fun i j => .int (if j < i then j else i)) := ⟨fun {H vs ds d Q} w h k => by
  unfold int2D at h
  split at h
  · next i j => cases h; obtain ⟨v, u, rfl, w1, w2⟩ := w.two; rw [w1.scal, w2.scal]; exact ⟨i, j, rfl, k _ H (Same.refl H) (.sc _)⟩
  · cases h⟩
end
end VL
namespace VL
open PySem PySem.Spec PyProof.Rows L2
noncomputable def isiB (a b : String) : Bool := a == b || (a == "bool" && b == "int")
noncomputable def tyNames : List String := ["NoneType", "bool", "int", "str", "tuple", "list", "dict"]
noncomputable def clNames : List String := ["bool", "int", "str", "tuple", "list", "dict"]
theorem kit_yes (K : W.Frag) : W.kitOne K (.type "bool") (.type "int") = some true := by
  unfold W.kitOne
  rw [if_neg (by decide)]
  show (if W.kitMeta "int" = true then W.subIn K (.type "bool") (.type "int") else none) = some true
  rw [if_pos (by decide +kernel)]
  show (fastBuiltinMro "bool").map (·.contains (.type "int")) = some true
  decide +kernel
theorem kit_tab (K : W.Frag) : ∀ a ∈ tyNames, ∀ b ∈ clNames, W.kitOne K (.type a) (.type b) = some (isiB a b) := by
  intro a ha b hb
  simp only [tyNames, clNames, List.mem_cons, List.not_mem_nil, or_false] at ha hb
  rcases ha with rfl | rfl | rfl | rfl | rfl | rfl | rfl <;> rcases hb with rfl | rfl | rfl | rfl | rfl | rfl <;> first
    | exact kit_yes K
    | exact kit_same K _ (by decide)
    | exact kit_no K _ _ (by decide) (by decide +kernel) (by decide +kernel)
theorem kit_any (K : W.Frag) {a : String} (ha : a ∈ tyNames) : ∀ {ts : List String}, (∀ b ∈ ts, b ∈ clNames) → W.kitAny K (.type a) (ts.map Value.type) = some (ts.any (isiB a))
  | [], _ => rfl
  | b :: ts, h => by
    rw [List.map_cons, W.kitAny, kit_tab K a ha b (h b (.head _))]
    cases e : isiB a b with
    | true => simp [e]
    | false =>
      simp only [e, List.any_cons, Bool.false_or]
      exact kit_any K ha fun c hc => h c (.tail _ hc)
noncomputable def tyN : D → Option String
  | .sc .non => some "NoneType"
  | .sc (.bl _) => some "bool"
  | .sc (.int _) => some "int"
  | .sc (.str _) => some "str"
  | .nd .tup _ => some "tuple"
  | .nd .lst _ => some "list"
  | .nd (.dic _) _ => some "dict"
  | .nd (.dit _) _ => some "dict"
  | _ => none
section
variable {K : W.Frag} {n : Nat} {H H' H1 H2 : Hp} {U U' : Addr → Prop} {σ hv : List (Option V)} {ρ ρ' : En} {τv vs : List V} {τd ds : List D} {v y : V} {d : D} {E : Ends} {N : Addr → Prop}
theorem tyN_in {a : String} (h : tyN d = some a) : a ∈ tyNames := by
  unfold tyN at h
  split at h <;> first | (cases h; decide) | cases h
theorem Vw.ty {a : String} (w : Vw K H N v d) (h : tyN d = some a) (hd : a ≠ "dict") : TyOf K H v (.type a) := by
  unfold tyN at h
  split at h
  · cases h; rw [w.scal]; exact .non
  · cases h; rw [w.scal]; exact .bl _
  · cases h; rw [w.scal]; exact .int _
  · cases h; rw [w.scal]; exact .str _
  · cases h; obtain ⟨a, vs, rfl, _, hc, _⟩ := w.node; exact .tup hc.2
  · cases h; obtain ⟨a, vs, rfl, _, hc, _⟩ := w.node; exact .lst hc.2
  · cases h; exact absurd rfl hd
  · cases h; exact absurd rfl hd
  · cases h
noncomputable def isiD (T : String) : List D → Option D
  | [a, .sc (.ty T')] => if T' = T ∧ T ∈ clNames then (tyN a).bind fun x => if x = "dict" then none else some (.sc (.bl (isiB x T))) else none
  | _ => none
instance cd_isi {T : String} : CallD K (rIsi K T) (isiD T) := ⟨fun {H vs ds d Q} w h k => by
  unfold isiD at h
  split at h
  · next a T' =>
    by_cases c : T' = T ∧ T ∈ clNames
    · rw [if_pos c] at h
      obtain ⟨x, h1, h⟩ := Option.bind_eq_some_iff.mp h
      by_cases cd : x = "dict"
      · rw [if_pos cd] at h; cases h
      · rw [if_neg cd] at h
        cases h
        obtain ⟨v, u, rfl, w1, w2⟩ := w.two
        rw [w2.scal, c.1]
        exact ⟨v, _, _, rfl, w1.ty h1 cd, kit_tab K x (tyN_in h1) T c.2, k _ H (Same.refl H) (.sc _)⟩
    · rw [if_neg c] at h; cases h
  · cases h⟩
noncomputable def rIsiT (K : W.Frag) : List V → Hp → VK → Prop := fun xs H Q => ∃ (x : V) (t : Value) (tp : Addr) (ts : List String) (b : Bool), xs = [x, .ref tp] ∧ TyOf K H x t ∧ H tp = some (.tup (ts.map V.ty)) ∧ W.kitAny K t (ts.map Value.type) = some b ∧ Q (.bl b) H
theorem tys_vals : ∀ {ts : List String} {us : List Value}, Vals (ts.map V.ty) us → us = ts.map Value.type
  | [], us, h => by cases h; rfl
  | t :: ts, us, h => by
    cases h with
    | cons r1 r2 => rw [tys_vals r2, show _ = Value.type t from r1]; rfl
theorem call_isiT {X : Cx} : CallR X (.builtin "isinstance") (rIsiT X.K) := by
  intro pins s σ H xs us Q I r h
  obtain ⟨x, t, tp, ts, b, rfl, ty, ht, e, q⟩ := h
  obtain ⟨u, w', rfl, ru, rt⟩ := vals2 r
  cases rt
  obtain ⟨_, its, rv, o, ho, hc, n, hd⟩ := I.hok tp _ ht
  have hits := tys_vals rv
  subst hits
  obtain ⟨oc, od, odata, osl⟩ := o
  cases hc
  cases hd
  have fin : ∀ tk, EP X pins σ Q (.bool b) { s with toks := tk } := fun tk => ⟨.bl b, H, I.tok tk, rfl, q⟩
  cases ty with
  | non => cases (show u = Value.none from ru); exact W.kia_tup W.kitx_none I.kIn True.intro ho e (fun z => nomatch z) fin
  | bl y => cases (show u = Value.bool y from ru); exact W.kia_tup W.kitx_bool I.kIn True.intro ho e (fun z => nomatch z) fin
  | int i => obtain ⟨t, z⟩ := (show ∃ t, u = Value.int i t from ru); cases z; exact W.kia_tup W.kitx_int I.kIn True.intro ho e (fun z => nomatch z) fin
  | str y => obtain ⟨t, z⟩ := (show ∃ t, u = Value.str y t from ru); cases z; exact W.kia_tup W.kitx_str I.kIn True.intro ho e (fun z => nomatch z) fin
  | flt y => obtain ⟨t, z⟩ := (show ∃ t, u = Value.float y t from ru); cases z; exact W.kia_tup W.kitx_float I.kIn True.intro ho e (fun z => nomatch z) fin
  | @lst a xs ea =>
    cases (show u = Value.ref a from ru)
    obtain ⟨_, _, n', _, h1⟩ := (show ObjOk X.prog X.w H s.heap a (.lst xs) from I.hok a _ ea)
    exact W.kia_tup W.kitx_list I.kIn ⟨_, h1, rfl⟩ ho e (fun z => nomatch z) fin
  | @frz a ob xs ea =>
    cases (show u = Value.ref a from ru)
    obtain ⟨_, _, _, n', _, h1⟩ := (show ObjOk X.prog X.w H s.heap a (.frz ob (.lst xs)) from I.hok a _ ea)
    exact W.kia_tup W.kitx_list I.kIn ⟨_, h1, rfl⟩ ho e (fun z => nomatch z) fin
  | @tup a xs ea =>
    cases (show u = Value.ref a from ru)
    obtain ⟨_, _, _, p⟩ := (show ObjOk X.prog X.w H s.heap a (.tup xs) from I.hok a _ ea)
    obtain ⟨o', h1, h2, _⟩ := p
    exact W.kia_tup W.kitx_tuple I.kIn ⟨o', h1, h2⟩ ho e (fun z => nomatch z) fin
  | @dK a kvs ea =>
    cases (show u = Value.ref a from ru)
    obtain ⟨_, _, vs, _, p⟩ := (show ObjOk X.prog X.w H s.heap a (.dK kvs) from I.hok a _ ea)
    obtain ⟨o', es, ep, h1, h2, _⟩ := p
    exact W.kia_tup W.kitx_dict I.kIn ⟨o', h1, h2.1⟩ ho e (fun z => nomatch z) fin
  | @dT a kvs ea =>
    cases (show u = Value.ref a from ru)
    obtain ⟨_, _, xs, _, o', es, ep, h1, h2, _⟩ := (show ObjOk X.prog X.w H s.heap a (.dT kvs) from I.hok a _ ea)
    exact W.kia_tup W.kitx_dict I.kIn ⟨o', h1, h2.1⟩ ho e (fun z => nomatch z) fin
  | @ins a C dx fs ea cl ha hn htk hm =>
    cases (show u = Value.ref a from ru)
    obtain ⟨mA, O, _⟩ := ins_get I.hok ea
    obtain ⟨od, J, _⟩ := O.look
    exact W.kia_tup (W.kitx_own (cl.get _) cl.hd ha hn htk hm) I.kIn J ho e (fun z => nomatch z) fin
noncomputable def tysOf : List D → Option (List String)
  | [] => some []
  | .sc (.ty t) :: r => (tysOf r).map (t :: ·)
  | _ :: _ => none
theorem tysOf_vs : ∀ {cs : List D} {vs : List V} {ts : List String}, vs.length = cs.length → (∀ (i : Nat) (v : V) (d : D), vs[i]? = some v → cs[i]? = some d → Vw K H N v d) → tysOf cs = some ts → vs = ts.map V.ty
  | [], [], _, _, _, h => by rw [tysOf] at h; cases h; rfl
  | [], _ :: _, _, h, _, _ => by cases h
  | _ :: _, [], _, h, _, _ => by cases h
  | d :: cs, v :: vs, ts, hl, hk, h => by
    unfold tysOf at h
    split at h
    · next e => cases e
    · next t r e =>
      cases e
      obtain ⟨x, h2, h⟩ := Option.map_eq_some_iff.mp h
      subst h
      rw [List.map_cons, (hk 0 v _ rfl rfl).scal, tysOf_vs (Nat.succ.inj hl) (fun i v d a b => hk (i + 1) v d (by simpa using a) (by simpa using b)) h2]
    · cases h
noncomputable def isiTD : List D → Option D
  | [a, .nd .tup cs] => (tysOf cs).bind fun ts => if ts.all (clNames.contains ·) = true then (tyN a).bind fun x => if x = "dict" then none else some (.sc (.bl (ts.any (isiB x)))) else none
  | _ => none
instance cd_isiT : CallD K (rIsiT K) isiTD := ⟨fun {H vs ds d Q} w h k => by
  unfold isiTD at h
  split at h
  · next a cs =>
    obtain ⟨ts, h0, h⟩ := Option.bind_eq_some_iff.mp h
    by_cases c : ts.all (clNames.contains ·) = true
    · rw [if_pos c] at h
      obtain ⟨x, h1, h⟩ := Option.bind_eq_some_iff.mp h
      by_cases cd : x = "dict"
      · rw [if_pos cd] at h; cases h
      · rw [if_neg cd] at h
        cases h
        obtain ⟨v, u, rfl, w1, w2⟩ := w.two
        obtain ⟨b, us, rfl, _, hc, hl, kid⟩ := w2.node
        have e := tysOf_vs hl kid h0
        refine ⟨v, _, b, ts, _, rfl, w1.ty h1 cd, by rw [← e]; exact hc.2, kit_any K (tyN_in h1) fun t ht => ?_, k _ H (Same.refl H) (.sc _)⟩
        have := List.all_eq_true.mp c t ht
        simpa using this
    · rw [if_neg c] at h; cases h
  · cases h⟩
noncomputable def rAll (K : W.Frag) : List V → Hp → VK → Prop := fun xs H Q => ∃ (a : Addr) (bs : List Bool), xs = [.ref a] ∧ SqL K H a (bs.map V.bl) ∧ Q (.bl (bs.all id)) H
theorem call_all' {X : Cx} (hc : X.calm = true) : CallR X (.builtin "all") (rAll X.K) := call_allB hc
noncomputable def blsOf : List D → Option (List Bool)
  | [] => some []
  | .sc (.bl b) :: r => (blsOf r).map (b :: ·)
  | _ :: _ => none
theorem blsOf_vs : ∀ {cs : List D} {vs : List V} {bs : List Bool}, vs.length = cs.length → (∀ (i : Nat) (v : V) (d : D), vs[i]? = some v → cs[i]? = some d → Vw K H N v d) → blsOf cs = some bs → vs = bs.map V.bl
  | [], [], _, _, _, h => by rw [blsOf] at h; cases h; rfl
  | [], _ :: _, _, h, _, _ => by cases h
  | _ :: _, [], _, h, _, _ => by cases h
  | d :: cs, v :: vs, ts, hl, hk, h => by
    unfold blsOf at h
    split at h
    · next e => cases e
    · next t r e =>
      cases e
      obtain ⟨x, h2, h⟩ := Option.map_eq_some_iff.mp h
      subst h
      rw [List.map_cons, (hk 0 v _ rfl rfl).scal, blsOf_vs (Nat.succ.inj hl) (fun i v d a b => hk (i + 1) v d (by simpa using a) (by simpa using b)) h2]
    · cases h
noncomputable def allD : List D → Option D
  | [.nd .lst cs] => (blsOf cs).map fun bs => .sc (.bl (bs.all id))
  | _ => none
instance cd_all : CallD K (rAll K) allD := ⟨fun {H vs ds d Q} w h k => by
  unfold allD at h
  split at h
  · next cs =>
    obtain ⟨bs, h1, h2⟩ := Option.map_eq_some_iff.mp h
    subst h2
    obtain ⟨v, rfl, w1⟩ := w.one
    obtain ⟨a, us, rfl, _, hc, hl, kid⟩ := w1.node
    have e := blsOf_vs hl kid h1
    exact ⟨a, bs, rfl, SqL.of (by rw [← e]; exact hc.2), k _ H (Same.refl H) (.sc _)⟩
  · cases h⟩
end
end VL
namespace VL
open PySem PySem.Spec PyProof.Rows L2
noncomputable def iAny (K : W.Frag) (tl : TE) : TI := fun σ H R => tl σ H fun x H1 => (∃ a, x = .ref a ∧ (∃ xs, SqL K H1 a xs) ∧ R (Itl K a) H1) ∨ (∃ a, x = .ref a ∧ (∃ xs, SqT K H1 a xs) ∧ R (Itt K a) H1) ∨ ∃ z, x = .str z ∧ R (Its z) H1
theorem pi_any {X : Cx} {tg l : Expr} {tl : TE} (hl : PE X l tl) : PI X tg l (iAny X.K tl) := by
  intro pins s σ H R I h
  refine thn (hl pins s σ H _ I h) fun v s1 ⟨x, H1, I1, r1, q1⟩ => ?_
  have fin : ∀ (b : Addr), b ∈ [s1.heap.objs.size] → FpOk X pins H1 b := fun b hb => by
    have e : b = s1.heap.objs.size := by simpa using hb
    subst e
    exact I1.fpOk (Nat.le_refl _) (I1.hok.fresh (Nat.le_refl _))
  rcases q1 with ⟨a, rfl, ⟨xs, hq⟩, q⟩ | ⟨a, rfl, ⟨xs, hq⟩, q⟩ | ⟨z, rfl, q⟩
  · cases r1
    obtain ⟨its, rv, p, hz⟩ := I1.list hq
    exact wpAny_pyIter_list p.isList ⟨s1.heap.objs.size, [s1.heap.objs.size], _, _, H1, rfl, I1.kept (t' := s1.toks) fun b o e => Heap.get?_push_of_some _ e, turn_list a _, ⟨_, Heap.get?_push_size _ rfl, rfl, rfl⟩, fin, q⟩
  · cases r1
    obtain ⟨its, rv, p, hz⟩ := I1.tuple hq
    exact wpAny_pyIter_tuple (show s1.heap.IsTuple a its.toArray from p) ⟨s1.heap.objs.size, [s1.heap.objs.size], _, _, H1, rfl, I1.kept (t' := s1.toks) fun b o e => Heap.get?_push_of_some _ e, turn_tuple a _, ⟨_, Heap.get?_push_size _ rfl, rfl, rfl⟩, fin, q⟩
  · obtain ⟨t, rfl⟩ := r1
    cases ha : z.cps.all (· < 128)
    · refine wpAny_pyIter_wide ha ⟨s1.heap.objs.size, [s1.heap.objs.size], _, _, H1, rfl, I1.kept (t' := s1.toks) fun b o e => Heap.get?_push_of_some _ e,
        turn_str (t := t) (ty := "str_iterator") (by decide) (fun A' hA => Walks.strWide hA _ z t) (fun A i s Q E st h => wpAny_pyIter_striter_wide st h), ⟨Nat.zero_le _, _, Heap.get?_push_size _ rfl, rfl, rfl⟩, fin, q⟩
    · refine wpAny_pyIter_ascii ha ⟨s1.heap.objs.size, [s1.heap.objs.size], _, _, H1, rfl, I1.kept (t' := s1.toks) fun b o e => Heap.get?_push_of_some _ e,
        turn_str (t := t) (ty := "str_ascii_iterator") (by decide) (fun A' hA => Walks.strAscii hA _ z t) (fun A i s Q E st h => wpAny_pyIter_striter_ascii st h), ⟨Nat.zero_le _, _, Heap.get?_push_size _ rfl, rfl, rfl⟩, fin, q⟩
class LenC {α : Type} (l : List α) (m : outParam Nat) : Prop where
  h : l.length = m
instance {α : Type} : LenC ([] : List α) 0 := ⟨rfl⟩
instance {α : Type} {a : α} {r : List α} {m : Nat} [L : LenC r m] : LenC (a :: r) (m + 1) := ⟨congrArg (· + 1) L.h⟩
section
variable {K : W.Frag} {n : Nat} {H H' H1 H2 : Hp} {U U' : Addr → Prop} {σ hv : List (Option V)} {ρ ρ' : En} {τv vs : List V} {τd ds : List D} {v y : V} {d : D} {E : Ends} {N : Addr → Prop}
noncomputable def WalkP (K : W.Frag) (J : It) (H0 : Hp) (ds : List D) : Prop := ∀ H, Same H0 H → J.stop ds.length H ∧ ∀ (i : Nat) (d : D), ds[i]? = some d → J.go i H ∧ ∀ x H', J.yld i H x H' → Same H H' ∧ Vw K H' T1 x d
class SI (K : W.Frag) (n : Nat) (wi : TI) (f : outParam (En → Option (List D))) : Prop where
  s : ∀ {σ hv : List (Option V)} {H : Hp} {U : Addr → Prop} {ρ : En} {τv : List V} {τd : List D} {ds : List D} {R : It → Hp → Prop}, Sit K n H U σ hv ρ τv τd → f ρ = some ds → (∀ J H', Same H H' → WalkP K J H' ds → R J H') → wi σ H R
noncomputable def chars (z : Str) : List D := z.cps.toList.map fun c => .sc (.str ⟨#[c]⟩)
noncomputable def itemsD : D → Option (List D)
  | .nd .lst cs => some cs
  | .nd .tup cs => some cs
  | .nd .frl cs => some cs
  | .sc (.str z) => some (chars z)
  | _ => none
theorem itemsD_walk {ds : List D} {R : It → Hp → Prop} (w : Vw K H T1 v d) (h : itemsD d = some ds) (k : ∀ J, WalkP K J H ds → R J H) :
    (∃ a, v = .ref a ∧ (∃ xs, SqL K H a xs) ∧ R (Itl K a) H) ∨ (∃ a, v = .ref a ∧ (∃ xs, SqT K H a xs) ∧ R (Itt K a) H) ∨ ∃ z, v = .str z ∧ R (Its z) H := by
  have wl : ∀ {a : Addr} {vs : List V} {cs : List D}, (∀ H', Same H H' → SqL K H' a vs) → VwL K H T1 vs cs → WalkP K (Itl K a) H cs := fun {a vs cs} hs vl H' s => by
    refine ⟨⟨vs, hs H' s, by rw [vl.1]; exact Nat.le_refl _⟩, fun i d hd => ?_⟩
    obtain ⟨u, hu, w⟩ := vl.get hd
    exact ⟨⟨vs, u, hs H' s, hu⟩, fun x H2 ⟨e, q⟩ => by
      subst e
      have := q vs (hs H2 s)
      rw [hu] at this; cases this
      exact ⟨Same.refl _, w.same s⟩⟩
  unfold itemsD at h
  split at h
  · next cs =>
    cases h
    obtain ⟨a, vs, rfl, hc, vl⟩ := w.kids'
    exact .inl ⟨a, rfl, ⟨vs, SqL.of hc.2⟩, k _ (wl (fun H' s => SqL.of (s _ _ hc.2)) vl)⟩
  · next cs =>
    cases h
    obtain ⟨a, vs, rfl, hc, vl⟩ := w.kids'
    refine .inr (.inl ⟨a, rfl, ⟨vs, SqT.of hc.2⟩, k _ fun H' s => ?_⟩)
    have hs : SqT K H' a vs := SqT.of (s _ _ hc.2)
    refine ⟨⟨vs, hs, by rw [vl.1]; exact Nat.le_refl _⟩, fun i d hd => ?_⟩
    obtain ⟨u, hu, w⟩ := vl.get hd
    exact ⟨⟨vs, u, hs, hu⟩, fun x H2 ⟨e, q⟩ => by
      subst e
      have := q vs hs
      rw [hu] at this; cases this
      exact ⟨Same.refl _, w.same s⟩⟩
  · next cs =>
    cases h
    obtain ⟨a, vs, rfl, hc, vl⟩ := w.kids'
    have ho : FrL K H a vs := hc.2
    exact .inl ⟨a, rfl, ⟨vs, ho.sq⟩, k _ (wl (fun H' s => (ho.stay (Stay.of s)).sq) vl)⟩
  · next z =>
    cases h
    refine .inr (.inr ⟨z, w.scal, k _ fun H' s => ?_⟩)
    have lz : (chars z).length = z.cps.size := by unfold chars; simp
    refine ⟨by show z.cps.size ≤ _; rw [lz]; exact Nat.le_refl _, fun i d hd => ?_⟩
    have hi : i < z.cps.size := by rw [← lz]; exact (List.getElem?_eq_some_iff.mp hd).1
    refine ⟨hi, fun x H2 ⟨e, c, hc, hx⟩ => ?_⟩
    subst e hx
    refine ⟨Same.refl _, ?_⟩
    unfold chars at hd
    rw [List.getElem?_map] at hd
    have : z.cps.toList[i]? = some c := by simpa using hc
    rw [this] at hd
    cases hd
    exact .sc _
  · cases h
instance si_any {tl : TE} {fl : En → Option D} [A : SV K n tl fl] : SI K n (iAny K tl) (fun ρ => (fl ρ).bind itemsD) := ⟨fun {σ hv H U ρ τv τd ds R} I h k => by
  obtain ⟨d, h1, h2⟩ := Option.bind_eq_some_iff.mp h
  refine A.s I h1 fun x H1 s1 w1 => ?_
  exact itemsD_walk w1 h2 fun J wk => k J H1 s1 wk⟩
noncomputable def rngD (lo : Int) (m : Nat) : List D := (List.range m).map fun (i : Nat) => .sc (.int (lo + i))
theorem rng_walk (lo : Int) (m : Nat) (H : Hp) : WalkP K (Itr lo m) H (rngD lo m) := fun H' s => by
  have l : (rngD lo m).length = m := by unfold rngD; simp
  refine ⟨by show m ≤ _; rw [l]; exact Nat.le_refl _, fun i d hd => ?_⟩
  have hi : i < m := by rw [← l]; exact (List.getElem?_eq_some_iff.mp hd).1
  refine ⟨hi, fun x H2 ⟨e, hx⟩ => ?_⟩
  subst e hx
  unfold rngD at hd
  rw [List.getElem?_map, List.getElem?_range hi] at hd
  cases hd
  exact ⟨Same.refl _, .sc _⟩
open Classical in
noncomputable def rng1 : List D → Option (List D)
  | [.sc (.int j)] => if -(2 ^ 62) ≤ j ∧ j < 2 ^ 62 then some (rngD 0 j.toNat) else none
  | _ => none
open Classical in
noncomputable def rng2 : List D → Option (List D)
  | [.sc (.int i), .sc (.int j)] => if -(2 ^ 62) ≤ i ∧ i < 2 ^ 62 ∧ -(2 ^ 62) ≤ j ∧ j < 2 ^ 62 then some (rngD i (j - i).toNat) else none
  | _ => none
theorem rng1_vs {vs : List V} {ds es : List D} (w : VwL K H T1 vs ds) (h : rng1 ds = some es) : ∃ j : Int, vs = [.int j] ∧ -(2 ^ 62) ≤ j ∧ j < 2 ^ 62 ∧ es = rngD 0 j.toNat := by
  unfold rng1 at h
  split at h
  · next j =>
    by_cases c : -(2 ^ 62) ≤ j ∧ j < 2 ^ 62
    · rw [if_pos c] at h; cases h
      obtain ⟨v, rfl, w1⟩ := w.one
      rw [w1.scal]
      exact ⟨j, rfl, c.1, c.2, rfl⟩
    · rw [if_neg c] at h; cases h
  · cases h
theorem rng2_vs {vs : List V} {ds es : List D} (w : VwL K H T1 vs ds) (h : rng2 ds = some es) : ∃ i j : Int, vs = [.int i, .int j] ∧ (-(2 ^ 62) ≤ i ∧ i < 2 ^ 62 ∧ -(2 ^ 62) ≤ j ∧ j < 2 ^ 62) ∧ es = rngD i (j - i).toNat := by
  unfold rng2 at h
  split at h
  · next i j =>
    by_cases c : -(2 ^ 62) ≤ i ∧ i < 2 ^ 62 ∧ -(2 ^ 62) ≤ j ∧ j < 2 ^ 62
    · rw [if_pos c] at h; cases h
      obtain ⟨v, u, rfl, w1, w2⟩ := w.two
      rw [w1.scal, w2.scal]
      exact ⟨i, j, rfl, c, rfl⟩
    · rw [if_neg c] at h; cases h
  · cases h
instance si_rng1 {ta : TA} {fa : En → Option (List D)} [A : SA K n ta fa] : SI K n (iRng1 ta) (fun ρ => (fa ρ).bind rng1) := ⟨fun {σ hv H U ρ τv τd ds R} I h k => by
  obtain ⟨a, h1, h2⟩ := Option.bind_eq_some_iff.mp h
  refine A.s I h1 fun vs H1 s1 w => ?_
  obtain ⟨j, e, c1, c2, e2⟩ := rng1_vs w h2
  subst e2
  exact ⟨j, e, c1, c2, k _ H1 s1 (rng_walk 0 _ H1)⟩⟩
instance si_rng2 {ta : TA} {fa : En → Option (List D)} [A : SA K n ta fa] : SI K n (iRng2 ta) (fun ρ => (fa ρ).bind rng2) := ⟨fun {σ hv H U ρ τv τd ds R} I h k => by
  obtain ⟨a, h1, h2⟩ := Option.bind_eq_some_iff.mp h
  refine A.s I h1 fun vs H1 s1 w => ?_
  obtain ⟨i, j, e, c, e2⟩ := rng2_vs w h2
  subst e2
  exact ⟨i, j, e, c, k _ H1 s1 (rng_walk i _ H1)⟩⟩
class SG (K : W.Frag) (n : Nat) (g : TG) (f : outParam (D → En → Option En)) (is : outParam (List Nat)) : Prop where
  s : ∀ {σ hv : List (Option V)} {H : Hp} {U : Addr → Prop} {ρ ρ' : En} {τv : List V} {τd : List D} {x : V} {d : D} {Q : L2.St → Hp → Prop}, Sit K n H U σ hv ρ τv τd → Vw K H (fun b => ¬ U b) x d → f d ρ = some ρ' → (∀ σ', Sit K n H U σ' hv ρ' τv τd → Q σ' H) → g x σ H Q
  len : ∀ {d : D} {ρ ρ' : En}, f d ρ = some ρ' → ρ'.length = ρ.length
  keep : ∀ {d : D} {ρ ρ' : En} {j : Nat} {β : B}, f d ρ = some ρ' → j ∉ is → (∀ r p, β ≠ .ali r p) → ρ[j]? = some (some β) → ρ'[j]? = some (some β)
theorem unroot_keep {i j : Nat} {β : B} (h : ∀ r p, β ≠ .ali r p) (hj : ρ[j]? = some (some β)) : (unroot i ρ)[j]? = some (some β) := by
  unfold unroot
  rw [List.getElem?_map, hj]
  cases β with
  | own d => rfl
  | ro d => rfl
  | ali r p => exact absurd rfl (h r p)
instance sg_name {i : Nat} [L : LtN i n] : SG K n (gName i) (fun d ρ => some (bindE i (.ro d) ρ)) [i] where
  s := fun {σ hv H U ρ ρ' τv τd x d Q} I w h k => by
    cases h
    exact k _ (I.named L.h (β := .ro d) w)
  len := fun h => by cases h; unfold bindE; rw [List.length_set, unroot_len]
  keep := fun {d ρ ρ' j β} h hj ha q => by
    cases h
    unfold bindE
    rw [List.getElem?_set_ne (fun z => hj (by rw [z]; exact .head _))]
    exact unroot_keep ha q
theorem OwnL.snoc {us : List V} {es : List D} (h : OwnL K H H1 us es) (o : Own K H1 H2 v d) (s0 : Same H H1) (s1 : Same H1 H2) : OwnL K H H2 (us ++ [v]) (es ++ [d]) := by
  obtain ⟨hl, Fs, dj, fr, rp⟩ := h
  obtain ⟨G, r, f⟩ := o
  have nG : ∀ i b, Fs i b → ¬ G b := fun i b z w => by
    obtain ⟨u, q⟩ := mut_some (fr i b z).2
    rw [(f b w).1] at q; cases q
  refine ⟨by simp [hl], fun i b => if i = us.length then G b else Fs i b ∧ i < us.length, fun i j b hi hj => ?_, fun i b hb => ?_, fun i x y hx hy => ?_⟩
  · have hi : if i = us.length then G b else Fs i b ∧ i < us.length := hi
    have hj : if j = us.length then G b else Fs j b ∧ j < us.length := hj
    by_cases ci : i = us.length
    · rw [if_pos ci] at hi
      by_cases cj : j = us.length
      · omega
      · rw [if_neg cj] at hj; exact absurd hi (nG j b hj.1)
    · rw [if_neg ci] at hi
      by_cases cj : j = us.length
      · rw [if_pos cj] at hj; exact absurd hj (nG i b hi.1)
      · rw [if_neg cj] at hj; exact dj i j b hi.1 hj.1
  · have hb : if i = us.length then G b else Fs i b ∧ i < us.length := hb
    by_cases ci : i = us.length
    · rw [if_pos ci] at hb
      refine ⟨?_, (f b hb).2⟩
      cases q : H b with
      | none => rfl
      | some o => have := (f b hb).1; rw [s0 b o q] at this; cases this
    · rw [if_neg ci] at hb
      exact ⟨(fr i b hb.1).1, mut_same (fr i b hb.1).2 s1⟩
  · by_cases ci : i = us.length
    · subst ci
      rw [List.getElem?_append_right (Nat.le_refl _), Nat.sub_self] at hx
      rw [List.getElem?_append_right (by omega), hl, Nat.sub_self] at hy
      cases hx; cases hy
      show Rep K H2 (fun b => if us.length = us.length then G b else _) v d
      simp only [if_pos rfl]
      exact r
    · have hi : i < us.length := by
        have := (List.getElem?_eq_some_iff.mp hx).1
        simp at this; omega
      rw [List.getElem?_append_left hi] at hx
      rw [List.getElem?_append_left (by omega)] at hy
      show Rep K H2 (fun b => if i = us.length then G b else Fs i b ∧ i < us.length) x y
      simp only [if_neg ci]
      exact ((rp i x y hx hy).same s1).mono fun b z => ⟨z, hi⟩
noncomputable def capE (n : Nat) (js : List (Option Nat)) (ρ : En) : En := js.map fun o => o.bind fun j => if j < n then (dVar j ρ).map B.ro else none
noncomputable def compD (fg : D → En → Option En) (ft : En → Option Bool) (fe : En → Option D) (ρ0 : En) : List D → Option (List D)
  | [] => some []
  | d :: ds => (fg d ρ0).bind fun ρ1 => (ft ρ1).bind fun b => if b = true then (fe ρ1).bind fun y => (compD fg ft fe ρ0 ds).map (y :: ·) else compD fg ft fe ρ0 ds
open Classical in
noncomputable def lcF (n : Nat) (js : List (Option Nat)) (is : List Nat) (fi : En → Option (List D)) (fg : D → En → Option En) (ft : En → Option Bool) (fe : En → Option D) (ρ : En) : Option D := (fi ρ).bind fun ds =>
  if ds.length ≤ sizeLine ∧ is.all (fun i => js[i]? == some none) = true then (compD fg ft fe (capE n js ρ) ds).map (.nd .lst ·) else none
theorem capE_sit {js : List (Option Nat)} (I : Sit K n H U σ hv ρ τv τd) : Sit K js.length H (fun _ => False) (capt js σ) [] (capE n js ρ) [] [] := by
  refine ⟨⟨by unfold capt capE; simp, fun b z => z.elim, fun _ _ => False, fun _ _ _ z => z.elim, fun _ _ z => z.elim, fun i β hβ => ?_⟩, by unfold capt capE; simp, by unfold capt; simp⟩
  rw [List.map_nil, List.append_nil] at hβ
  rw [List.map_nil, List.append_nil, List.append_nil]
  unfold capE at hβ
  rw [List.getElem?_map] at hβ
  cases e : js[i]? with
  | none => rw [e] at hβ; cases hβ
  | some o =>
    rw [e] at hβ
    have hβ : (o.bind fun j => if j < n then (dVar j ρ).map B.ro else none) = some β := Option.some.inj hβ
    cases o with
    | none => cases hβ
    | some j =>
      have hβ : (if j < n then (dVar j ρ).map B.ro else none) = some β := hβ
      by_cases c : j < n
      · rw [if_pos c] at hβ
        obtain ⟨d, h1, h2⟩ := Option.map_eq_some_iff.mp hβ
        subst h2
        have : LtN j n := ⟨c⟩
        have key : tVar j σ H fun v H' => H' = H ∧ σ[j]? = some (some v) ∧ Vw K H T1 v d := by
          obtain ⟨o, g1, g2⟩ := Option.bind_eq_some_iff.mp h1
          cases o with
          | none => cases g2
          | some γ =>
            obtain ⟨v, F, ev, sub, sv⟩ := I.slot g1
            rw [I.name c] at ev
            refine ⟨v, ev, rfl, ev, ?_⟩
            cases γ with
            | own d' => cases g2; exact Rep.vw sv
            | ro d' => cases g2; exact Vw.any sv
            | ali r p =>
              obtain ⟨d0, hr, g⟩ := Option.bind_eq_some_iff.mp g2
              obtain ⟨_, vr, er, hp⟩ := sv
              obtain ⟨v', F', ev', _, rp⟩ := I.rootV hr
              rw [er] at ev'; cases ev'
              exact rp.sub g hp fun _ _ => trivial
        obtain ⟨v, ev, _, _, vw⟩ := key
        refine ⟨v, ?_, vw.mono fun _ _ z => z⟩
        unfold capt
        rw [List.getElem?_map, e]
        show some ((σ[j]?).join) = some (some v)
        rw [ev]; rfl
      · rw [if_neg c] at hβ; cases hβ
instance sf_lc {wi : TI} {g : TG} {tt : TT} {te : TE} {js : List (Option Nat)} {is : List Nat} {m : Nat} {fi : En → Option (List D)} {fg : D → En → Option En} {ft : En → Option Bool} {fe : En → Option D} [hm : LenC js m]
    [A : SI K n wi fi] [G : SG K m g fg is] [T : SVT K m tt ft] [Q' : SQ K m te fe] : SF K n (tLC wi g tt te js) (lcF n js is fi fg ft fe) := ⟨fun {σ hv H U ρ τv τd d Q} I h k => by
  have hm := hm.h
  subst hm
  obtain ⟨ds, h1, h⟩ := Option.bind_eq_some_iff.mp h
  by_cases c : ds.length ≤ sizeLine ∧ is.all (fun i => js[i]? == some none) = true
  · rw [if_pos c] at h
    obtain ⟨es, h2, h⟩ := Option.map_eq_some_iff.mp h
    subst h
    refine A.s I h1 fun J H1 s1 wk => ?_
    have I1 := capE_sit (js := js) (I.same s1)
    have slotN : ∀ i ∈ is, ∀ β, (capE n js ρ)[i]? ≠ some (some β) := fun i hi β z => by
      have := List.all_eq_true.mp c.2 i hi
      have e : js[i]? = some none := by simpa using this
      unfold capE at z
      rw [List.getElem?_map, e] at z
      cases z
    have noA : ∀ (j : Nat) (β : B), (capE n js ρ)[j]? = some (some β) → ∀ r p, β ≠ .ali r p := fun j β z r p e => by
      subst e
      unfold capE at z
      rw [List.getElem?_map] at z
      cases e : js[j]? with
      | none => rw [e] at z; cases z
      | some o =>
        rw [e] at z
        have z := Option.some.inj z
        cases o with
        | none => cases z
        | some x =>
          have z : (if x < n then (dVar x ρ).map B.ro else none) = some (B.ali r p) := z
          by_cases c : x < n
          · rw [if_pos c] at z
            obtain ⟨_, _, w⟩ := Option.map_eq_some_iff.mp z
            cases w
          · rw [if_neg c] at z; cases z
    refine ⟨fun i m σ' ys H' => m = ds.length - i ∧ i ≤ ds.length ∧ Same H1 H' ∧ Sit K js.length H' (fun _ => False) σ' [] (capE n js ρ) [] [] ∧ ys.length ≤ i ∧ ∃ ea eb, es = ea ++ eb ∧ OwnL K H1 H' ys ea ∧ compD fg ft fe (capE n js ρ) (ds.drop i) = some eb, ⟨ds.length, by simp, Nat.zero_le _, Same.refl _, I1, Nat.le_refl _, [], es, rfl, .nil, h2⟩, ?_⟩
    rintro i m σ' ys H' ⟨rfl, hi, sx, Ix, hy, ea, eb, rfl, ow, cd⟩
    by_cases hlt : i < ds.length
    · right
      have hd : ds[i]? = some ds[i] := List.getElem?_eq_getElem hlt
      obtain ⟨go, yl⟩ := (wk H' sx).2 i _ hd
      rw [List.drop_eq_getElem_cons hlt] at cd
      rw [compD] at cd
      obtain ⟨ρ1, b1, cd⟩ := Option.bind_eq_some_iff.mp cd
      obtain ⟨b, b2, cd⟩ := Option.bind_eq_some_iff.mp cd
      refine ⟨go, fun σ2 zs H2 => Same H1 H2 ∧ Sit K js.length H2 (fun _ => False) σ2 [] (capE n js ρ) [] [] ∧ zs.length ≤ i + 1 ∧ ∃ fa fb, ea ++ eb = fa ++ fb ∧ OwnL K H1 H2 zs fa ∧ compD fg ft fe (capE n js ρ) (ds.drop (i + 1)) = some fb, fun σ2 zs H2 ⟨a1, a2, a3, a4⟩ => ⟨by omega, _, by omega, rfl, hlt, a1, a2, a3, a4⟩, fun x H2 y2 => ?_⟩
      obtain ⟨s2, w2⟩ := yl x H2 y2
      refine G.s (Ix.same s2) (w2.mono fun _ _ z => z) b1 fun σ2 I2 => ?_
      have back : ∀ {H3 : Hp}, Same H2 H3 → Sit K js.length H3 (fun _ => False) σ2 [] (capE n js ρ) [] [] := fun {H3} s3 => by
        refine (I2.same s3).weaken (G.len b1).symm fun j β q => ?_
        by_cases hj : j ∈ is
        · exact absurd q (slotN j hj β)
        · exact G.keep b1 hj (noA j β q) q
      refine T.s I2 b2 fun H4 s4 => ?_
      cases b with
      | true =>
        rw [if_pos rfl] at cd ⊢
        obtain ⟨y, b3, cd⟩ := Option.bind_eq_some_iff.mp cd
        obtain ⟨fb, b4, cd⟩ := Option.map_eq_some_iff.mp cd
        subst cd
        refine Q'.o (I2.same s4) b3 fun v H5 s5 o => ⟨sx.trans (s2.trans (s4.trans s5)), back (s4.trans s5), by simp; omega, ea ++ [y], fb, by simp, ?_, b4⟩
        have o' : Own K H' H5 v y := o.early (s2.trans s4)
        exact ow.snoc o' sx (s2.trans (s4.trans s5))
      | false =>
        rw [if_neg Bool.false_ne_true] at cd ⊢
        refine ⟨sx.trans (s2.trans s4), back s4, by omega, ea, eb, rfl, ?_, cd⟩
        obtain ⟨hl, Fs, dj, fr, rp⟩ := ow
        exact ⟨hl, Fs, dj, fun j b z => ⟨(fr j b z).1, mut_same (fr j b z).2 (s2.trans s4)⟩, fun j v d a b => (rp j v d a b).same (s2.trans s4)⟩
    · left
      have e : i = ds.length := by omega
      subst e
      rw [List.drop_length, compD] at cd
      cases cd
      rw [List.append_nil] at k
      refine ⟨(wk H' sx).1, fun D hD => ?_⟩
      exact k _ _ ((s1.trans sx).trans (same_new hD _)) ((ow.node (k := .lst) sx hD (.inr ⟨rfl, trivial, 0, rfl⟩)).early s1)
  · rw [if_neg c] at h; cases h⟩
end
end VL
namespace VL
open PySem PySem.Spec PyProof.Rows L2
section
variable {K : W.Frag} {n : Nat} {H H' H1 H2 : Hp} {U U' : Addr → Prop} {σ hv : List (Option V)} {ρ ρ' : En} {τv vs : List V} {τd ds : List D} {v y : V} {d : D} {E : Ends} {N : Addr → Prop}
structure WalkS (K : W.Frag) (J : It) (ds : List D) (P : Hp → (Addr → Prop) → Prop) : Prop where
  step : ∀ {H H' U U'}, P H U → Stp U H U' H' → (∀ b, U b → Mut (H b)) → P H' U'
  stop : ∀ {H U}, P H U → J.stop ds.length H
  item : ∀ {H U} {i : Nat} {d : D}, P H U → ds[i]? = some d → J.go i H ∧ ∀ x H', J.yld i H x H' → H' = H ∧ Vw K H (fun b => ¬ U b) x d
class SIs (K : W.Frag) (n : Nat) (wi : TI) (f : outParam (En → Option (List D))) : Prop where
  s : ∀ {σ hv : List (Option V)} {H : Hp} {U : Addr → Prop} {ρ : En} {τv : List V} {τd : List D} {ds : List D} {R : It → Hp → Prop}, Sit K n H U σ hv ρ τv τd → f ρ = some ds → (∀ J P H', Same H H' → WalkS K J ds P → P H' U → R J H') → wi σ H R
theorem rng_walkS (lo : Int) (m : Nat) : WalkS K (Itr lo m) (rngD lo m) fun _ _ => True := by
  have l : (rngD lo m).length = m := by unfold rngD; simp
  refine ⟨fun _ _ _ => trivial, fun {H U} _ => by show m ≤ _; rw [l]; exact Nat.le_refl _, fun {H U i d} _ hd => ?_⟩
  have hi : i < m := by rw [← l]; exact (List.getElem?_eq_some_iff.mp hd).1
  refine ⟨hi, fun x H2 ⟨e, hx⟩ => ⟨e, ?_⟩⟩
  subst hx
  unfold rngD at hd
  rw [List.getElem?_map, List.getElem?_range hi] at hd
  cases hd
  exact .sc _
instance sis_rng1 {ta : TA} {fa : En → Option (List D)} [A : SA K n ta fa] : SIs K n (iRng1 ta) (fun ρ => (fa ρ).bind rng1) := ⟨fun {σ hv H U ρ τv τd ds R} I h k => by
  obtain ⟨a, h1, h2⟩ := Option.bind_eq_some_iff.mp h
  refine A.s I h1 fun vs H1 s1 w => ?_
  obtain ⟨j, e, c1, c2, e2⟩ := rng1_vs w h2
  subst e2
  exact ⟨j, e, c1, c2, k _ _ H1 s1 (rng_walkS 0 _) trivial⟩⟩
theorem vwl_step {cs : List D} (h : VwL K H (fun b => ¬ U b) vs cs) (st : Stp U H U' H') (mu : ∀ b, U b → Mut (H b)) : VwL K H' (fun b => ¬ U' b) vs cs := ⟨h.1, fun i v d a b => (h.2 i v d a b).over (fun b o nb q => st b o q nb) (st.stay mu)⟩
theorem ro_walkS {R : It → Hp → Prop} (w : Vw K H (fun b => ¬ U b) v d) (h : itemsD d = some ds) (k : ∀ J P, WalkS K J ds P → P H U → R J H) :
    (∃ a, v = .ref a ∧ (∃ xs, SqL K H a xs) ∧ R (Itl K a) H) ∨ (∃ a, v = .ref a ∧ (∃ xs, SqT K H a xs) ∧ R (Itt K a) H) ∨ ∃ z, v = .str z ∧ R (Its z) H := by
  unfold itemsD at h
  split at h
  · next cs =>
    cases h
    obtain ⟨a, vs, rfl, na, hc, hl, kid⟩ := w.node
    refine .inl ⟨a, rfl, ⟨vs, SqL.of hc.2⟩, k _ (fun H U => H a = some (.lst vs) ∧ ¬ U a ∧ VwL K H (fun b => ¬ U b) vs ds) ⟨fun {H H' U U'} ⟨x1, x2, x3⟩ st mu => ⟨(st _ _ x1 x2).1, (st _ _ x1 x2).2, vwl_step x3 st mu⟩, fun {H U} ⟨x1, _, x3⟩ => ⟨vs, SqL.of x1, by rw [x3.1]; exact Nat.le_refl _⟩, fun {H U i d} ⟨x1, x2, x3⟩ hd => ?_⟩ ⟨hc.2, na rfl, hl, kid⟩⟩
    obtain ⟨u, hu, w⟩ := x3.get hd
    exact ⟨⟨vs, u, SqL.of x1, hu⟩, fun x H2 ⟨e, q⟩ => ⟨e, by
      have := q vs (SqL.of x1)
      rw [hu] at this; cases this
      exact w⟩⟩
  · next cs =>
    cases h
    obtain ⟨a, vs, rfl, na, hc, hl, kid⟩ := w.node
    refine .inr (.inl ⟨a, rfl, ⟨vs, SqT.of hc.2⟩, k _ (fun H U => H a = some (.tup vs) ∧ VwL K H (fun b => ¬ U b) vs ds) ⟨fun {H H' U U'} ⟨x1, x3⟩ st mu => ⟨st.stay mu _ _ (fun z => z) x1, vwl_step x3 st mu⟩, fun {H U} ⟨x1, x3⟩ => ⟨vs, SqT.of x1, by rw [x3.1]; exact Nat.le_refl _⟩, fun {H U i d} ⟨x1, x3⟩ hd => ?_⟩ ⟨hc.2, hl, kid⟩⟩)
    obtain ⟨u, hu, w⟩ := x3.get hd
    exact ⟨⟨vs, u, SqT.of x1, hu⟩, fun x H2 ⟨e, q⟩ => ⟨e, by
      have := q vs (SqT.of x1)
      rw [hu] at this; cases this
      exact w⟩⟩
  · next cs =>
    cases h
    obtain ⟨a, vs, rfl, na, hc, hl, kid⟩ := w.node
    have ho : FrL K H a vs := hc.2
    refine .inl ⟨a, rfl, ⟨vs, ho.sq⟩, k _ (fun H U => FrL K H a vs ∧ VwL K H (fun b => ¬ U b) vs ds) ⟨fun {H H' U U'} ⟨x1, x3⟩ st mu => ⟨x1.stay (st.stay mu), vwl_step x3 st mu⟩, fun {H U} ⟨x1, x3⟩ => ⟨vs, x1.sq, by rw [x3.1]; exact Nat.le_refl _⟩, fun {H U i d} ⟨x1, x3⟩ hd => ?_⟩ ⟨ho, hl, kid⟩⟩
    obtain ⟨u, hu, w⟩ := x3.get hd
    exact ⟨⟨vs, u, x1.sq, hu⟩, fun x H2 ⟨e, q⟩ => ⟨e, by
      have := q vs (x1.sq)
      rw [hu] at this; cases this
      exact w⟩⟩
  · next z =>
    cases h
    have lz : (chars z).length = z.cps.size := by unfold chars; simp
    refine .inr (.inr ⟨z, w.scal, k _ (fun _ _ => True) ⟨fun _ _ _ => trivial, fun {H U} _ => by show z.cps.size ≤ _; rw [lz]; exact Nat.le_refl _, fun {H U i d} _ hd => ?_⟩ trivial⟩)
    have hi : i < z.cps.size := by rw [← lz]; exact (List.getElem?_eq_some_iff.mp hd).1
    refine ⟨hi, fun x H2 ⟨e, c, hc, hx⟩ => ⟨e, ?_⟩⟩
    subst hx
    unfold chars at hd
    rw [List.getElem?_map] at hd
    have : z.cps.toList[i]? = some c := by simpa using hc
    rw [this] at hd
    cases hd
    exact .sc _
  · cases h
theorem Own.out (o : Own K H H' v d) (mu : ∀ b, U b → Mut (H b)) : Vw K H' (fun b => ¬ U b) v d := by
  obtain ⟨G, r, f⟩ := o
  exact r.view fun b z u => by
    obtain ⟨w, q⟩ := mut_some (mu b u)
    rw [(f b z).1] at q; cases q
noncomputable def itP (f : En → Option Pl) (ρ : En) : Option (List D) := (f ρ).bind fun
  | .ro d => itemsD d
  | .rt _ _ => none
instance (priority := 500) sis_ro {tl : TE} {fl : En → Option Pl} [A : SP K n tl fl] : SIs K n (iAny K tl) (itP fl) := ⟨fun {σ hv H U ρ τv τd ds R} I h k => by
  obtain ⟨q, h1, h2⟩ := Option.bind_eq_some_iff.mp h
  cases q with
  | rt _ _ => cases h2
  | ro d => exact A.s I h1 fun x H1 s1 w1 => ro_walkS w1 h2 fun J P wk p => k J P H1 s1 wk p⟩
noncomputable def forL (fg : D → En → Option En) (fb : En → Option Fl) : List D → En → Option Fl
  | [], ρ => some (.nx ρ)
  | d :: ds, ρ => (fg d ρ).bind fun ρ1 => (fb ρ1).bind fun
    | .nx ρ2 => forL fg fb ds ρ2
    | .ct ρ2 => forL fg fb ds ρ2
    | .bk ρ2 => some (.nx ρ2)
    | .rt d ρ2 => some (.rt d ρ2)
instance ss_for {wi : TI} {g : TG} {tb : TS} {fi : En → Option (List D)} {fg : D → En → Option En} {is : List Nat} {fb : En → Option Fl} [A : SIs K n wi fi] [G : SG K n g fg is] [B' : SS K n tb fb] : SS K n (tFor wi g tb) (fun ρ => (fi ρ).bind fun ds => forL fg fb ds ρ) := ⟨fun {σ hv H U ρ τv τd fl E} I h k => by
  obtain ⟨ds, h1, h⟩ := Option.bind_eq_some_iff.mp h
  refine A.s I h1 fun J P H1 s1 wk p0 => ?_
  have stS : Stp U H U H1 := fun b o q nu => ⟨s1 b o q, nu⟩
  refine ⟨fun i m σ' H' => m = ds.length - i ∧ i ≤ ds.length ∧ ∃ U' ρ', Sit K n H' U' σ' hv ρ' τv τd ∧ Stp U H U' H' ∧ P H' U' ∧ forL fg fb (ds.drop i) ρ' = some fl, ⟨ds.length, by simp, Nat.zero_le _, U, ρ, I.same s1, stS, p0, h⟩, ?_⟩
  rintro i m σ' H' ⟨rfl, hi, U', ρ', Ix, st, p, fo⟩
  by_cases hlt : i < ds.length
  · right
    have hd : ds[i]? = some ds[i] := List.getElem?_eq_getElem hlt
    obtain ⟨go, yl⟩ := wk.item p hd
    rw [List.drop_eq_getElem_cons hlt, forL] at fo
    obtain ⟨ρ1, b1, fo⟩ := Option.bind_eq_some_iff.mp fo
    obtain ⟨fl1, b2, fo⟩ := Option.bind_eq_some_iff.mp fo
    refine ⟨go, fun σ2 H2 => ∃ U2 ρ2, Sit K n H2 U2 σ2 hv ρ2 τv τd ∧ Stp U' H' U2 H2 ∧ forL fg fb (ds.drop (i + 1)) ρ2 = some fl, fun σ2 H2 ⟨U2, ρ2, a1, a2, a3⟩ => ⟨_, by omega, rfl, hlt, U2, ρ2, a1, st.trans a2, wk.step p a2 Ix.ok.mu, a3⟩, fun x H2 y2 => ?_⟩
    obtain ⟨e, w2⟩ := yl x H2 y2
    subst e
    refine G.s Ix w2 b1 fun σ2 I2 => ?_
    refine B'.s I2 b2 ?_
    cases fl1 with
    | nx ρ2 => exact fun σ3 H3 U3 I3 s3 => ⟨U3, ρ2, I3, s3, fo⟩
    | ct ρ2 => exact fun σ3 H3 U3 I3 s3 => ⟨U3, ρ2, I3, s3, fo⟩
    | bk ρ2 => cases fo; exact fun σ3 H3 U3 I3 s3 => k σ3 H3 U3 I3 (st.trans s3)
    | rt d ρ2 => cases fo; exact fun v σ3 H3 U3 I3 s3 => k v σ3 H3 U3 I3 (st.trans s3)
  · left
    have e : i = ds.length := by omega
    subst e
    rw [List.drop_length, forL] at fo
    cases fo
    exact ⟨wk.stop p, k σ' H' U' Ix st⟩⟩
open Classical in
end
end VL
namespace VL
open PySem PySem.Spec PyProof.Rows L2
section
variable {K : W.Frag} {n : Nat} {H H' H1 H2 : Hp} {U U' : Addr → Prop} {σ hv : List (Option V)} {ρ ρ' : En} {τv vs : List V} {τd ds : List D} {v y : V} {d : D} {E : XK} {N : Addr → Prop} {C : Addr} {m : Str}
theorem posF_none {f : Str} : ∀ {ns : List Str} {vs : List V}, posF f ns = none → ns.length = vs.length → (ns.zip vs).lookup f = none
  | [], [], _, _ => rfl
  | [], _ :: _, _, h => by cases h
  | g :: r, [], _, h => by cases h
  | g :: r, v :: vs, h, hl => by
    rw [posF] at h
    rw [List.zip_cons_cons, List.lookup_cons]
    by_cases c : (f == g) = true
    · rw [if_pos c] at h; cases h
    · rw [if_neg c] at h
      rw [Bool.not_eq_true] at c
      rw [c]
      exact posF_none (Option.map_eq_none_iff.mp h) (Nat.succ.inj hl)
noncomputable def isObjOf (C : Addr) (m : Str) : D → Bool
  | .nd (.obj C' ns) _ => decide (C' = C) && (posF m ns).isNone
  | _ => false
theorem Vw.objOf (w : Vw K H N v d) (h : isObjOf C m d = true) : ∃ a dx fs, v = .ref a ∧ H a = some (.ins C dx fs) ∧ fs.lookup m = none := by
  unfold isObjOf at h
  split at h
  · next C' ns cs =>
    rw [Bool.and_eq_true] at h
    obtain ⟨a, vs, rfl, _, hc, hl, kid⟩ := w.node
    obtain ⟨⟨hf, _, _⟩, dx, ha⟩ := hc
    have e : C' = C := by simpa using h.1
    subst e
    exact ⟨a, dx, _, rfl, ha, posF_none (by simpa using h.2) hf⟩
  · cases h
class ClsI (K : W.Frag) (C : Addr) : Prop where
  h : Cls K C
theorem ioL_falses {α : Type} : ∀ (k : Nat) (xs : List α), ioL (List.replicate k false) xs = []
  | 0, _ => by simp [ioL]
  | k + 1, [] => by simp [ioL, List.replicate]
  | k + 1, x :: xs => by rw [List.replicate_succ, ioL]; exact ioL_falses k xs
theorem make_new {k : Nat} {G : List D → Option (D × List D)} {out r : D} {x dx : Addr} {Q : VK} (hC : Cls K C) (w : VwL K H T1 vs ds) (hk : ds.length = k) (hG : G (.nd (.obj C []) [] :: ds) = some (r, [out])) (hr : r = .sc .non) (hx : H x = none) (hdx : H dx = none) (ne : dx ≠ x)
    (q : ∀ H', Same H H' → Own K H H' (.ref x) out → Q (.ref x) H') : spI K (true :: List.replicate k false) G (.ref x :: vs) (upd (upd H dx (.own x)) x (.ins C dx [])) (fun v H2 => v = .non ∧ Q (.ref x) H2) E := by
  have s0 : Same H (upd (upd H dx (.own x)) x (.ins C dx [])) := fun b o e => by
    rw [upd_ne (ne_of_none e hx), upd_ne (ne_of_none e hdx)]; exact e
  have hat : upd (upd H dx (.own x)) x (.ins C dx []) x = some (.ins C dx []) := upd_same
  refine ⟨by rw [List.length_cons, List.length_cons, List.length_replicate, w.1, hk], .nd (.obj C []) [] :: ds, fun b => b = x, r, [out], by rw [List.length_cons, List.length_cons, List.length_replicate, hk], ?_, fun i u e hm hu he => ?_, hG, fun v H2 U2 ok st => ?_⟩
  · rw [ioL, ioL, ioL_falses, ioL_falses]
    refine ⟨rfl, fun b hb => by rw [hb, hat]; trivial, fun i b => i = 0 ∧ b = x, fun i j b hi hj => by rw [hi.1, hj.1], fun i b hb => hb.2, fun i β hβ => ?_⟩
    cases i with
    | succ i => simp [owns] at hβ
    | zero =>
      cases hβ
      refine ⟨.ref x, rfl, .nd (vs := []) (fun _ _ => False) ?_ rfl (fun _ _ _ z => z.elim) (fun _ _ z => z.elim) fun i v d h => by simp at h⟩
      exact ⟨⟨rfl, rfl⟩, rfl, ⟨rfl, hC, fun f hf => by simp at hf⟩, dx, hat⟩
  · cases i with
    | zero => cases hm
    | succ i =>
      have a : vs[i]? = some u := by simpa using hu
      have b : ds[i]? = some e := by simpa using he
      exact (w.2 i u e a b).over (fun c o _ q => ⟨s0 c o q, fun z => by rw [z, hx] at q; cases q⟩) (Stay.of s0)
  · subst hr
    rw [ioL, ioL_falses] at ok
    obtain ⟨_, mu, Fs, dj, sub, sl⟩ := ok
    obtain ⟨v', ev, sv⟩ := sl 0 (.own (.sc .non)) rfl
    cases ev
    have e0 : v = .non := Rep.scal sv
    obtain ⟨x', ex, sx⟩ := sl 1 (.own out) rfl
    cases ex
    refine ⟨e0, q H2 (fun b o e => (st b o (s0 b o e) fun z => by rw [z, hx] at e; cases e).1) ⟨Fs 1, sx, fun b z => ⟨?_, mu b (sub 1 b z)⟩⟩⟩
    cases e : H b with
    | none => rfl
    | some o => exact absurd (sub 1 b z) (st b o (s0 b o e) fun z => by rw [z, hx] at e; cases e).2
noncomputable def isNon : D → Bool
  | .sc .non => true
  | _ => false
noncomputable def makeF (G : List D → Option (D × List D)) (C : Addr) (k : Nat) (fa : En → Option (List D)) (ρ : En) : Option D := (fa ρ).bind fun ds => if ds.length = k then (G (.nd (.obj C []) [] :: ds)).bind fun
  | (r, [o]) => if isNon r = true then some o else none
  | _ => none else none
instance sf_make {t : TA} {k : Nat} {G : List D → Option (D × List D)} {fa : En → Option (List D)} [hC : ClsI K C] [A : SA K n t fa] : SF K n (tMake C (spI K (true :: List.replicate k false) G) [] E t) (makeF G C k fa) := ⟨fun {σ hv H U ρ τv τd d Q} I h kk => by
  obtain ⟨ds, h1, h⟩ := Option.bind_eq_some_iff.mp h
  by_cases c : ds.length = k
  · rw [if_pos c] at h
    obtain ⟨⟨r, outs⟩, h2, h⟩ := Option.bind_eq_some_iff.mp h
    match outs, h with
    | [o], h =>
      have h : (if isNon r = true then some o else none) = some d := h
      by_cases cr : isNon r = true
      · rw [if_pos cr] at h
        cases h
        have er : r = .sc .non := by
          unfold isNon at cr
          split at cr
          · rfl
          · cases cr
        refine A.s I h1 fun vs H1 s1 w => ?_
        intro x dx hx hdx ne
        rw [List.append_nil]
        exact make_new hC.h w c h2 er hx hdx ne fun H2 s2 o => kk _ H2 (s1.trans s2) (o.early s1)
      · rw [if_neg cr] at h; cases h
    | [], h => cases h
    | _ :: _ :: _, h => cases h
  · rw [if_neg c] at h; cases h⟩
instance sf_dnewK : SF K n tDNewK (fun _ => some (.nd (.dic []) [])) := ⟨fun {σ hv H U ρ τv τd d Q} I h k => by
  cases h
  intro p hp
  exact k _ _ (same_new hp _) ((OwnL.nil (K := K) (H := H) (H' := H)).node (k := .dic []) (Same.refl H) hp (.inr ⟨rfl, rfl, 0, rfl⟩))⟩
section
variable {κ : Type} [DecidableEq κ]
end
end
end VL
namespace HT
open PySem PySem.Spec PyProof.Rows L2
section
variable {prog : Program} {w : World} {A : Around} {E : Value → Shared → Prop} {s : Shared}
theorem getItem_tuple_all {t sl : Addr} {items : Array Value} {vl vu : Value} {lo hi : Option Int} {Q : Value → Shared → Prop} (ht : IsTup s.heap t items) (hs : s.heap.IsSliceOf sl vl vu .none) (pl : IsPart vl lo) (pu : IsPart vu hi)
    (hw : sIx items.size 0 lo = 0 ∧ sIx items.size items.size hi = items.size) (h : Q (.ref t) s) : wpAny (model prog w) A (getItem (.ref t) (.ref sl)) Q E s := by
  obtain ⟨os, hos, hcs, hds⟩ := id hs
  have hTs : s.TypeIs (.ref sl) "slice" := ⟨os, hos, hcs⟩
  unfold getItem
  try with_reducible refine wpAny_holding ?_
  first | refine wpAny_bind (wpAny_pure ?_) | skip
  refine wpAny_bind (wpAny_sequenceKey ht.typeIs (by decide) ?_)
  refine wpAny_bind (wpAny_callSpecial?_slot (name := Str.ofString "__getitem__") ht.typeIs PyProof.Rows.slot_tuple_getitem
    (wpAny_call_entry PyProof.Rows.slot_tuple_getitem ht.typeIs entry_tuple_getitem ?_ (args_tuple_getitem _ _)))
  show wpAny _ _ (Builtin.Tuple.tupleItemsOf (.ref t) >>= _) _ _ s
  refine wpAny_bind (tupleItemsOf_ ht ?_)
  refine wpAny_bind (wpAny_typeOf hTs ?_)
  rw [if_pos (by decide)]
  refine wpAny_bind (sliceApplied_gen hs pl pu ?_)
  have hyes : (((sIx items.size 0 lo : Nat) : Int) == 0 && (1 : Int) == 1 && (sIx items.size items.size hi - sIx items.size 0 lo) == items.size) = true := by
    rw [hw.1, hw.2]
    simp
  show wpAny _ _ (if (((sIx items.size 0 lo : Nat) : Int) == 0 && (1 : Int) == 1 && (sIx items.size items.size hi - sIx items.size 0 lo) == items.size) = true then _ else _) _ _ s
  rw [if_pos hyes]
  unfold Builtin.Tuple.tupleIsExact
  refine wpAny_bind (wpAny_bind (wpAny_typeOf ht.typeIs (wpAny_pure ?_)))
  rw [if_pos (by decide)]
  exact wpAny_bind (wpAny_rule (wpAny_pure ⟨_, rfl, wpAny_pure h⟩))
end
end HT
namespace VL
open PySem PySem.Spec PyProof.Rows L2
noncomputable def rSlTA (K : W.Frag) : V → Option Int → Option Int → Hp → VK → Prop := fun x lo hi H Q => ∃ a xs, x = .ref a ∧ SqT K H a xs ∧ (HT.sIx xs.length 0 lo = 0 ∧ HT.sIx xs.length xs.length hi = xs.length) ∧ Q (.ref a) H
theorem sl_tupA {X : Cx} : SlR X (rSlTA X.K) := by
  intro pins s σ H x v vl vu lo hi sl Q I rx hs pl pu h
  obtain ⟨a, xs, rfl, hx, hw, q⟩ := h
  cases rx
  obtain ⟨its, r, ht, hz⟩ := I.tuple hx
  have hlen : its.toArray.size = xs.length := by rw [List.size_toArray]; exact r.length.symm
  refine ⟨"tuple", _, PyProof.Rows.slot_tuple_getitem.lookup, ht.typeIs, ?_⟩
  exact HT.getItem_tuple_all ht hs pl pu (by rw [hlen]; exact hw) ⟨.ref a, H, I, rfl, q⟩
noncomputable def rSlStr : V → Option Int → Option Int → Hp → VK → Prop := fun x lo hi H Q => ∃ z, x = .str z ∧ z.length ≤ sizeLine ∧ Q (.str (Txt.slice z lo hi)) H
noncomputable def rSlU (K : W.Frag) : V → Option Int → Option Int → Hp → VK → Prop := fun x lo hi H Q => rSlT K x lo hi H Q ∨ rSlTA K x lo hi H Q ∨ rSlL K x lo hi H Q ∨ rSlStr x lo hi H Q
theorem sl_any {X : Cx} : SlR X (rSlU X.K) := SlR.or sl_tup (SlR.or sl_tupA (SlR.or sl_list sl_str))
noncomputable def cutD {α : Type} (xs : List α) (lo hi : Option Int) : List α := (xs.drop (HT.sIx xs.length 0 lo)).take (HT.sIx xs.length xs.length hi - HT.sIx xs.length 0 lo)
noncomputable def slD (a : D) (lo hi : Option Int) : Option D := match a with
  | .nd .tup cs => if plainL cs = true then some (.nd .tup (cutD cs lo hi)) else none
  | .nd .lst cs => if plainL cs = true then some (.nd .lst (cutD cs lo hi)) else none
  | .nd .frl cs => if plainL cs = true then some (.nd .lst (cutD cs lo hi)) else none
  | .sc (.str z) => if z.length ≤ sizeLine then some (.sc (.str (Txt.slice z lo hi))) else none
  | _ => none
section
variable {K : W.Frag} {n : Nat} {H H' H1 H2 : Hp} {U U' : Addr → Prop} {σ hv : List (Option V)} {ρ ρ' : En} {τv vs : List V} {τd ds : List D} {v y : V} {d : D} {N : Addr → Prop}
theorem cut_get {α β : Type} {R : α → β → Prop} {xs : List α} {ys : List β} (hl : xs.length = ys.length) (h : ∀ (i : Nat) (x : α) (y : β), xs[i]? = some x → ys[i]? = some y → R x y) (lo hi : Option Int) :
    (cutD xs lo hi).length = (cutD ys lo hi).length ∧ ∀ (i : Nat) (x : α) (y : β), (cutD xs lo hi)[i]? = some x → (cutD ys lo hi)[i]? = some y → R x y := by
  unfold cutD
  rw [hl]
  generalize HT.sIx ys.length 0 lo = p
  generalize HT.sIx ys.length ys.length hi - p = q
  refine ⟨by simp [hl], fun i x y hx hy => ?_⟩
  by_cases c : i < q
  · rw [List.getElem?_take_of_lt c, List.getElem?_drop] at hx hy
    exact h _ x y hx hy
  · rw [List.getElem?_take, if_neg c] at hx
    cases hx
theorem plainL_sub {cs es : List D} (h : plainL cs = true) (hs : ∀ d ∈ es, d ∈ cs) : plainL es = true := plainL_of fun d hd => plainL_mem h (hs d hd)
theorem cut_mem {α : Type} {xs : List α} {lo hi : Option Int} : ∀ x ∈ cutD xs lo hi, x ∈ xs := fun x hx => List.mem_of_mem_drop (List.mem_of_mem_take hx)
class SO (K : W.Frag) (n : Nat) (t : TO) (f : outParam (En → Option (Option Int))) : Prop where
  s : ∀ {σ hv : List (Option V)} {H : Hp} {U : Addr → Prop} {ρ : En} {τv : List V} {τd : List D} {o : Option Int} {Q : Option Int → Hp → Prop}, Sit K n H U σ hv ρ τv τd → f ρ = some o → (∀ H', Same H H' → Q o H') → t σ H Q
instance so_none : SO K n tNoPart (fun _ => some none) := ⟨fun I h k => by cases h; exact k _ (Same.refl _)⟩
noncomputable def toInt : D → Option (Option Int)
  | .sc (.int i) => some (some i)
  | _ => none
instance so_some {t : TE} {f : En → Option D} [A : SV K n t f] : SO K n (tPart t) (fun ρ => (f ρ).bind toInt) := ⟨fun {σ hv H U ρ τv τd o Q} I h k => by
  obtain ⟨d, h1, h2⟩ := Option.bind_eq_some_iff.mp h
  refine A.s I h1 fun v H1 s1 w1 => ?_
  unfold toInt at h2
  split at h2
  · next i => cases h2; exact ⟨i, w1.scal, k H1 s1⟩
  · cases h2⟩
theorem slD_run {Q : VK} {x : D} {lo hi : Option Int} (w : Vw K H T1 v x) (h : slD x lo hi = some d) (k : ∀ v H', Same H H' → Own K H H' v d → Q v H') : rSlU K v lo hi H Q := by
  unfold slD at h
  split at h
  · next cs =>
    by_cases c : plainL cs = true
    · rw [if_pos c] at h; cases h
      obtain ⟨a, vs, rfl, hc, vl⟩ := w.kids'
      by_cases cw : HT.sIx vs.length 0 lo = 0 ∧ HT.sIx vs.length vs.length hi = vs.length
      · refine .inr (.inl ⟨a, vs, rfl, SqT.of hc.2, cw, ?_⟩)
        have e : cutD cs lo hi = cs := by
          unfold cutD
          rw [← vl.1, cw.1, cw.2, List.drop_zero, Nat.sub_zero, vl.1, List.take_length]
        rw [e] at k
        exact k _ H (Same.refl H) (Own.plain w c)
      · refine .inl ⟨a, vs, rfl, SqT.of hc.2, cw, fun p hp => ?_⟩
        have g := cut_get vl.1 vl.2 lo hi
        exact k _ _ (same_new hp _) (VwL.own (k := .tup) ⟨g.1, g.2⟩ (plainL_sub c cut_mem) hp (.inl ⟨rfl, rfl⟩))
    · rw [if_neg c] at h; cases h
  · next cs =>
    by_cases c : plainL cs = true
    · rw [if_pos c] at h; cases h
      obtain ⟨a, vs, rfl, hc, vl⟩ := w.kids'
      refine .inr (.inr (.inl ⟨a, vs, rfl, SqL.of hc.2, fun p hp => ?_⟩))
      have g := cut_get vl.1 vl.2 lo hi
      exact k _ _ (same_new hp _) (VwL.own (k := .lst) ⟨g.1, g.2⟩ (plainL_sub c cut_mem) hp (.inr ⟨rfl, trivial, 0, rfl⟩))
    · rw [if_neg c] at h; cases h
  · next cs =>
    by_cases c : plainL cs = true
    · rw [if_pos c] at h; cases h
      obtain ⟨a, vs, rfl, hc, vl⟩ := w.kids'
      refine .inr (.inr (.inl ⟨a, vs, rfl, FrL.sq hc.2, fun p hp => ?_⟩))
      have g := cut_get vl.1 vl.2 lo hi
      exact k _ _ (same_new hp _) (VwL.own (k := .lst) ⟨g.1, g.2⟩ (plainL_sub c cut_mem) hp (.inr ⟨rfl, trivial, 0, rfl⟩))
    · rw [if_neg c] at h; cases h
  · next z =>
    by_cases c : z.length ≤ sizeLine
    · rw [if_pos c] at h; cases h; exact .inr (.inr (.inr ⟨z, w.scal, c, k _ H (Same.refl H) (.sc _)⟩))
    · rw [if_neg c] at h; cases h
  · cases h
noncomputable def slF (fe : En → Option D) (fl fh : En → Option (Option Int)) (ρ : En) : Option D := (fe ρ).bind fun d => (fl ρ).bind fun lo => (fh ρ).bind fun hi => slD d lo hi
instance sf_sl {te : TE} {tl th : TO} {fe : En → Option D} {fl fh : En → Option (Option Int)} [A : SV K n te fe] [L : SO K n tl fl] [R : SO K n th fh] : SF K n (tSl (rSlU K) te tl th) (slF fe fl fh) := ⟨fun {σ hv H U ρ τv τd d Q} I h k => by
  obtain ⟨x, h1, h⟩ := Option.bind_eq_some_iff.mp h
  obtain ⟨lo, h2, h⟩ := Option.bind_eq_some_iff.mp h
  obtain ⟨hi, h3, h⟩ := Option.bind_eq_some_iff.mp h
  refine A.s I h1 fun v H1 s1 w1 => L.s (I.same s1) h2 fun H2 s2 => R.s ((I.same s1).same s2) h3 fun H3 s3 => ?_
  exact slD_run (w1.same (s2.trans s3)) h fun v H4 s4 o => k v H4 (s1.trans (s2.trans (s3.trans s4))) (o.early (s1.trans (s2.trans s3)))⟩
noncomputable def setIx (i d : D) (cs : List D) : Option (List D) := match i with
  | .sc (.int j) => (ixN cs.length j).map fun p => cs.set p d
  | _ => none
theorem setIx_of {i d : D} {cs cs' : List D} (h : setIx i d cs = some cs') : ∃ j p, i = .sc (.int j) ∧ ixN cs.length j = some p ∧ cs' = cs.set p d := by
  unfold setIx at h
  split at h
  · next j =>
    obtain ⟨p, h1, h2⟩ := Option.map_eq_some_iff.mp h
    exact ⟨j, p, rfl, h1, h2.symm⟩
  · cases h
noncomputable def setF (fe : En → Option (D × En)) (fp : En → Option Pl) (fi : En → Option D) (ρ : En) : Option Fl := (fe ρ).bind fun a => (fp a.2).bind fun
  | .rt r p => (fi a.2).bind fun i => (lstEd a.2 r p (setIx i a.1)).map .nx
  | .ro _ => none
instance ss_setL {te to ti : TE} {fe : En → Option (D × En)} {fp : En → Option Pl} {fi : En → Option D} [A : SM K n te fe] [P : SP K n to fp] [J : SV K n ti fi] : SS K n (tAsg te (gSub to ti rSetL)) (setF fe fp fi) := ⟨fun {σ hv H U ρ τv τd fl E} I h k => by
  obtain ⟨⟨d, ρ1⟩, h1, h⟩ := Option.bind_eq_some_iff.mp h
  obtain ⟨q, h2, h⟩ := Option.bind_eq_some_iff.mp h
  cases q with
  | ro _ => cases h
  | rt r p =>
    obtain ⟨i, h3, h⟩ := Option.bind_eq_some_iff.mp h
    obtain ⟨ρ2, h4, h⟩ := Option.map_eq_some_iff.mp h
    subst h
    refine A.s I h1 fun x H1 U1 I1 st1 => ?_
    refine P.s I1 h2 fun o H2 s2 w2 => ?_
    have I2 := I1.same s2
    refine J.s I2 h3 fun j H3 s3 w3 => ?_
    have I3 := I2.same s3
    have w2' := w2.same s3
    have stS : Stp U1 H1 U1 H3 := fun b o q nu => ⟨(s2.trans s3) b o q, nu⟩
    obtain ⟨⟨d0, kk, cs⟩, g1, g2⟩ := Option.bind_eq_some_iff.mp h4
    obtain ⟨hr, hg⟩ := nodeAt_of g1
    split at g2
    · next e =>
      have e : kk = .lst := e
      subst e
      obtain ⟨cs', g3, g4⟩ := Option.map_eq_some_iff.mp g2
      subst g4
      obtain ⟨z, pp, ei, g5, g6⟩ := setIx_of (show setIx i d cs = some cs' from g3)
      subst ei
      subst g6
      · skip
        obtain ⟨a, dx, vs, rfl, ha, hf, hl, _, ed⟩ := Sit.edit (xs := [x]) (ds := [d]) I3 rfl w2' hr hg rfl
        have hi : pp < vs.length := by rw [hl]; exact ixN_lt g5
        refine ⟨a, vs, z, pp, rfl, w3.scal, ha, by rw [hl]; exact g5, ?_⟩
        obtain ⟨U4, I4, st4⟩ := ed .lst (vs.set pp x) (cs.set pp d) (fun j => if j = pp then vs.length else j) rfl trivial (by rw [List.length_set, List.length_set]; exact hl)
          (fun x z hx hz => sel_inj hi x z (by rw [List.length_set] at hx; exact hx) (by rw [List.length_set] at hz; exact hz)) (sel_set hi) (by rw [hl]; exact sel_set (by omega))
        exact k σ _ U4 I4 (st1.trans (stS.trans st4))
    · cases g2⟩
noncomputable def popF (fp : En → Option Pl) (ρ : En) : Option (D × En) := (fp ρ).bind fun
  | .rt r p => (nodeAt ρ r p).bind fun z => match z.2.1 with
    | .lst => (z.2.2[z.2.2.length - 1]?).bind fun d => if plain d = true then some (d, editE ρ r z.1 p (.nd .lst z.2.2.dropLast)) else none
    | _ => none
  | .ro _ => none
theorem dropLast_get {α : Type} {xs : List α} {i : Nat} {x : α} (h : xs.dropLast[i]? = some x) : xs[i]? = some x := by
  rw [List.getElem?_dropLast] at h
  split at h
  · exact h
  · cases h
instance (priority := 600) sm_pop {to : TE} {fp : En → Option Pl} [P : SP K n to fp] : SM K n (tBM0 K "list" rPop to) (popF fp) := ⟨fun {σ hv H U ρ ρ' τv τd d Q} I h k => by
  obtain ⟨q, h1, h⟩ := Option.bind_eq_some_iff.mp h
  cases q with
  | ro _ => cases h
  | rt r p =>
    obtain ⟨⟨d0, kk, cs⟩, g1, g2⟩ := Option.bind_eq_some_iff.mp h
    obtain ⟨hr, hg⟩ := nodeAt_of g1
    split at g2
    · next e =>
      have e : kk = .lst := e
      subst e
      obtain ⟨d1, g3, g4⟩ := Option.bind_eq_some_iff.mp g2
      by_cases c : plain d1 = true
      · rw [if_pos c] at g4
        cases g4
        refine P.s I h1 fun x H1 s1 w1 => ?_
        have I1 := I.same s1
        have stS : Stp U H U H1 := fun b o q nu => ⟨s1 b o q, nu⟩
        obtain ⟨a, dx, vs, rfl, ha, hf, hl, vl, ed⟩ := Sit.edit (τv := τv) (τd := τd) (xs := []) (ds := []) (by rw [List.append_nil, List.append_nil]; exact I1) rfl w1 hr hg rfl
        have g3 : cs[cs.length - 1]? = some d := g3
        obtain ⟨y, hy, wy⟩ := vl.get g3
        obtain ⟨U3, I3, st3⟩ := ed .lst vs.dropLast cs.dropLast id rfl trivial (by simp [hl]) (fun x z _ _ h => h) (fun j x h => by rw [List.append_nil]; exact dropLast_get h) (fun j x h => by rw [List.append_nil]; exact dropLast_get h)
        have wy3 : Vw K (upd H1 a (.lst vs.dropLast)) T1 y d := ((wy.plain c).frame (fun _ _ z => z.elim) (stay_upd (by rw [ha]; trivial))).vw
        · obtain ⟨U4, I4, st4⟩ := I3.push (Same.refl _) (Own.plain wy3 c)
          exact ⟨tyV_list ha, a, vs, y, rfl, rfl, ha, by rw [hl]; exact hy, k _ _ U4 I4 (stS.trans (st3.trans st4))⟩
      · rw [if_neg c] at g4; cases g4
    · cases g2⟩
end
end VL
namespace VL
open PySem PySem.Spec PyProof.Rows L2
theorem spP_len {K : W.Frag} {m : Nat} {G : List D → Option D} {vs : List V} {H : Hp} {Q : VK} {E : XK} (h : spP K m G vs H Q E) : vs.length = m := by
  obtain ⟨ds, d, hd, w, _⟩ := h
  rw [w.1, hd]
noncomputable def CapL (X : Cx) (scope : Scope) : List Str → List (Option Nat) → Prop
  | [], [] => True
  | _ :: N, none :: js => CapL X scope N js
  | x :: N, some j :: js => (X.N[j]? = some x ∧ scope.names.lookup x = some .free ∧ (X.env.scope.names.lookup x = some .cell ∨ X.env.scope.names.lookup x = some .free)) ∧ CapL X scope N js
  | _, _ => False
noncomputable def capN : List Str → List (Option Nat) → List Str
  | _ :: N, none :: js => capN N js
  | x :: N, some _ :: js => x :: capN N js
  | _, _ => []
theorem CapL.len {X : Cx} {scope : Scope} : ∀ {N : List Str} {js : List (Option Nat)}, CapL X scope N js → js.length = N.length
  | [], [], _ => rfl
  | _ :: N, none :: js, h => congrArg (· + 1) (CapL.len (N := N) (js := js) h)
  | _ :: N, some _ :: js, h => congrArg (· + 1) (CapL.len (N := N) (js := js) h.2)
  | [], _ :: _, h => h.elim
  | _ :: _, [], h => h.elim
theorem CapL.at {X : Cx} {scope : Scope} : ∀ {N : List Str} {js : List (Option Nat)} {i j : Nat} {x : Str}, CapL X scope N js → js[i]? = some (some j) → N[i]? = some x → X.N[j]? = some x ∧ scope.names.lookup x = some .free ∧ (X.env.scope.names.lookup x = some .cell ∨ X.env.scope.names.lookup x = some .free)
  | [], [], _, _, _, _, h, _ => by simp at h
  | _ :: N, none :: js, 0, j, x, _, h, _ => by cases h
  | _ :: N, none :: js, i + 1, j, x, h, h1, h2 => CapL.at (N := N) (js := js) (i := i) h (by simpa using h1) (by simpa using h2)
  | _ :: N, some _ :: js, 0, j, x, h, h1, h2 => by cases h1; cases h2; exact h.1
  | _ :: N, some _ :: js, i + 1, j, x, h, h1, h2 => CapL.at (N := N) (js := js) (i := i) h.2 (by simpa using h1) (by simpa using h2)
  | [], _ :: _, _, _, _, h, _, _ => h.elim
  | _ :: _, [], _, _, _, h, _, _ => h.elim
theorem CapL.mem {X : Cx} {scope : Scope} : ∀ {N : List Str} {js : List (Option Nat)} {x : Str}, CapL X scope N js → x ∈ capN N js → X.env.scope.names.lookup x = some .cell ∨ X.env.scope.names.lookup x = some .free
  | [], [], _, _, h => by simp [capN] at h
  | _ :: N, none :: js, x, h, hm => CapL.mem (N := N) (js := js) h hm
  | y :: N, some _ :: js, x, h, hm => by
    rw [capN] at hm
    cases hm with
    | head => exact h.1.2.2
    | tail _ hm => exact CapL.mem (N := N) (js := js) h.2 hm
  | [], _ :: _, _, h, _ => h.elim
  | _ :: _, [], _, h, _ => h.elim
theorem capOf {X : Cx} {scope : Scope} {N : List Str} {js : List (Option Nat)} (h : CapL X scope N js) (hfr : ∀ z ∈ scope.names, z.2 = .free → z.1 ∈ capN N js := by decide +kernel) : CapOk X N scope js :=
  ⟨h.len, fun i j x e1 e2 => h.at e1 e2, fun z hz hz2 => h.mem (hfr z hz hz2)⟩
structure CalM (P : Program) (w : World) (K : W.Frag) (mg : Str → Option Value) (base : Heap) (C : Addr) (m : Str) (ps : List Str) (k : Nat) (sp : Sp) : Prop where
  cl : Cls K C
  ex : ∃ (f : Addr) (fd : FuncData), FnOk P w K mg base CX0 k f fd ps sp ∧ Binds K fd ps [] ∧ Meth K C m f
structure CalC (P : Program) (w : World) (K : W.Frag) (mg : Str → Option Value) (base : Heap) (x : Str) (C : Addr) (ps : List Str) (k : Nat) (sp : Sp) : Prop where
  cl : Cls K C
  ex : ∃ (f : Addr) (fd : FuncData), FnOk P w K mg base CX0 k f fd ps sp ∧ Binds K fd ps [] ∧ Mk K C f ∧ mg x = some (.ref C)
section
variable {X : Cx} {C : Addr} {ps : List Str} {j k : Nat} {sp : Sp} {x m : Str} {p pos apos : Pos} {e o : Expr} {es : List Expr} {ta : TE} {t : TA}
theorem pe_calM {pl : Sem Bool} (M : CalM X.prog X.w X.K X.mg X.base C m ps k sp) (hr : Room j X.A) (he : PE X o ta) (ha : PA X (e :: es) t) (hj : k ≤ j := by decide)
    (hst : starEach (e :: es) X.env = (false, eval e X.env) :: starEach es X.env := by rfl) (hpl : (backTo pos (starEach es X.env)).any (·.1) = false := by rfl)
    (ht : eval (.Call (.Attribute o m apos) (e :: es) [] pos) X.env = (do
      let ov ← eval o X.env
      standAt apos.atName
      let (f, first) ← holding [ov] (getMethod ov m pl)
      callWith pos f first (backTo pos (starEach (e :: es) X.env)) (backToKw pos (keywordEach [] X.env))) := by rfl) :
    PE X (.Call (.Attribute o m apos) (e :: es) [] pos) (tMeth C m sp [] E0 ta t) := by
  obtain ⟨f, fd, F, b, hm⟩ := M.ex
  exact pe_meth (pl := pl) he M.cl hm F (hr.mono hj) b .nil pass0 ha hst hpl ht
theorem pe_calC (M : CalC X.prog X.w X.K X.mg X.base x C ps k sp) (hr : Room j X.A) (hg : Gl X x) (ha : PA X (e :: es) t) (hj : k + 1 ≤ j := by decide) (hdb : (x == ("__debug__" : Str)) = false := by decide)
    (he : starEach (e :: es) X.env = (false, eval e X.env) :: starEach es X.env := by rfl) (hpl : (backTo pos (starEach es X.env)).any (·.1) = false := by rfl) :
    PE X (.Call (.Name x p) (e :: es) [] pos) (tMake C sp [] E0 t) := by
  obtain ⟨f, fd, F, b, mk, hm⟩ := M.ex
  exact pe_make mk F (hr.mono hj) hg hm b .nil pass0 ha hdb he hpl
theorem pe_fldK {X : Cx} {K : W.Frag} (hK : X.K = K) {e : Expr} {f : Str} {pos : Pos} {ta : TE} (he : PE X e ta) (hb : attributeBase e f X.env (eval e X.env) = eval e X.env) : PE X (.Attribute e f pos) (tFld K ta f) := by
  subst hK
  exact pe_fld he hb
end
section
variable {K : W.Frag} {n : Nat} {H H' H1 H2 : Hp} {U U' : Addr → Prop} {σ hv : List (Option V)} {ρ ρ' : En} {τv vs : List V} {τd ds : List D} {v y : V} {d : D} {N : Addr → Prop}
instance svt_true : SVT K n tTrue (fun _ => some true) := ⟨fun I h k => by cases h; exact k _ (Same.refl _)⟩
end
end VL
namespace VL
open PySem PySem.Spec PyProof.Rows L2
section
variable {X : Cx}
end
section
variable {K : W.Frag} {n : Nat} {H H' : Hp} {U U' : Addr → Prop} {σ hv : List (Option V)} {ρ ρ' : En} {τv vs : List V} {τd ds cs : List D} {v : V} {d : D} {E : Ends}
end
end VL
namespace VL
open PySem PySem.Spec PyProof.Rows PySem.W L2
section
variable {X : Cx} {o : Expr} {to : TE} {apos cpos : Pos}
end
section
variable {K : W.Frag} {n : Nat} {H H' : Hp}
end
end VL
namespace VL
open PySem PySem.Spec PyProof.Rows PySem.W L2
theorem call_fn_tree_kw {prog : Program} {w : World} {A : Around} {E : Value → Shared → Prop} {s : Shared} {id : String} {b : Builtin} {args : List Value} {kw : List (Str × Value)} {Q : Value → Shared → Prop} (hk : builtinKind id = none) (hp : plainId id = true)
    (hb : entryFor table id = some b) (ha : argsOk id ⟨args, kw⟩)
    (hc : wpAny (model prog w) A.in1 (b ⟨args, kw⟩) (fun fin s' => match fin with
      | .done f => (match (Except.ok f : Result) with | .ok (.ret v) => Q v s' | .ok _ => False | .error e => E e s')
      | .again c' => c'.quiet = true ∧ codeAny (model prog w) A c' (fun r s' => match r with | .ok (.ret v) => Q v s' | .ok _ => False | .error e => E e s') s') E s) :
    wpAny (model prog w) A (call (.builtin id) args kw) Q E s := by
  refine wpAny_call (codeAny_call_builtin hp hb ?_)
  simp only [checkBuiltinCall, hk]
  cases hsig : Manifest.signature? id with
  | none => exact wpAny_pure hc
  | some sig =>
    have ha' : Bind.checkArgs id sig ⟨args, kw⟩ = pure () := by simpa only [argsOk, hsig] using ha
    simp only [ha']
    exact wpAny_pure hc
theorem args_maxK (a k : Value) : argsOk "max" ⟨[a], [("key", k)]⟩ := by unfold argsOk; kernel_rfl
section
variable {X : Cx} {k : Nat} {f : Addr} {fd : FuncData} {ps : List Str} {sp : Sp}
end
section
variable {K : W.Frag} {n : Nat} {H H' : Hp}
end
end VL
namespace VL
open PySem PySem.Spec PyProof.Rows PySem.W L2
section
open AutoSeq1 (wpAny_loadPart')
open MeetsSeq MeetsSeq2 MeetsSeq3 SeqRoads2
theorem rcI {prog : Program} {w : World} {A : Around} {E : Value → Shared → Prop} {s : Shared} {a b : Int} {t u : Tok} {Q : Value → Shared → Prop} (h : Q (.bool (decide (b < a))) s) : wpAny (model prog w) A (richCompare .Gt (.int a t) (.int b u)) Q E s := SiftDown.gt_int h
theorem eqT {prog : Program} {w : World} {A : Around} {E : Value → Shared → Prop} {s : Shared} {a b : Int} {t u : Tok} {Q : Bool → Shared → Prop} (e : a = b) (h : Q true s) : wpAny (model prog w) A (eqBool (.int a t) (.int b u)) Q E s := wpAny_eqBool_int (by rw [show (a == b) = true by simp [e]]; exact h)
theorem eqF {prog : Program} {w : World} {A : Around} {E : Value → Shared → Prop} {s : Shared} {a b : Int} {t u : Tok} {Q : Bool → Shared → Prop} (e : a ≠ b) (h : Q false s) : wpAny (model prog w) A (eqBool (.int a t) (.int b u)) Q E s := wpAny_eqBool_int (by rw [show (a == b) = false by simp [e]]; exact h)
noncomputable def gt2 (i j i' j' : Int) : Bool := if i = i' then decide (j' < j) else decide (i' < i)
set_option maxHeartbeats 4000000 in
theorem tuple_gt2 (l b : Addr) (i j i' j' : Int) (t u t' u' : Tok) (n n2 : Nat) (dd dd2 : Option Addr) (sl sl2 : Array (Option Value)) :
    Meets (Builtin.«tuple.__gt__» ⟨[.ref l, .ref b], []⟩)
      (fun A R s => s.heap.get? l = some { cls := .type "tuple", dict := dd, data := .seq #[.int i t, .int j u] n, slots := sl } ∧ s.heap.get? b = some { cls := .type "tuple", dict := dd2, data := .seq #[.int i' t', .int j' u'] n2, slots := sl2 } ∧
        R (.ok (.ret (.bool (gt2 i j i' j')))) s) :=
  .of_wp fun prog w A R s h => by
    obtain ⟨hp, g, d, tk, os⟩ := s; obtain ⟨hl, hb, h⟩ := h
    have f2 := AutoSeq1.sub_tuple_tuple
    unfold gt2 at h
    by_cases e : i = i'
    · rw [if_pos e] at h
      by_cases e2 : j = j'
      · have c3 : decide (j' < j) = false := by simp [e2]
        rw [c3] at h
        wp_walk using wpAny_loadPart' hl, wpAny_loadPart' hb, eqT e, eqT e2
        exact ⟨_, rfl, h⟩
      · wp_walk using wpAny_loadPart' hl, wpAny_loadPart' hb, eqT e, eqF e2, rcI
        exact ⟨_, rfl, h⟩
    · rw [if_neg e] at h
      wp_walk using wpAny_loadPart' hl, wpAny_loadPart' hb, eqF e, rcI
      exact ⟨_, rfl, h⟩
theorem rc_gt2 {prog : Program} {w : World} {A : Around} {E : Value → Shared → Prop} {s : Shared} {l b : Addr} {i j i' j' : Int} {t u t' u' : Tok} {Q : Value → Shared → Prop} (hl : s.heap.IsTuple l #[.int i t, .int j u]) (hb : s.heap.IsTuple b #[.int i' t', .int j' u']) (hu : A.units < cLine)
    (h : Q (.bool (gt2 i j i' j')) s) : wpAny (model prog w) A (richCompare .Gt (.ref l) (.ref b)) Q E s := by
  obtain ⟨⟨cls, dd, data, sl⟩, ho, hc, n, hd⟩ := id hl
  obtain ⟨⟨cls2, dd2, data2, sl2⟩, ho2, hc2, n2, hd2⟩ := id hb
  simp only at hc hd hc2 hd2
  subst hc hd hc2 hd2
  exact richCompare_meets_room (op := .Gt) ⟨_, ho, rfl⟩ ⟨_, ho2, rfl⟩ F.slot_tuple_gt F.entry_tuple_gt (F.args_tuple_gt_2 _ _) (tuple_gt2 l b i j i' j' t u t' u' n n2 dd dd2 sl sl2)
    ⟨ho, ho2, show Value.bool (gt2 i j i' j') ≠ Value.notImplemented ∧ Q (.bool (gt2 i j i' j')) s from ⟨(fun x => nomatch x), h⟩⟩ hu
end
end VL
namespace VL
open PySem PySem.Spec PyProof.Rows PySem.W L2
section
variable {X : Cx} {k : Nat} {f : Addr} {fd : FuncData} {ps : List Str} {sp : Sp}
noncomputable def Gt2 (K : W.Frag) (H : Hp) (x y : V) (g : Bool) : Prop := ∃ (p q : Addr) (i j i' j' : Int), x = .ref p ∧ y = .ref q ∧ SqT K H p [.int i, .int j] ∧ SqT K H q [.int i', .int j'] ∧ g = gt2 i j i' j'
noncomputable def MaxGo (K : W.Frag) (sp : Sp) (a : Addr) (xs : List V) (Q : VK) : List V → Option (V × V) → Hp → Prop
  | [], some (b, _), H => Q b H
  | [], none, _ => False
  | x :: r, best, H => sp [x] H (fun kv H2 => H2 a = some (.lst xs) ∧ match best with
    | none => MaxGo K sp a xs Q r (some (x, kv)) H2
    | some (b, bk) => ∃ g, Gt2 K H2 kv bk g ∧ MaxGo K sp a xs Q r (if g = true then some (x, kv) else some (b, bk)) H2) E0
noncomputable def BestIs : Option (V × V) → List Value → Prop
  | none, us => us = []
  | some (b, bk), us => Vals [b, bk] us
theorem maxK_loop {pins : List (Addr × Obj)} {σ : L2.St} {Q : VK} {a it S : Addr} {xs : List V} (F : FnOk X.prog X.w X.K X.mg X.base CX0 k f fd ps sp) (hb : Binds X.K fd ps []) (hr : Room (k + 1) X.A) (hc : X.calm = true) (hne : it ≠ S) (hai : a ≠ it) :
    ∀ (rest : List V) (i : Nat) (best : Option (V × V)) (us : List Value) (n : Nat) (H : Hp) (s : Shared), xs.drop i = rest → Inv X pins σ H s → H a = some (.lst xs) → s.heap.IsListIter it a i → s.heap.get? S = some { cls := .type "list", data := .seq us.toArray n } → BestIs best us → FpOk X pins H it → FpOk X pins H S →
      MaxGo X.K sp a xs Q rest best H → codeAny (model X.prog X.w) X.A (.builtin "max.loop" ⟨[.ref it, .ref f, .ref S], []⟩) (fun r s' => match r with | .ok (.ret v) => EP X pins σ Q v s' | .ok _ => False | .error e => X.xe e s') s
  | [], i, none, us, n, H, s, hd, I, ha, hit, hS, hB, fI, fS, h => h.elim
  | [], i, some (b, bk), us, n, H, s, hd, I, ha, hit, hS, hB, fI, fS, h => by
    obtain ⟨its, rv, pl, hz⟩ := I.list (SqL.of ha)
    have W := Walks.list (prog := X.prog) (w := X.w) (A := X.A.in1) (show X.A.in1.handled = none from I.ok.hd hc) it a hai
    have hi : xs.length ≤ i := by
      rcases Nat.lt_or_ge i xs.length with h | h
      · rw [List.drop_eq_getElem_cons h] at hd; cases hd
      · exact h
    have hsz : its.toArray.size = xs.length := by rw [List.size_toArray]; exact rv.length.symm
    obtain ⟨ub, uk, rfl, rb, rk⟩ := L2.vals2 hB
    refine codeAny_builtin PySem.F.entry_max_loop ?_
    rw [Around.under_plainId PySem.F.plain_max_loop _]
    show wpAny _ X.A.in1 (seqItems? (.ref S) >>= _) _ _ _
    refine wpAny_bind (wpAny_seqItems hS rfl ?_)
    show wpAny _ X.A.in1 (tryCatch (pyNext (.ref it)) _ >>= _) _ _ _
    refine wpAny_bind (wpAny_tryCatch (wpAny_pyNext_list_end (show X.A.in1.handled = none from I.ok.hd hc) hit pl.isList (Array.getElem?_eq_none (by rw [hsz]; exact hi)) fun h7 he7 => ?_))
    have hk7 : ∀ b o, b ≠ it → s.heap.get? b = some o → h7.get? b = some o := fun b o hb' e => he7 b o hb' e
    have hS7 := hk7 S _ (fun z => hne z.symm) hS
    have I7 : L2.Inv X pins σ H { s with heap := h7 } := I.turned (t' := s.toks) (it := it) hk7 fI.1 fI.2.1 fI.2.2.2.1 fI.2.2.2.2.1 fI.2.2.2.2.2
    show wpAny _ X.A.in1 (updateSeq S (fun _ => #[]) >>= _) _ _ _
    refine wpAny_bind ?_
    refine wpAny_updateSeq hS7 rfl (wpAny_bind (wpAny_letGo (wpAny_pure ?_)))
    exact ⟨b, H, L2.Inv.turned (s := { s with heap := h7 }) I7 (t' := s.toks) (it := S) (fun b o n e => (Heap.get?_update_other _ _ (Ne.symm n)).trans e) fS.1 fS.2.1 fS.2.2.2.1 fS.2.2.2.2.1 fS.2.2.2.2.2, rb, h⟩
  | x :: r, i, best, us, n, H, s, hd, I, ha, hit, hS, hB, fI, fS, h => by
    have hname : (toString "max" ++ toString ".loop" : String) = "max.loop" := by decide
    obtain ⟨its, rv, pl, hz⟩ := I.list (SqL.of ha)
    have W := Walks.list (prog := X.prog) (w := X.w) (A := X.A.in1) (show X.A.in1.handled = none from I.ok.hd hc) it a hai
    have hi : i < xs.length := by
      rcases Nat.lt_or_ge i xs.length with h | h
      · exact h
      · rw [List.drop_of_length_le h] at hd; cases hd
    have hx : xs[i]? = some x := by rw [List.drop_eq_getElem_cons hi] at hd; injection hd with e1 e2; rw [List.getElem?_eq_getElem hi, e1]
    have hr' : xs.drop (i + 1) = r := by rw [List.drop_eq_getElem_cons hi] at hd; injection hd
    have hsz : its.toArray.size = xs.length := by rw [List.size_toArray]; exact rv.length.symm
    refine codeAny_builtin PySem.F.entry_max_loop ?_
    rw [Around.under_plainId PySem.F.plain_max_loop _]
    show wpAny _ X.A.in1 (seqItems? (.ref S) >>= _) _ _ _
    refine wpAny_bind (wpAny_seqItems hS rfl ?_)
    show wpAny _ X.A.in1 (tryCatch (pyNext (.ref it)) _ >>= _) _ _ _
    refine wpAny_bind (wpAny_tryCatch ((W its.toArray).item i _ _ _ (by rw [hsz]; exact hi) ⟨hit, pl.isList⟩ fun v' h4 tk hP st1 hk4 => ?_))
    obtain ⟨u', eu', ru'⟩ := rv.get hx
    have e4 : v' = u' := by
      have : its[i]? = some v' := by simpa using hP
      rw [eu'] at this; injection this with this; exact this.symm
    subst e4
    have I4 : L2.Inv X pins σ H { s with heap := h4, toks := tk } := I.turned (t' := tk) (it := it) (fun b o n e => hk4 b o (fun z => n (List.mem_singleton.mp z)) e) fI.1 fI.2.1 fI.2.2.2.1 fI.2.2.2.2.1 fI.2.2.2.2.2
    have hS4 : h4.get? S = _ := hk4 S _ (fun z => hne (List.mem_singleton.mp z).symm) hS
    obtain ⟨oi, hi4, ci4, di4⟩ := id st1.1
    have I4p : L2.Inv X (pins ++ pinsAt [it, S] h4) σ H { s with heap := h4, toks := tk } := I4.pinned (fp := [it, S]) (fun b hb' => by
        rcases List.mem_cons.mp hb' with rfl | hb'
        · exact fI
        · rw [List.mem_singleton.mp hb']; exact fS) (fun b hb' => by
        rcases List.mem_cons.mp hb' with rfl | hb'
        · exact ⟨oi, hi4, fun v z => by rw [di4] at z; cases z⟩
        · rw [List.mem_singleton.mp hb']; exact ⟨_, hS4, fun v z => by cases z⟩)
    show wpAny _ X.A.in1 (tryCatch (holding [v'] (call (.ref f) [v'])) _ >>= _) _ _ _
    refine wpAny_bind (wpAny_tryCatch (wpAny_holding ?_))
    have hl : ([v'] ++ []).length = ps.length := (F.len _ _ _ _ h)
    have rv1 : Vals [x] [v'] := .cons ru' .nil
    refine wpAny_call (codeAny_mono (F.run X.A.in1 X.stack _ H ⟨[v'], []⟩ ([v'] ++ []) [x] _ E0 hr.in1 I4.env0.in1 (hb _ [v'] I4.kIn hl) rv1 h) fun r s5 hq => ?_)
    cases r with
    | error e => exact hq.elim
    | ok fl =>
      cases fl with
      | next => exact False.elim hq
      | brk => exact False.elim hq
      | cont => exact False.elim hq
      | ret uk =>
        obtain ⟨kv, H5, I5, rk, ha5, q5⟩ := I4p.after hq
        have pS : (S, _) ∈ pinsAt [it, S] h4 := mem_pinsAt (List.mem_cons_of_mem _ (List.mem_singleton.mpr rfl)) hS4
        have pI : (it, oi) ∈ pinsAt [it, S] h4 := mem_pinsAt (List.mem_cons_self) hi4
        have hS5 := (I5.pin _ (List.mem_append_right _ (List.mem_append_right _ pS)))
        have hI5 := (I5.pin _ (List.mem_append_right _ (List.mem_append_right _ pI)))
        have I5u : L2.Inv X pins σ H5 s5 := I5.unpinned
        have gI : FpOk X pins H5 it := ⟨hI5.2.1, fI.2⟩
        have gS : FpOk X pins H5 S := ⟨hS5.2.1, fS.2⟩
        have up : ∀ (g : Array Value → Array Value), L2.Inv X pins σ H5 { s5 with heap := s5.heap.update S (Obj.mapSeq g) } := fun g => I5u.turned (t' := s5.toks) (it := S) (fun b o n e => (Heap.get?_update_other _ _ (Ne.symm n)).trans e) gS.1 gS.2.1 gS.2.2.2.1 gS.2.2.2.2.1 gS.2.2.2.2.2
        have itU : ∀ (g : Array Value → Array Value), (s5.heap.update S (Obj.mapSeq g)).IsListIter it a (i + 1) := fun g => ⟨oi, (Heap.get?_update_other _ _ (Ne.symm hne)).trans hI5.1, ci4, di4⟩
        cases best with
        | none =>
          have hB' : us = [] := hB
          subst hB'
          show wpAny _ X.A.in1 (updateSeq S (fun _ => #[v', uk]) >>= _) _ _ _
          refine wpAny_bind ?_
          refine wpAny_updateSeq hS5.1 rfl ?_
          rw [hname]
          refine wpAny_pure ⟨plainId_quiet PySem.F.plain_max_loop _, ?_⟩
          exact maxK_loop F hb hr hc hne hai _ (i + 1) (some (x, kv)) [v', uk] _ H5 _ hr' (up _) ha5 (itU _) (Heap.get?_update_self (Obj.mapSeq fun _ => #[v', uk]) hS5.1 rfl) (.cons ru' (.cons rk .nil)) gI gS q5
        | some bb =>
          obtain ⟨b, bk⟩ := bb
          obtain ⟨ub, ubk, rfl, rb, rbk⟩ := L2.vals2 hB
          obtain ⟨g, ⟨pp, qq, i1, j1, i2, j2, rfl, rfl, h1, h2, hg⟩, q6⟩ := q5
          cases rk
          cases rbk
          obtain ⟨its1, rv1, tp1, _⟩ := I5u.tuple h1
          obtain ⟨its2, rv2, tp2, _⟩ := I5u.tuple h2
          obtain ⟨w1, w2, rfl, c1, c2⟩ := L2.vals2 rv1
          obtain ⟨w3, w4, rfl, c3, c4⟩ := L2.vals2 rv2
          obtain ⟨t1, rfl⟩ := c1
          obtain ⟨t2, rfl⟩ := c2
          obtain ⟨t3, rfl⟩ := c3
          obtain ⟨t4, rfl⟩ := c4
          show wpAny _ X.A.in1 (tryCatch (holding [v', Value.ref pp] (richCompare .Gt (.ref pp) (.ref qq) >>= _)) _ >>= _) _ _ _
          refine wpAny_bind (wpAny_tryCatch (wpAny_holding (wpAny_bind (rc_gt2 tp1 tp2 (Nat.lt_of_le_of_lt (Nat.le_add_right _ 1) (hu_of hr.in1)) ?_))))
          refine wpAny_bind (wpAny_holding (wpAny_truthy_bool ?_))
          refine wpAny_bind (wpAny_letGo (wpAny_pure ?_))
          rw [← hg]
          cases g with
          | true =>
            show wpAny _ X.A.in1 (updateSeq S (fun _ => #[v', .ref pp]) >>= _) _ _ _
            refine wpAny_bind ?_
            refine wpAny_updateSeq hS5.1 rfl ?_
            refine wpAny_bind (wpAny_letGo ?_)
            rw [hname]
            refine wpAny_pure ⟨plainId_quiet PySem.F.plain_max_loop _, ?_⟩
            exact maxK_loop F hb hr hc hne hai _ (i + 1) (some (x, .ref pp)) [v', .ref pp] _ H5 _ hr' (up _) ha5 (itU _) (Heap.get?_update_self (Obj.mapSeq fun _ => #[v', .ref pp]) hS5.1 rfl) (.cons ru' (.cons rfl .nil)) gI gS q6
          | false =>
            show wpAny _ X.A.in1 (letGo _ >>= _) _ _ _
            refine wpAny_bind (wpAny_letGo ?_)
            rw [hname]
            refine wpAny_pure ⟨plainId_quiet PySem.F.plain_max_loop _, ?_⟩
            exact maxK_loop F hb hr hc hne hai _ (i + 1) (some (b, .ref qq)) [ub, .ref qq] _ H5 _ hr' I5u ha5 ⟨oi, hI5.1, ci4, di4⟩ hS5.1 (.cons rb (.cons rfl .nil)) gI gS q6
theorem call_maxK {pins : List (Addr × Obj)} {σ : L2.St} {H : Hp} {s : Shared} {Q : VK} {a : Addr} {xs : List V} (F : FnOk X.prog X.w X.K X.mg X.base CX0 k f fd ps sp) (hb : Binds X.K fd ps []) (hr : Room (k + 1) X.A) (hc : X.calm = true)
    (I : Inv X pins σ H s) (ha : H a = some (.lst xs)) (h : MaxGo X.K sp a xs Q xs none H) :
    wpAny (model X.prog X.w) X.A (call (.builtin "max") [.ref a] [("key", .ref f)]) (EP X pins σ Q) X.xe s := by
  have hname : (toString "max" ++ toString ".loop" : String) = "max.loop" := by decide
  obtain ⟨its, rv, pl, hz⟩ := I.list (SqL.of ha)
  have lt : a < s.heap.objs.size := by obtain ⟨o, n, e, _⟩ := pl; exact Heap.lt_size e
  refine call_fn_tree_kw PySem.F.kind_max PySem.F.plain_max PySem.F.entry_max (args_maxK _ _) ?_
  show wpAny _ X.A.in1 (Builtin.Builtins.bindParams "max" ["key", "default"] 0 ⟨[], [("key", .ref f)]⟩ >>= _) _ _ s
  refine wpAny_bind (wpAny_of_eq (show Builtin.Builtins.bindParams "max" ["key", "default"] 0 ⟨[], [("key", .ref f)]⟩ = pure [some (.ref f), none] from rfl) ?_)
  refine wpAny_bind (wpAny_pure ?_)
  refine wpAny_bind (wpAny_pyIter_list pl.isList ?_)
  refine wpAny_bind (wpAny_newObj_type ?_)
  rw [hname]
  refine wpAny_pure ⟨plainId_quiet PySem.F.plain_max_loop _, ?_⟩
  have hS3 := Heap.get?_push_size (s.heap.push { cls := .type "list_iterator", data := .fields #[.ref a, .int 0 0] }) (o := { cls := .type "list", data := .seq #[] }) rfl
  have hi3 : ((s.heap.push { cls := .type "list_iterator", data := .fields #[.ref a, .int 0 0] }).push { cls := .type "list", data := .seq #[] }).get? s.heap.objs.size = some { cls := .type "list_iterator", data := .fields #[.ref a, .int 0 0] } :=
    Heap.get?_push_of_some _ (Heap.get?_push_size _ rfl)
  have kp3 : ∀ b o, s.heap.get? b = some o → ((s.heap.push { cls := .type "list_iterator", data := .fields #[.ref a, .int 0 0] }).push { cls := .type "list", data := .seq #[] }).get? b = some o :=
    fun b o e => Heap.get?_push_of_some _ (Heap.get?_push_of_some _ e)
  have hSz : (s.heap.push { cls := .type "list_iterator", data := .fields #[.ref a, .int 0 0] }).objs.size = s.heap.objs.size + 1 := Heap.size_push _ _
  show codeAny (model X.prog X.w) X.A (.builtin "max.loop" ⟨[.ref s.heap.objs.size, .ref f, .ref (s.heap.push { cls := .type "list_iterator", data := .fields #[.ref a, .int 0 0] }).objs.size], []⟩) _ { s with heap := (s.heap.push { cls := .type "list_iterator", data := .fields #[.ref a, .int 0 0] }).push { cls := .type "list", data := .seq #[] } }
  generalize ((s.heap.push { cls := .type "list_iterator", data := .fields #[.ref a, .int 0 0] }).push { cls := .type "list", data := .seq #[] }) = h3 at hS3 hi3 kp3 ⊢
  generalize hS : (s.heap.push { cls := .type "list_iterator", data := .fields #[.ref a, .int 0 0] }).objs.size = S at hS3 hSz ⊢
  have fI : FpOk X pins H s.heap.objs.size := I.fpOk (Nat.le_refl _) (I.hok.fresh (Nat.le_refl _))
  have fS : FpOk X pins H S := I.fpOk (by omega) (I.hok.fresh (by omega))
  have I3 : L2.Inv X pins σ H { s with heap := h3 } := I.kept (t' := s.toks) kp3
  have neS : s.heap.objs.size ≠ S := by omega
  exact maxK_loop F hb hr hc neS (Nat.ne_of_lt lt) xs 0 none [] _ H _ rfl I3 ha ⟨_, hi3, rfl, rfl⟩ hS3 rfl fI fS h
noncomputable def tMaxK (K : W.Frag) (sp : Sp) (t : TA) : TE := fun σ H Q => t σ H fun vs H1 => ∃ a xs, vs = [.ref a] ∧ H1 a = some (.lst xs) ∧ MaxGo K sp a xs Q xs none H1
theorem pe_maxK {K : W.Frag} {j : Nat} {x : Str} {e : Expr} {t : TA} {p p2 kp pos : Pos} (C : Cal X.prog X.w X.K X.mg X.base x ps k sp) (hr : Room j X.A) (hc : X.calm = true) (hg : Gl X "max") (hm : X.mg "max" = none) (hgx : Gl X x) (ha : PA X [e] t) (hK : X.K = K := by rfl)
    (hj : k + 1 ≤ j := by decide) (hdb : (x == ("__debug__" : Str)) = false := by decide) (hs : starEach [e] X.env = (false, eval e X.env) :: starEach [] X.env := by rfl) :
    PE X (.Call (.Name "max" p) [e] [⟨some "key", .Name x p2, kp⟩] pos) (tMaxK K sp t) := by
  subst hK
  intro pins s σ H Q I h
  obtain ⟨f, fd, o, b, kp', m⟩ := C.ex
  refine wpAny_Call_Name_kw (ld_blt I hg hm PyProof.Rows.boot_max ?_)
  refine callWith_kw (thn (ha pos pins s σ H _ I h) fun us s1 ⟨vs, H1, I1, r1, a, v, ev, ha1, q1⟩ => ?_) (by rw [hs]; rfl) (by rw [hs]; rfl) rfl rfl
  · subst ev
    obtain ⟨u, rfl, ru⟩ := L2.vals1 r1
    cases ru
    refine kws_cons (ld_glob I1 hgx m ?_ hdb)
    refine kws_nil ?_
    exact call_maxK o b (hr.mono hj) hc I1 ha1 q1
end
section
variable {K : W.Frag} {n : Nat} {H H' : Hp}
noncomputable def pairI : D → Option (Int × Int)
  | .nd .tup [.sc (.int i), .sc (.int j)] => some (i, j)
  | _ => none
noncomputable def maxGoD (G : List D → Option D) : List D → D → Int × Int → Option D
  | [], b, _ => some b
  | d :: ds, b, q => (G [d]).bind fun e => (pairI e).bind fun k => if gt2 k.1 k.2 q.1 q.2 = true then maxGoD G ds d k else maxGoD G ds b q
theorem pairI_at {v : V} {e : D} {k : Int × Int} (w : Vw K H T1 v e) (h : pairI e = some k) : ∃ p, v = .ref p ∧ SqT K H p [.int k.1, .int k.2] := by
  unfold pairI at h
  split at h
  · next i j =>
    cases h
    obtain ⟨p, us, rfl, hc, vl⟩ := w.kids'
    obtain ⟨x, y, rfl, wx, wy⟩ := vl.two
    have hc2 : H p = some (.tup [x, y]) := hc.2
    have ex : x = .int i := wx.scal
    have ey : y = .int j := wy.scal
    subst ex ey
    exact ⟨p, rfl, .inl (.inl hc2)⟩
  · cases h
end
end VL
namespace VL
open PySem PySem.Spec PyProof.Rows L2
section
variable {P : Program} {w : World} {K : W.Frag} {mg : Str → Option Value} {base : Heap} {k : Nat} {f : Addr} {fd : FuncData} {ps : List Str} {m : Nat} {mask : List Bool}
theorem fn_noneP : FnOk P w K mg base CX0 k f fd ps (spP K m fun _ => none) := by
  refine ⟨fun vs H Q E h => ?_, fun A outer s H args us vs Q E _ _ _ _ h => ?_⟩
  · obtain ⟨ds, d, _, _, h, _⟩ := h; cases h
  · obtain ⟨ds, d, _, _, h, _⟩ := h; cases h
end
section
variable {K : W.Frag} {n : Nat} {H H' H1 H2 : Hp} {U U' : Addr → Prop} {σ hv : List (Option V)} {ρ ρ' : En} {τv vs : List V} {τd ds : List D} {v y : V} {d : D} {E : Ends} {N : Addr → Prop}
noncomputable def forM1 (fa : En → Option (List D × En)) (fg : D → En → Option En) (fb : En → Option Fl) (ρ : En) : Option Fl := (fa ρ).bind fun a => (rng1 a.1).bind fun ds => forL fg fb ds a.2
instance (priority := 50) ss_forM1 {ta : TA} {g : TG} {tb : TS} {fa : En → Option (List D × En)} {fg : D → En → Option En} {is : List Nat} {fb : En → Option Fl} [A : SMA K n ta fa] [G : SG K n g fg is] [B' : SS K n tb fb] : SS K n (tFor (iRng1 ta) g tb) (forM1 fa fg fb) := ⟨fun {σ hv H U ρ τv τd fl E} I h k => by
  obtain ⟨⟨as, ρ0⟩, h1, h⟩ := Option.bind_eq_some_iff.mp h
  obtain ⟨ds, h2, h⟩ := Option.bind_eq_some_iff.mp h
  refine A.s I h1 fun vs H1 U1 hl I1 st1 => ?_
  obtain ⟨j, e, c1, c2, e2⟩ := rng1_vs (I1.lasts hl) h2
  have I1' := I1.drop hl
  have wk := rng_walkS (K := K) 0 j.toNat
  subst e
  refine ⟨j, rfl, c1, c2, ?_⟩
  rw [← e2] at wk
  refine ⟨fun i m σ' H' => m = ds.length - i ∧ i ≤ ds.length ∧ ∃ U' ρ', Sit K n H' U' σ' hv ρ' τv τd ∧ Stp U H U' H' ∧ forL fg fb (ds.drop i) ρ' = some fl, ⟨ds.length, by simp, Nat.zero_le _, U1, ρ0, I1', st1, h⟩, ?_⟩
  rintro i m σ' H' ⟨rfl, hi, U', ρ', Ix, st, fo⟩
  by_cases hlt : i < ds.length
  · right
    have hd : ds[i]? = some ds[i] := List.getElem?_eq_getElem hlt
    obtain ⟨go, yl⟩ := wk.item (H := H') (U := U') trivial hd
    rw [List.drop_eq_getElem_cons hlt, forL] at fo
    obtain ⟨ρ1, b1, fo⟩ := Option.bind_eq_some_iff.mp fo
    obtain ⟨fl1, b2, fo⟩ := Option.bind_eq_some_iff.mp fo
    refine ⟨go, fun σ2 H2 => ∃ U2 ρ2, Sit K n H2 U2 σ2 hv ρ2 τv τd ∧ Stp U' H' U2 H2 ∧ forL fg fb (ds.drop (i + 1)) ρ2 = some fl, fun σ2 H2 ⟨U2, ρ2, a1, a2, a3⟩ => ⟨_, by omega, rfl, hlt, U2, ρ2, a1, st.trans a2, a3⟩, fun x H2 y2 => ?_⟩
    obtain ⟨e, w2⟩ := yl x H2 y2
    subst e
    refine G.s Ix w2 b1 fun σ2 I2 => ?_
    refine B'.s I2 b2 ?_
    cases fl1 with
    | nx ρ2 => exact fun σ3 H3 U3 I3 s3 => ⟨U3, ρ2, I3, s3, fo⟩
    | ct ρ2 => exact fun σ3 H3 U3 I3 s3 => ⟨U3, ρ2, I3, s3, fo⟩
    | bk ρ2 => cases fo; exact fun σ3 H3 U3 I3 s3 => k σ3 H3 U3 I3 (st.trans s3)
    | rt d ρ2 => cases fo; exact fun v σ3 H3 U3 I3 s3 => k v σ3 H3 U3 I3 (st.trans s3)
  · left
    have e : i = ds.length := by omega
    subst e
    rw [List.drop_length, forL] at fo
    cases fo
    exact ⟨wk.stop (H := H') (U := U') trivial, k σ' H' U' Ix st⟩⟩
end
section
variable {K : W.Frag} {n : Nat}
noncomputable def ixPl (g : D → D → Option Nat) (gs : V → D → Option V) (a b : D) : Option D := (ixV g gs a b).bind fun d => if plain d = true then some d else none
theorem ix_opd {r : R2} {g : D → D → Option Nat} {gs : V → D → Option V} [O : IxD K r g gs] : OpD K r (ixPl g gs) := ⟨fun {H x y dx dy d Q} w1 w2 h k => by
  obtain ⟨d', h1, h2⟩ := Option.bind_eq_some_iff.mp h
  by_cases c : plain d' = true
  · rw [if_pos c] at h2
    cases h2
    cases dx with
    | sc z =>
      obtain ⟨w, h3, h4⟩ := Option.map_eq_some_iff.mp h1
      subst h4
      rw [w1.scal]
      exact O.t w2 h3 (k w H (Same.refl H) (.sc w))
    | hl _ =>
      obtain ⟨i, hi, h⟩ := Option.bind_eq_some_iff.mp h1
      cases h
    | nd kk cs =>
      obtain ⟨i, hi, h⟩ := Option.bind_eq_some_iff.mp h1
      have h : cs[i]? = some d := h
      obtain ⟨a, vs, rfl, _, hc, hl, kid⟩ := w1.node
      obtain ⟨u, hu⟩ := sat_get hl h
      exact O.s hc hl w2 hi hu (k u H (Same.refl H) (Own.plain (kid i u d hu h) c))
  · rw [if_neg c] at h2; cases h2⟩
instance (priority := 30) sm_ix {r : R2} {ta tb : TE} {fa fb : En → Option (D × En)} {g : D → D → Option Nat} {gs : V → D → Option V} [A : SM K n ta fa] [B' : SM K n tb fb] [O : IxD K r g gs] : SM K n (tOp r ta tb) (op2M (ixPl g gs) fa fb) :=
  have : OpD K r (ixPl g gs) := ix_opd
  sm_op
end
end VL
namespace VL
open PySem PySem.Spec PyProof.Rows L2
section
variable {K : W.Frag} {n : Nat}
noncomputable def addV (a b : D) : Option D := match a, b with
  | .nd .tup xs, .nd .tup ys => if xs ≠ [] ∧ xs.length + ys.length ≤ sizeLine then some (.nd .tup (xs ++ ys)) else none
  | a, b => addD a b
theorem addV_run {H : Hp} {x y : V} {a b d : D} {Q : VK} (w1 : Vw K H T1 x a) (w2 : Vw K H T1 y b) (h : addV a b = some d) (k : ∀ v H', Same H H' → Vw K H' T1 v d → Q v H') : rAddU K x y H Q := by
  unfold addV at h
  split at h
  · next xs ys =>
    by_cases c : xs ≠ [] ∧ xs.length + ys.length ≤ sizeLine
    · rw [if_pos c] at h; cases h
      obtain ⟨a, vs, rfl, hc, vl⟩ := w1.kids'
      obtain ⟨b, us, rfl, hc2, ul⟩ := w2.kids'
      have nv : vs ≠ [] := fun z => by
        subst z
        have := vl.1
        exact c.1 (List.eq_nil_of_length_eq_zero this.symm)
      refine .inr (.inr (.inr ⟨a, b, vs, us, rfl, rfl, SqT.of hc.2, SqT.of hc2.2, nv, by rw [vl.1, ul.1]; exact c.2, fun z => ?_, fun _ p hp => ?_⟩))
      · subst z
        have e : ys = [] := List.eq_nil_of_length_eq_zero ul.1.symm
        subst e
        rw [List.append_nil] at k
        exact k _ H (Same.refl H) w1
      · exact k _ _ (same_new hp _) ((vl.app ul).node hp (.inl ⟨rfl, rfl⟩))
    · rw [if_neg c] at h; cases h
  · exact op_addD.s w1 w2 h fun v H3 s3 o => k v H3 s3 o.vw
instance (priority := 950) sv_addT {ta tb : TE} {fa fb : En → Option D} [A : SV K n ta fa] [B' : SV K n tb fb] : SV K n (tOp (rAddU K) ta tb) (op2 addV fa fb) := ⟨fun {σ hv H U ρ τv τd d Q} I h k => by
  obtain ⟨a, ha, h⟩ := Option.bind_eq_some_iff.mp h
  obtain ⟨b, hb, h⟩ := Option.bind_eq_some_iff.mp h
  refine A.s I ha fun x H1 s1 w1 => ?_
  refine B'.s (I.same s1) hb fun y H2 s2 w2 => ?_
  exact addV_run (w1.same s2) w2 h fun v H3 s3 w => k v H3 (s1.trans (s2.trans s3)) w⟩
noncomputable def slV (a : D) (lo hi : Option Int) : Option D := match a with
  | .nd .tup cs => some (.nd .tup (cutD cs lo hi))
  | a => slD a lo hi
theorem slV_run {H : Hp} {v : V} {a d : D} {lo hi : Option Int} {Q : VK} (w : Vw K H T1 v a) (h : slV a lo hi = some d) (k : ∀ v H', Same H H' → Vw K H' T1 v d → Q v H') : rSlU K v lo hi H Q := by
  unfold slV at h
  split at h
  · next cs =>
    cases h
    obtain ⟨a, vs, rfl, hc, vl⟩ := w.kids'
    by_cases cw : HT.sIx vs.length 0 lo = 0 ∧ HT.sIx vs.length vs.length hi = vs.length
    · refine .inr (.inl ⟨a, vs, rfl, SqT.of hc.2, cw, ?_⟩)
      have e : cutD cs lo hi = cs := by
        unfold cutD
        rw [← vl.1, cw.1, cw.2, List.drop_zero, Nat.sub_zero, vl.1, List.take_length]
      rw [e] at k
      exact k _ H (Same.refl H) w
    · refine .inl ⟨a, vs, rfl, SqT.of hc.2, cw, fun p hp => ?_⟩
      have g := cut_get vl.1 vl.2 lo hi
      exact k _ _ (same_new hp _) (VwL.node (k := .tup) ⟨g.1, g.2⟩ hp (.inl ⟨rfl, rfl⟩))
  · exact slD_run w h fun v H4 s4 o => k v H4 s4 o.vw
noncomputable def slVF (fe : En → Option D) (fl fh : En → Option (Option Int)) (ρ : En) : Option D := (fe ρ).bind fun d => (fl ρ).bind fun lo => (fh ρ).bind fun hi => slV d lo hi
instance (priority := 950) sv_slT {te : TE} {tl th : TO} {fe : En → Option D} {fl fh : En → Option (Option Int)} [A : SV K n te fe] [L : SO K n tl fl] [R : SO K n th fh] : SV K n (tSl (rSlU K) te tl th) (slVF fe fl fh) := ⟨fun {σ hv H U ρ τv τd d Q} I h k => by
  obtain ⟨x, h1, h⟩ := Option.bind_eq_some_iff.mp h
  obtain ⟨lo, h2, h⟩ := Option.bind_eq_some_iff.mp h
  obtain ⟨hi, h3, h⟩ := Option.bind_eq_some_iff.mp h
  refine A.s I h1 fun v H1 s1 w1 => L.s (I.same s1) h2 fun H2 s2 => R.s ((I.same s1).same s2) h3 fun H3 s3 => ?_
  exact slV_run (w1.same (s2.trans s3)) h fun v H4 s4 w => k v H4 (s1.trans (s2.trans (s3.trans s4))) w⟩
end
end VL
namespace VL
open PySem PySem.Spec PyProof.Rows L2
section
variable {K : W.Frag} {n : Nat}
instance (priority := 2000) sm_ixL {r : R2} {ta : TA} {tb : TE} {fa : En → Option (List D)} {fb : En → Option (D × En)} {g : D → D → Option Nat} {gs : V → D → Option V} [A : SQA K n ta fa] [B' : SM K n tb fb] [O : IxD K r g gs] : SM K n (tOp r (tLst ta) tb) (op2M (ixPl g gs) (fun ρ => (ndQ .lst fa ρ).map fun d => (d, ρ)) fb) :=
  have : SM K n (tLst ta) (fun ρ => (ndQ .lst fa ρ).map fun d => (d, ρ)) := @sm_of_sf K n _ _ sf_lst
  sm_ix
end
end VL
namespace VL
open PySem PySem.Spec PyProof.Rows L2
section
variable {K : W.Frag} {n : Nat} {C : Addr} {E : XK}
noncomputable def callPM (G : List D → Option D) (m : Nat) (fa : En → Option (List D × En)) (ρ : En) : Option (D × En) := (fa ρ).bind fun p => if p.1.length = m then (G p.1).map fun d => (d, p.2) else none
instance (priority := 60) sm_callP {ta : TA} {fa : En → Option (List D × En)} {G : List D → Option D} {m : Nat} [A : SMA K n ta fa] : SM K n (tCall (spP K m G) [] E ta) (callPM G m fa) := ⟨fun {σ hv H U ρ ρ' τv τd d Q} I h kk => by
  obtain ⟨⟨ds, ρ1⟩, h1, h⟩ := Option.bind_eq_some_iff.mp h
  have h : (if ds.length = m then (G ds).map fun d => (d, ρ1) else none) = some (d, ρ') := h
  by_cases c : ds.length = m
  · rw [if_pos c] at h
    obtain ⟨d', h2, h3⟩ := Option.map_eq_some_iff.mp h
    cases h3
    refine A.s I h1 fun vs H1 U1 hl I1 st1 => ?_
    show spP K m G (vs ++ []) H1 Q E
    rw [List.append_nil]
    refine ⟨ds, _, c, I1.lasts hl, h2, fun v H2 s2 o => ?_⟩
    obtain ⟨U3, I3, st3⟩ := (I1.drop hl).push s2 o
    exact kk _ H2 U3 I3 (st1.trans st3)
  · rw [if_neg c] at h; cases h⟩
end
end VL
namespace VL
open PySem PySem.Spec PyProof.Rows L2
section
variable {K : W.Frag} {n : Nat} {H H' : Hp} {U U' : Addr → Prop} {σ hv : List (Option V)} {ρ ρ' : En} {τv vs : List V} {τd ds : List D} {v : V} {d : D}
end
end VL
namespace VL
open PySem PySem.Spec PyProof.Rows L2
section
variable {X : Cx}
end
section
variable {K : W.Frag} {n : Nat} {H H' : Hp} {N : Addr → Prop}
end
end VL
namespace VL
open PySem PySem.Spec PyProof.Rows L2
section
variable {K : W.Frag} {n : Nat} {H H' : Hp} {N : Addr → Prop}
end
end VL
set_option maxHeartbeats 4000000
namespace VL
open PySem L2
noncomputable abbrev iD (i : Int) : D := .sc (.int i)
noncomputable abbrev tD (b : Bool) : D := .sc (.bl b)
noncomputable abbrev sD (s : Str) : D := .sc (.str s)
noncomputable def scr (cs : List Int) : D := .nd .frl (cs.map fun i => .sc (.int i))
theorem eq0 (c d : Int) : eqP id (.sc (.int c)) (.sc (.int d)) = some (.sc (.bl (decide (c = d)))) := by
  simp [eqP, toPy, PyData.canLay0, PyData.depth, PyData.eqv]
  by_cases h : c = d <;> simp [h]
theorem ne0 (c d : Int) : eqP (!·) (.sc (.int c)) (.sc (.int d)) = some (.sc (.bl (decide (c ≠ d)))) := by
  simp [eqP, toPy, PyData.canLay0, PyData.depth, PyData.eqv]
  by_cases h : c = d <;> simp [h]
theorem eqS (c d : Str) (hc : PyData.strOk c = true) (hd : PyData.strOk d = true) : eqP id (.sc (.str c)) (.sc (.str d)) = some (.sc (.bl (decide (c = d)))) := by
  simp [hc, hd, eqP, toPy, PyData.canLay0, PyData.depth, PyData.eqv]
  by_cases h : c = d <;> simp [h]
theorem sl1 : (1 ≤ sizeLine) = True := eq_true (by decide)
theorem sl2 : (2 ≤ sizeLine) = True := eq_true (by decide)
theorem sl3 : (3 ≤ sizeLine) = True := eq_true (by decide)
theorem sl5 : (5 ≤ sizeLine) = True := eq_true (by decide)
theorem sl6 : (6 ≤ sizeLine) = True := eq_true (by decide)
theorem sl7 : (7 ≤ sizeLine) = True := eq_true (by decide)
noncomputable def NA (x : Option B) : Prop := ∀ r p, x ≠ some (.ali r p)
theorem unroot_nil {i : Nat} : unroot i [] = [] := rfl
theorem unroot_own {i : Nat} {d : D} {r : En} : unroot i (some (.own d) :: r) = some (.own d) :: unroot i r := rfl
theorem unroot_ro {i : Nat} {d : D} {r : En} : unroot i (some (.ro d) :: r) = some (.ro d) :: unroot i r := rfl
theorem unroot_none {i : Nat} {r : En} : unroot i (none :: r) = none :: unroot i r := rfl
theorem unroot_ali {i j : Nat} {p : List Nat} {r : En} : unroot i (some (.ali j p) :: r) = (if j = i then none else some (.ali j p)) :: unroot i r := rfl
theorem unroot_na {i : Nat} {x : Option B} {r : En} (h : NA x) : unroot i (x :: r) = x :: unroot i r := by
  match x, h with
  | none, _ => rfl
  | some (.own _), _ => rfl
  | some (.ro _), _ => rfl
  | some (.ali r p), h => exact absurd rfl (h r p)
theorem pruneB_na {ρ : En} {x : Option B} (h : NA x) : pruneB ρ x = x := by
  match x, h with
  | none, _ => rfl
  | some (.own _), _ => rfl
  | some (.ro _), _ => rfl
  | some (.ali r p), h => exact absurd rfl (h r p)
noncomputable def Ev (f : En → Option Fl) (ρ : En) (Q : Fl → Prop) : Prop := ∃ fl, f ρ = some fl ∧ Q fl
theorem Ev.seq {t u : En → Option Fl} {ρ : En} {Q : Fl → Prop} (h : Ev t ρ fun fl => match fl with | .nx ρ' => Ev u ρ' Q | fl => Q fl) : Ev (seqF t u) ρ Q := by
  obtain ⟨fl, e, h⟩ := h
  unfold Ev seqF
  rw [e]
  cases fl with
  | nx ρ' => exact h
  | _ => exact ⟨_, rfl, h⟩
theorem Ev.nx {t u : En → Option Fl} {ρ ρ' : En} {Q : Fl → Prop} (e : t ρ = some (.nx ρ')) (h : Ev u ρ' Q) : Ev (seqF t u) ρ Q := Ev.seq ⟨_, e, h⟩
theorem bodyP_ev {n : Nat} {f : En → Option Fl} {ds : List D} {R : D → Prop} (h : Ev f (ds.map (fun d => some (.ro d)) ++ List.replicate (n - ds.length) none) fun fl => match fl with | .rt d _ => R d | .nx _ => R (.sc .non) | _ => False) : ∃ d, bodyP n f ds = some d ∧ R d := by
  obtain ⟨fl, e, h⟩ := h
  unfold bodyP
  rw [e]
  cases fl with
  | nx ρ' => exact ⟨_, rfl, h⟩
  | rt d ρ' => exact ⟨_, rfl, h⟩
  | bk _ => exact h.elim
  | ct _ => exact h.elim
theorem forL_ev {fg : D → En → Option En} {fb : En → Option Fl} {Q : Fl → Prop} (P : En → Prop) : ∀ (ds : List D) (ρ : En), P ρ → (∀ d ∈ ds, ∀ ρ, P ρ → ∃ ρ1, fg d ρ = some ρ1 ∧ Ev fb ρ1 fun fl => match fl with | .nx ρ2 => P ρ2 | .ct ρ2 => P ρ2 | .bk ρ2 => Q (.nx ρ2) | .rt d ρ2 => Q (.rt d ρ2)) →
    (∀ ρ, P ρ → Q (.nx ρ)) → ∃ fl, forL fg fb ds ρ = some fl ∧ Q fl
  | [], ρ, p, _, hd => ⟨_, rfl, hd ρ p⟩
  | d :: ds, ρ, p, st, hd => by
    obtain ⟨ρ1, e1, fl, e2, h⟩ := st d (.head _) ρ p
    rw [forL, e1]
    show ∃ fl, (fb ρ1).bind _ = some fl ∧ Q fl
    rw [e2]
    cases fl with
    | nx ρ2 => exact forL_ev P ds ρ2 h (fun d hd' => st d (.tail _ hd')) hd
    | ct ρ2 => exact forL_ev P ds ρ2 h (fun d hd' => st d (.tail _ hd')) hd
    | bk ρ2 => exact ⟨_, rfl, h⟩
    | rt d ρ2 => exact ⟨_, rfl, h⟩
theorem Ev.for {fi : En → Option (List D)} {fg : D → En → Option En} {fb : En → Option Fl} {ρ : En} {Q : Fl → Prop} {ds : List D} (hi : fi ρ = some ds) (P : En → Prop) (h0 : P ρ)
    (st : ∀ d ∈ ds, ∀ ρ, P ρ → ∃ ρ1, fg d ρ = some ρ1 ∧ Ev fb ρ1 fun fl => match fl with | .nx ρ2 => P ρ2 | .ct ρ2 => P ρ2 | .bk ρ2 => Q (.nx ρ2) | .rt d ρ2 => Q (.rt d ρ2)) (hd : ∀ ρ, P ρ → Q (.nx ρ)) :
    Ev (fun ρ => (fi ρ).bind fun ds => forL fg fb ds ρ) ρ Q := by
  show ∃ fl, (fi ρ).bind _ = some fl ∧ Q fl
  rw [hi]
  exact forL_ev P ds ρ h0 st hd
theorem rng1_ok (m : Nat) (hm : m < 100) : rng1 [.sc (.int (m : Int))] = some (rngD 0 m) := by
  unfold rng1
  dsimp only
  rw [if_pos ⟨by omega, by omega⟩]
  rfl
theorem compD_map {α : Type} {fg : D → En → Option En} {ft : En → Option Bool} {fe : En → Option D} {ρ0 : En} (g : α → D) (p : α → Bool) (h : α → D) : ∀ (l : List α), (∀ a ∈ l, ∃ ρ1, fg (g a) ρ0 = some ρ1 ∧ ft ρ1 = some (p a) ∧ (p a = true → fe ρ1 = some (h a))) →
    compD fg ft fe ρ0 (l.map g) = some ((l.filter p).map h)
  | [], _ => rfl
  | a :: l, H => by
    obtain ⟨ρ1, e1, e2, e3⟩ := H a (.head _)
    have ih := compD_map g p h l fun x hx => H x (.tail _ hx)
    rw [List.map_cons, compD, e1]
    show (ft ρ1).bind _ = _
    rw [e2]
    show (if p a = true then _ else _) = _
    cases q : p a with
    | true => rw [if_pos rfl, e3 q]; show (compD fg ft fe ρ0 (l.map g)).map _ = _; rw [ih, List.filter_cons_of_pos q]; rfl
    | false => rw [if_neg Bool.false_ne_true, ih, List.filter_cons_of_neg (by rw [q]; exact Bool.false_ne_true)]
theorem bodyP_rt {n : Nat} {f : En → Option Fl} {ds : List D} {d : D} {ρ' : En} (h : f (ds.map (fun d => some (.ro d)) ++ List.replicate (n - ds.length) none) = some (.rt d ρ')) : bodyP n f ds = some d := by
  unfold bodyP
  rw [h]
theorem bodyI_rt {n : Nat} {mask : List Bool} {f : En → Option Fl} {ds o : List D} {d : D} {ρ' : En} (h : f (envI n mask ds) = some (.rt d ρ')) (ho : allOwn (ρ'.drop n) = some o) : bodyI n mask f ds = some (d, o) := by
  unfold bodyI
  rw [h]
  show (allOwn (ρ'.drop n)).map _ = _
  rw [ho]
  rfl
theorem retF_ok {f : En → Option (D × En)} {ρ ρ' : En} {d : D} (h : f ρ = some (d, ρ')) : retF f ρ = some (.rt d ρ') := by
  unfold retF
  rw [h]
  rfl
theorem seqF_nx {t u : En → Option Fl} {ρ ρ' : En} {r : Option Fl} (e : t ρ = some (.nx ρ')) (h : u ρ' = r) : seqF t u ρ = r := by
  unfold seqF
  rw [e]
  exact h
theorem map_ok {x : Option D} {ρ : En} {d : D} (h : x = some d) : x.map (fun d => (d, ρ)) = some (d, ρ) := by rw [h]; rfl
theorem lcF_ok {n : Nat} {js : List (Option Nat)} {is : List Nat} {fi : En → Option (List D)} {fg : D → En → Option En} {ft : En → Option Bool} {fe : En → Option D} {ρ : En} {ds ys : List D} (h1 : fi ρ = some ds) (hz : ds.length ≤ sizeLine) (hall : is.all (fun i => js[i]? == some none) = true)
    (h2 : compD fg ft fe (capE n js ρ) ds = some ys) : lcF n js is fi fg ft fe ρ = some (.nd .lst ys) := by
  unfold lcF
  rw [h1]
  show (if _ then _ else _) = _
  rw [if_pos ⟨hz, hall⟩, h2]
  rfl
theorem lcF_map {α : Type} {n : Nat} {js : List (Option Nat)} {is : List Nat} {fi : En → Option (List D)} {fg : D → En → Option En} {ft : En → Option Bool} {fe : En → Option D} {ρ : En} (l : List α) (g : α → D) (p : α → Bool) (h : α → D) (h1 : fi ρ = some (l.map g)) (hz : l.length ≤ sizeLine) (hall : is.all (fun i => js[i]? == some none) = true)
    (h2 : ∀ a ∈ l, ∃ ρ1, fg (g a) (capE n js ρ) = some ρ1 ∧ ft ρ1 = some (p a) ∧ (p a = true → fe ρ1 = some (h a))) : lcF n js is fi fg ft fe ρ = some (.nd .lst ((l.filter p).map h)) :=
  lcF_ok h1 (by rw [List.length_map]; exact hz) hall (compD_map g p h l h2)
theorem mem_rng {lo : Int} {m : Nat} {d : D} (h : d ∈ rngD lo m) : ∃ i : Nat, i < m ∧ d = iD (lo + i) := by
  unfold rngD at h
  obtain ⟨i, hi, e⟩ := List.mem_map.mp h
  exact ⟨i, List.mem_range.mp hi, e.symm⟩
theorem pB_own {ρ : En} {d : D} : pruneB ρ (some (.own d)) = some (.own d) := rfl
theorem pB_ro {ρ : En} {d : D} : pruneB ρ (some (.ro d)) = some (.ro d) := rfl
theorem pB_none {ρ : En} : pruneB ρ none = none := rfl
theorem na_none : NA none := fun _ _ h => by cases h
theorem na_ro {d : D} : NA (some (.ro d)) := fun _ _ h => by cases h
theorem na_own {d : D} : NA (some (.own d)) := fun _ _ h => by cases h
theorem sne_many_number : (Str.ofString "many" = Str.ofString "number") = False := eq_false (by decide +kernel)
theorem sne_term_number : (Str.ofString "term" = Str.ofString "number") = False := eq_false (by decide +kernel)
theorem sne_term_many : (Str.ofString "term" = Str.ofString "many") = False := eq_false (by decide +kernel)
theorem sne_of_number : (Str.ofString "of" = Str.ofString "number") = False := eq_false (by decide +kernel)
theorem sne_of_many : (Str.ofString "of" = Str.ofString "many") = False := eq_false (by decide +kernel)
theorem sne_of_term : (Str.ofString "of" = Str.ofString "term") = False := eq_false (by decide +kernel)
theorem sne_log_number : (Str.ofString "log" = Str.ofString "number") = False := eq_false (by decide +kernel)
theorem sne_log_many : (Str.ofString "log" = Str.ofString "many") = False := eq_false (by decide +kernel)
theorem sne_log_term : (Str.ofString "log" = Str.ofString "term") = False := eq_false (by decide +kernel)
theorem sne_log_of : (Str.ofString "log" = Str.ofString "of") = False := eq_false (by decide +kernel)
theorem sne_done_number : (Str.ofString "done" = Str.ofString "number") = False := eq_false (by decide +kernel)
theorem sne_done_many : (Str.ofString "done" = Str.ofString "many") = False := eq_false (by decide +kernel)
theorem sne_done_term : (Str.ofString "done" = Str.ofString "term") = False := eq_false (by decide +kernel)
theorem sne_done_of : (Str.ofString "done" = Str.ofString "of") = False := eq_false (by decide +kernel)
theorem sne_done_log : (Str.ofString "done" = Str.ofString "log") = False := eq_false (by decide +kernel)
theorem sne_role_number : (Str.ofString "role" = Str.ofString "number") = False := eq_false (by decide +kernel)
theorem sne_role_many : (Str.ofString "role" = Str.ofString "many") = False := eq_false (by decide +kernel)
theorem sne_role_term : (Str.ofString "role" = Str.ofString "term") = False := eq_false (by decide +kernel)
theorem sne_role_of : (Str.ofString "role" = Str.ofString "of") = False := eq_false (by decide +kernel)
theorem sne_role_log : (Str.ofString "role" = Str.ofString "log") = False := eq_false (by decide +kernel)
theorem sne_role_done : (Str.ofString "role" = Str.ofString "done") = False := eq_false (by decide +kernel)
theorem sne_voices_number : (Str.ofString "voices" = Str.ofString "number") = False := eq_false (by decide +kernel)
theorem sne_voices_many : (Str.ofString "voices" = Str.ofString "many") = False := eq_false (by decide +kernel)
theorem sne_voices_term : (Str.ofString "voices" = Str.ofString "term") = False := eq_false (by decide +kernel)
theorem sne_voices_of : (Str.ofString "voices" = Str.ofString "of") = False := eq_false (by decide +kernel)
theorem sne_voices_log : (Str.ofString "voices" = Str.ofString "log") = False := eq_false (by decide +kernel)
theorem sne_voices_done : (Str.ofString "voices" = Str.ofString "done") = False := eq_false (by decide +kernel)
theorem sne_voices_role : (Str.ofString "voices" = Str.ofString "role") = False := eq_false (by decide +kernel)
theorem sne_sizes_number : (Str.ofString "sizes" = Str.ofString "number") = False := eq_false (by decide +kernel)
theorem sne_sizes_many : (Str.ofString "sizes" = Str.ofString "many") = False := eq_false (by decide +kernel)
theorem sne_sizes_term : (Str.ofString "sizes" = Str.ofString "term") = False := eq_false (by decide +kernel)
theorem sne_sizes_of : (Str.ofString "sizes" = Str.ofString "of") = False := eq_false (by decide +kernel)
theorem sne_sizes_log : (Str.ofString "sizes" = Str.ofString "log") = False := eq_false (by decide +kernel)
theorem sne_sizes_done : (Str.ofString "sizes" = Str.ofString "done") = False := eq_false (by decide +kernel)
theorem sne_sizes_role : (Str.ofString "sizes" = Str.ofString "role") = False := eq_false (by decide +kernel)
theorem sne_sizes_voices : (Str.ofString "sizes" = Str.ofString "voices") = False := eq_false (by decide +kernel)
theorem sne_fixed_number : (Str.ofString "fixed" = Str.ofString "number") = False := eq_false (by decide +kernel)
theorem sne_fixed_many : (Str.ofString "fixed" = Str.ofString "many") = False := eq_false (by decide +kernel)
theorem sne_fixed_term : (Str.ofString "fixed" = Str.ofString "term") = False := eq_false (by decide +kernel)
theorem sne_fixed_of : (Str.ofString "fixed" = Str.ofString "of") = False := eq_false (by decide +kernel)
theorem sne_fixed_log : (Str.ofString "fixed" = Str.ofString "log") = False := eq_false (by decide +kernel)
theorem sne_fixed_done : (Str.ofString "fixed" = Str.ofString "done") = False := eq_false (by decide +kernel)
theorem sne_fixed_role : (Str.ofString "fixed" = Str.ofString "role") = False := eq_false (by decide +kernel)
theorem sne_fixed_voices : (Str.ofString "fixed" = Str.ofString "voices") = False := eq_false (by decide +kernel)
theorem sne_fixed_sizes : (Str.ofString "fixed" = Str.ofString "sizes") = False := eq_false (by decide +kernel)
noncomputable def Gd (n : Nat) (d : D) : Prop := ∃ p, toPy d = some p ∧ p.canLay0 = true ∧ p.depth ≤ n ∧ PyData.eqv p p = true
noncomputable def GdL (n : Nat) (ds : List D) : Prop := ∃ ps, toPyL ds = some ps ∧ PyData.canLayAll0 ps = true ∧ PyData.depthAll ps ≤ n ∧ PyData.eqvAll ps ps = true
theorem Gd.int (i : Int) : Gd 0 (.sc (.int i)) := ⟨.int i, by simp [toPy], by simp [PyData.canLay0], by simp [PyData.depth], by simp [PyData.eqv]⟩
theorem Gd.str (x : Str) (h : PyData.strOk x = true) : Gd 0 (.sc (.str x)) := ⟨.str x, by simp [toPy], by simp [PyData.canLay0, h], by simp [PyData.depth], by simp [PyData.eqv]⟩
theorem Gd.mono {m n : Nat} {d : D} (h : Gd m d) (l : m ≤ n) : Gd n d := by
  obtain ⟨p, a, b, c, e⟩ := h
  exact ⟨p, a, b, Nat.le_trans c l, e⟩
theorem GdL.nil {n : Nat} : GdL n [] := ⟨[], by simp [toPyL], by simp [PyData.canLayAll0], by simp [PyData.depthAll], by simp [PyData.eqvAll]⟩
theorem GdL.cons {n : Nat} {d : D} {ds : List D} (h : Gd n d) (t : GdL n ds) : GdL n (d :: ds) := by
  obtain ⟨p, a, b, c, e⟩ := h
  obtain ⟨ps, a', b', c', e'⟩ := t
  exact ⟨p :: ps, by simp [toPyL, a, a'], by simp [PyData.canLayAll0, b, b'], by simp [PyData.depthAll]; omega, by simp [PyData.eqvAll, e, e']⟩
theorem GdL.all {n : Nat} : ∀ {ds : List D}, (∀ d ∈ ds, Gd n d) → GdL n ds
  | [], _ => .nil
  | d :: ds, h => .cons (h d (.head _)) (GdL.all fun x hx => h x (.tail _ hx))
theorem GdL.tup {n : Nat} {ds : List D} (h : GdL n ds) : Gd (n + 1) (.nd .tup ds) := by
  obtain ⟨ps, a, b, c, e⟩ := h
  exact ⟨.tuple ps, by simp [toPy, a], by simp [PyData.canLay0, b], by simp [PyData.depth]; omega, by simp [PyData.eqv, e]⟩
theorem GdL.lst {n : Nat} {ds : List D} (h : GdL n ds) : Gd (n + 1) (.nd .lst ds) := by
  obtain ⟨ps, a, b, c, e⟩ := h
  exact ⟨.list ps, by simp [toPy, a], by simp [PyData.canLay0, b], by simp [PyData.depth]; omega, by simp [PyData.eqv, e]⟩
theorem ne_same {d : D} (h : Gd 60 d) : eqP (!·) d d = some (.sc (.bl false)) := by
  obtain ⟨p, a, b, c, e⟩ := h
  simp [eqP, a, b, c, e]
theorem rngD_eq (m : Nat) : rngD 0 m = (List.range m).map fun i : Nat => D.sc (.int (i : Int)) := by
  unfold rngD
  refine List.map_congr_left fun i _ => ?_
  rw [Int.zero_add]
noncomputable def Lp (l : List D) : Prop := ∃ x y : Int, l = [iD x] ∨ l = [iD x, iD y]
theorem bodyI_ev {n : Nat} {mask : List Bool} {f : En → Option Fl} {ds : List D} {R : D → List D → Prop} (h : Ev f (envI n mask ds) fun fl => match fl with | .rt d ρ' => ∃ o, allOwn (ρ'.drop n) = some o ∧ R d o | _ => False) : ∃ d o, bodyI n mask f ds = some (d, o) ∧ R d o := by
  obtain ⟨fl, e, h⟩ := h
  cases fl with
  | rt d ρ' =>
    obtain ⟨o, ho, r⟩ := h
    exact ⟨d, o, bodyI_rt e ho, r⟩
  | nx _ => exact h.elim
  | bk _ => exact h.elim
  | ct _ => exact h.elim
noncomputable def fns : List Str := ["number", "many", "term", "of", "log", "done", "role", "voices", "sizes", "fixed"]
inductive RowD : D → Prop
  | a (s : Str) (k : Int) : PyData.strOk s = true → RowD (.nd .tup [.sc (.str s), .sc (.int k)])
  | b (s : Str) (k t : Int) : PyData.strOk s = true → RowD (.nd .tup [.sc (.str s), .sc (.int k), .sc (.int t)])
  | c (s : Str) (k : Int) (t : Str) : PyData.strOk s = true → PyData.strOk t = true → RowD (.nd .tup [.sc (.str s), .sc (.int k), .sc (.str t)])
noncomputable def Rws (L : List D) : Prop := ∀ d ∈ L, RowD d
theorem RowD.plain {d : D} (h : RowD d) : VL.plain d = true := by cases h <;> simp [VL.plain, VL.plainL]
theorem RowD.gd {d : D} (h : RowD d) : Gd 1 d := by
  cases h with
  | a s k h => exact GdL.tup (GdL.cons (Gd.str _ h) (GdL.cons (Gd.int _) GdL.nil))
  | b s k t h => exact GdL.tup (GdL.cons (Gd.str _ h) (GdL.cons (Gd.int _) (GdL.cons (Gd.int _) GdL.nil)))
  | c s k t h h2 => exact GdL.tup (GdL.cons (Gd.str _ h) (GdL.cons (Gd.int _) (GdL.cons (Gd.str _ h2) GdL.nil)))
theorem Rws.plain {L : List D} (h : Rws L) : VL.plainL L = true := plainL_of fun d hd => (h d hd).plain
theorem Rws.gd {L : List D} (h : Rws L) : GdL 1 L := GdL.all fun d hd => (h d hd).gd
theorem Rws.nil : Rws [] := fun _ h => nomatch h
theorem Rws.app {L M : List D} (h : Rws L) (g : Rws M) : Rws (L ++ M) := fun d hd => (List.mem_append.mp hd).elim (h d) (g d)
noncomputable def mD (C : Addr) (nu ma te o : Int) (L : List D) (dn : Int) (role : Str) (vo si : D) : D := .nd (.obj C fns) [iD nu, iD ma, iD te, iD o, .nd .lst L, iD dn, sD role, vo, si, tD true]
noncomputable def fD (nu ma te o : Int) (L : List D) (dn : Int) (role : Str) : D := .nd .tup [iD nu, iD ma, iD te, iD o, .nd .lst L, iD dn, sD role]
theorem m_plain {C : Addr} (nu ma te o : Int) (L : List D) (dn : Int) (role : Str) (vo si : D) : VL.plain (mD C nu ma te o L dn role vo si) = false := by simp [mD, VL.plain]
theorem obj_of {C : Addr} {m : Str} (h : (posF m fns).isNone = true) (nu ma te o : Int) (L : List D) (dn : Int) (role : Str) (vo si : D) : isObjOf C m (mD C nu ma te o L dn role vo si) = true := by
  show (decide (C = C) && (posF m fns).isNone) = true
  rw [decide_eq_true rfl, h]
  rfl
theorem fl_number {C : Addr} (nu ma te o : Int) (L : List D) (dn : Int) (role : Str) (vo si : D) : fldD "number" (mD C nu ma te o L dn role vo si) = some (iD nu) := by
  simp [mD, fns, fldD, fldI, posF, kidD]
theorem fl_of {C : Addr} (nu ma te o : Int) (L : List D) (dn : Int) (role : Str) (vo si : D) : fldD "of" (mD C nu ma te o L dn role vo si) = some (iD o) := by
  simp [mD, fns, fldD, fldI, posF, kidD, sne_of_number, sne_of_many, sne_of_term]
theorem fl_log {C : Addr} (nu ma te o : Int) (L : List D) (dn : Int) (role : Str) (vo si : D) : fldD "log" (mD C nu ma te o L dn role vo si) = some (.nd .lst L) := by
  simp [mD, fns, fldD, fldI, posF, kidD, sne_log_number, sne_log_many, sne_log_term, sne_log_of]
end VL
namespace VL
open PySem PySem.Spec PyProof.Rows L2
section
variable {K : W.Frag} {n : Nat} {H H' H1 H2 : Hp} {U U' : Addr → Prop} {σ hv : List (Option V)} {ρ ρ' : En} {τv vs : List V} {τd ds : List D} {v y : V} {d : D} {E : Ends} {N : Addr → Prop}
theorem ins_get {α : Type} (A B : List α) (x : α) (j : Nat) : (A ++ [x] ++ B)[j]? = if j < A.length then (A ++ B)[j]? else if j = A.length then some x else (A ++ B)[j - 1]? := by
  by_cases h1 : j < A.length
  · rw [if_pos h1, List.append_assoc, List.getElem?_append_left h1, List.getElem?_append_left h1]
  · rw [if_neg h1, List.append_assoc, List.getElem?_append_right (by omega)]
    by_cases h2 : j = A.length
    · rw [if_pos h2, h2]; simp
    · rw [if_neg h2, List.singleton_append, List.getElem?_append_right (by omega)]
      obtain ⟨k, hk⟩ : ∃ k, j - A.length = k + 1 := ⟨j - A.length - 1, by omega⟩
      rw [hk, List.getElem?_cons_succ, show j - 1 - A.length = k by omega]
noncomputable def insF (M r : Nat) (Fs : Nat → Addr → Prop) (j : Nat) (b : Addr) : Prop := if j < M then (j ≠ r ∧ Fs j b) else if j = M then Fs r b else Fs (j - 1) b
theorem insF_lt {M r j : Nat} {Fs : Nat → Addr → Prop} (h : j < M) (h2 : j ≠ r) : insF M r Fs j = Fs j := by
  funext b; unfold insF; rw [if_pos h]; exact propext ⟨fun z => z.2, fun z => ⟨h2, z⟩⟩
theorem insF_at {M r : Nat} {Fs : Nat → Addr → Prop} : insF M r Fs M = Fs r := by
  funext b; unfold insF; rw [if_neg (Nat.lt_irrefl _), if_pos rfl]
theorem insF_gt {M r j : Nat} {Fs : Nat → Addr → Prop} (h : ¬ j < M) (h2 : ¬ j = M) : insF M r Fs j = Fs (j - 1) := by
  funext b; unfold insF; rw [if_neg h, if_neg h2]
noncomputable def openO (r : Nat) (d : D) (ρ : En) : En := ((unroot r ρ).set r (some (.ali ρ.length []))) ++ [some (.own d)]
noncomputable def closeO (r m : Nat) (ρ : En) : En := match ρ[r]? with
  | some (some (.ali q [])) => if q = m then ((unroot m ρ).take m).set r ((rootD ρ m).map .own) else (unroot m ρ).take m
  | _ => (unroot m ρ).take m
theorem Sit.opn {r : Nat} (I : Sit K n H U σ hv ρ τv τd) (h : ρ[r]? = some (some (.own d))) (hr : r < n) :
    ∃ v, σ[r]? = some (some v) ∧ Sit K n H U σ (hv ++ [some v]) (openO r d ρ) τv τd := by
  have l := I.len
  have nn := I.nn
  obtain ⟨hl, mu, Fs, dj, sub, sl⟩ := I.ok
  have hM : (σ ++ hv).length = ρ.length := by rw [List.length_append]; exact l
  have hX : ((unroot r ρ).set r (some (.ali ρ.length []))).length = ρ.length := by rw [List.length_set, unroot_len]
  obtain ⟨v, ev, sv⟩ := sl r (.own d) (by rw [List.getElem?_append_left (by omega)]; exact h)
  have evb : (σ ++ hv)[r]? = some (some v) := by rw [List.getElem?_append_left (by omega)] at ev; exact ev
  have evs : σ[r]? = some (some v) := by rw [List.getElem?_append_left (by omega)] at evb; exact evb
  have eA : σ ++ (hv ++ [some v]) ++ τv.map some = (σ ++ hv) ++ [some v] ++ τv.map some := by simp
  refine ⟨v, evs, ?_, by unfold openO; rw [List.length_append, List.length_append, hX, List.length_singleton, List.length_singleton]; omega, nn⟩
  rw [eA]
  unfold openO
  have hL : (((unroot r ρ).set r (some (.ali ρ.length []))) ++ [some (B.own d)]).length = ρ.length + 1 := by rw [List.length_append, hX, List.length_singleton]
  rw [hL]
  have old : ∀ (q : Nat), q < ρ.length → ((σ ++ hv) ++ [some v] ++ τv.map some)[q]? = ((σ ++ hv) ++ τv.map some)[q]? := fun q hq => by
    rw [ins_get, if_pos (by omega)]
  have atM : ((σ ++ hv) ++ [some v] ++ τv.map some)[ρ.length]? = some (some v) := by
    rw [ins_get, if_neg (by omega), if_pos hM.symm]
  refine ⟨by simp only [List.length_append, List.length_singleton, hX] at hl ⊢; omega, mu, insF ρ.length r Fs, fun i j b hi hj => ?_, fun i b hb => ?_, fun j γ hγ => ?_⟩
  · have hi : if i < ρ.length then (i ≠ r ∧ Fs i b) else if i = ρ.length then Fs r b else Fs (i - 1) b := hi
    have hj : if j < ρ.length then (j ≠ r ∧ Fs j b) else if j = ρ.length then Fs r b else Fs (j - 1) b := hj
    split at hi
    · split at hj
      · exact dj _ _ b hi.2 hj.2
      · split at hj
        · exact absurd (dj _ _ b hi.2 hj) hi.1
        · have := dj _ _ b hi.2 hj; omega
    · split at hi
      · split at hj
        · exact absurd (dj _ _ b hj.2 hi) hj.1
        · split at hj
          · omega
          · have := dj _ _ b hi hj; omega
      · split at hj
        · have := dj _ _ b hi hj.2; omega
        · split at hj
          · have := dj _ _ b hi hj; omega
          · have := dj _ _ b hi hj; omega
  · have hb : if i < ρ.length then (i ≠ r ∧ Fs i b) else if i = ρ.length then Fs r b else Fs (i - 1) b := hb
    split at hb
    · exact sub _ b hb.2
    · split at hb
      · exact sub _ b hb
      · exact sub _ b hb
  · rw [ins_get, hX] at hγ
    by_cases c1 : j < ρ.length
    · rw [if_pos c1, List.getElem?_append_left (by omega)] at hγ
      by_cases c2 : j = r
      · subst c2
        rw [List.getElem?_set_self (by rw [unroot_len]; omega)] at hγ
        cases hγ
        exact ⟨v, by rw [old _ c1]; exact ev, by omega, v, atM, .nil v⟩
      · rw [List.getElem?_set_ne (fun z => c2 z.symm)] at hγ
        obtain ⟨q1, q2⟩ := unroot_get hγ
        obtain ⟨v2, ev2, sv2⟩ := sl j γ (by rw [List.getElem?_append_left (by omega)]; exact q1)
        refine ⟨v2, by rw [old _ c1]; exact ev2, ?_⟩
        cases γ with
        | own dd =>
          have sv2 : Rep K H (Fs j) v2 dd := sv2
          show Rep K H (insF ρ.length r Fs j) v2 dd
          rw [insF_lt c1 c2]; exact sv2
        | ro dd => exact sv2
        | ali q p =>
          obtain ⟨a, vr, b, c⟩ := sv2
          exact ⟨by omega, vr, by rw [old _ a]; exact b, c⟩
    · rw [if_neg c1] at hγ
      by_cases c2 : j = ρ.length
      · rw [if_pos c2] at hγ
        cases hγ
        subst c2
        refine ⟨v, atM, ?_⟩
        show Rep K H (insF ρ.length r Fs ρ.length) v d
        rw [insF_at]; exact sv
      · rw [if_neg c2, List.getElem?_append_right (by omega), hX] at hγ
        obtain ⟨v2, ev2, sv2⟩ := sl (j - 1) γ (by rw [List.getElem?_append_right (by omega)]; exact hγ)
        refine ⟨v2, by rw [ins_get, hM, if_neg c1, if_neg c2]; exact ev2, ?_⟩
        cases γ with
        | own dd =>
          have sv2 : Rep K H (Fs (j - 1)) v2 dd := sv2
          show Rep K H (insF ρ.length r Fs j) v2 dd
          rw [insF_gt c1 c2]; exact sv2
        | ro dd => exact sv2
        | ali q p =>
          obtain ⟨a, vr, b, c⟩ := sv2
          exact ⟨by omega, vr, by rw [old _ a]; exact b, c⟩
noncomputable def remF (M c : Nat) (Fs : Nat → Addr → Prop) (j : Nat) (b : Addr) : Prop := if j < M then (if j = c then Fs M b else Fs j b) else Fs (j + 1) b
theorem remF_lt {M c j : Nat} {Fs : Nat → Addr → Prop} (h : j < M) (h2 : j ≠ c) : remF M c Fs j = Fs j := by
  funext b; unfold remF; rw [if_pos h, if_neg h2]
theorem remF_at {M c : Nat} {Fs : Nat → Addr → Prop} (h : c < M) : remF M c Fs c = Fs M := by
  funext b; unfold remF; rw [if_pos h, if_pos rfl]
theorem remF_gt {M c j : Nat} {Fs : Nat → Addr → Prop} (h : ¬ j < M) : remF M c Fs j = Fs (j + 1) := by
  funext b; unfold remF; rw [if_neg h]
theorem Sit.cls0 {M c : Nat} {X : En} (I : Sit K n H U σ (hv ++ [some v]) ρ τv τd) (hlM : ρ.length = M + 1) (hXl : X.length = M)
    (hX : ∀ (j : Nat) (γ : B), X[j]? = some (some γ) → (j ≠ c ∧ ρ[j]? = some (some γ) ∧ ∀ q p, γ = .ali q p → q ≠ M) ∨ (j = c ∧ ∃ d, γ = .own d ∧ rootD ρ M = some d ∧ ρ[j]? = some (some (.ali M [])))) :
    Sit K n H U σ hv X τv τd := by
  have l := I.len
  have nn := I.nn
  obtain ⟨hl, mu, Fs, dj, sub, sl⟩ := I.ok
  rw [List.length_append, List.length_singleton] at l
  have hM : (σ ++ hv).length = M := by rw [List.length_append]; omega
  have eA : σ ++ (hv ++ [some v]) ++ τv.map some = (σ ++ hv) ++ [some v] ++ τv.map some := by simp
  rw [eA] at hl sl
  refine ⟨?_, by rw [hXl, ← hM, List.length_append], nn⟩
  rw [hXl]
  have old : ∀ (q : Nat), q < M → ((σ ++ hv) ++ [some v] ++ τv.map some)[q]? = ((σ ++ hv) ++ τv.map some)[q]? := fun q hq => by
    rw [ins_get, if_pos (by omega)]
  have atM : ((σ ++ hv) ++ [some v] ++ τv.map some)[M]? = some (some v) := by
    rw [ins_get, if_neg (by omega), if_pos hM.symm]
  have big : ∀ (q : Nat), ¬ q < M → ((σ ++ hv) ++ [some v] ++ τv.map some)[q + 1]? = ((σ ++ hv) ++ τv.map some)[q]? := fun q hq => by
    rw [ins_get, if_neg (by omega), if_neg (by omega), Nat.add_sub_cancel]
  refine ⟨by simp only [List.length_append, List.length_singleton] at hl hM ⊢; omega, mu, remF M c Fs, fun i j b hi hj => ?_, fun i b hb => ?_, fun j γ hγ => ?_⟩
  · have hi : if i < M then (if i = c then Fs M b else Fs i b) else Fs (i + 1) b := hi
    have hj : if j < M then (if j = c then Fs M b else Fs j b) else Fs (j + 1) b := hj
    split at hi <;> split at hj
    · split at hi <;> split at hj
      · omega
      · have := dj _ _ b hi hj; omega
      · have := dj _ _ b hi hj; omega
      · exact dj _ _ b hi hj
    · split at hi
      · have := dj _ _ b hi hj; omega
      · have := dj _ _ b hi hj; omega
    · split at hj
      · have := dj _ _ b hi hj; omega
      · have := dj _ _ b hi hj; omega
    · have := dj _ _ b hi hj; omega
  · have hb : if i < M then (if i = c then Fs M b else Fs i b) else Fs (i + 1) b := hb
    split at hb
    · split at hb <;> exact sub _ b hb
    · exact sub _ b hb
  · by_cases c1 : j < M
    · rw [List.getElem?_append_left (by omega)] at hγ
      rcases hX j γ hγ with ⟨n1, q1, q2⟩ | ⟨rfl, dd, rfl, hd, q1⟩
      · obtain ⟨v2, ev2, sv2⟩ := sl j γ (by rw [List.getElem?_append_left (by omega)]; exact q1)
        rw [old _ c1] at ev2
        refine ⟨v2, ev2, ?_⟩
        cases γ with
        | own dd =>
          show Rep K H (remF M c Fs j) v2 dd
          rw [remF_lt c1 n1]; exact sv2
        | ro dd => exact sv2
        | ali q p =>
          obtain ⟨a, vr, b, k⟩ := sv2
          have := q2 q p rfl
          have hq : q < M := by omega
          rw [old _ hq] at b
          exact ⟨hq, vr, b, k⟩
      · obtain ⟨v2, ev2, sv2⟩ := sl j _ (by rw [List.getElem?_append_left (by omega)]; exact q1)
        obtain ⟨_, vr, b, k⟩ := sv2
        rw [old _ c1] at ev2
        rw [atM] at b
        cases b
        cases k
        obtain ⟨v3, ev3, sv3⟩ := sl M (.own dd) (by rw [List.getElem?_append_left (by omega)]; exact rootD_of hd)
        rw [atM] at ev3
        cases ev3
        refine ⟨_, ev2, ?_⟩
        show Rep K H (remF M j Fs j) _ dd
        rw [remF_at c1]; exact sv3
    · rw [List.getElem?_append_right (by omega), hXl] at hγ
      obtain ⟨v2, ev2, sv2⟩ := sl (j + 1) γ (by rw [List.getElem?_append_right (by omega), hlM, show j + 1 - (M + 1) = j - M by omega]; exact hγ)
      rw [big _ c1] at ev2
      refine ⟨v2, ev2, ?_⟩
      rw [List.getElem?_map] at hγ
      obtain ⟨dd, _, e2⟩ := Option.map_eq_some_iff.mp hγ
      cases e2
      show Rep K H (remF M c Fs j) v2 dd
      rw [remF_gt c1]; exact sv2
theorem take_get {M j : Nat} {γ : B} (h : ((unroot M ρ).take M)[j]? = some (some γ)) : j < M ∧ ρ[j]? = some (some γ) ∧ ∀ q p, γ = .ali q p → q ≠ M := by
  have hj : j < M := by
    rcases Nat.lt_or_ge j M with z | z
    · exact z
    · rw [List.getElem?_take_eq_none (by omega)] at h; cases h
  rw [List.getElem?_take_of_lt hj] at h
  exact ⟨hj, unroot_get h⟩
theorem Sit.cls {r m : Nat} (I : Sit K n H U σ (hv ++ [some v]) ρ τv τd) (hm : ρ.length = m + 1) (hr : r < m) : Sit K n H U σ hv (closeO r m ρ) τv τd := by
  have e : ((unroot m ρ).take m).length = m := by rw [List.length_take, unroot_len]; omega
  have plain : Sit K n H U σ hv ((unroot m ρ).take m) τv τd := I.cls0 (c := m) hm e fun j γ h => by
    obtain ⟨a, b, c⟩ := take_get h
    exact .inl ⟨by omega, b, c⟩
  unfold closeO
  split
  · next q hq =>
    split
    · next c =>
      subst c
      refine I.cls0 (c := r) hm (by rw [List.length_set]; exact e) fun j γ h => ?_
      by_cases cj : r = j
      · subst cj
        rw [List.getElem?_set_self (by omega)] at h
        have h : (rootD ρ q).map B.own = some γ := Option.some.inj h
        obtain ⟨d, h1, h2⟩ := Option.map_eq_some_iff.mp h
        exact .inr ⟨rfl, d, h2.symm, h1, hq⟩
      · rw [List.getElem?_set_ne cj] at h
        obtain ⟨_, b, c⟩ := take_get h
        exact .inl ⟨fun z => cj z.symm, b, c⟩
    · exact plain
  · exact plain
theorem Sit.hid {m : Nat} {a : Addr} {cs : List D} (I : Sit K n H U σ hv ρ τv τd) (hm : n ≤ m) (ha : hv[m - n]? = some (some (.ref a))) (hd : rootD ρ m = some (.nd .lst cs)) :
    m < ρ.length ∧ (σ ++ hv)[m]? = some (some (.ref a)) ∧ ∃ vs, H a = some (.lst vs) ∧ vs.length = cs.length := by
  have nn := I.nn
  have hr := rootD_of hd
  have em : (σ ++ hv)[m]? = some (some (.ref a)) := by rw [List.getElem?_append_right (by omega), nn]; exact ha
  obtain ⟨v, F, ev, _, sv⟩ := I.slot hr
  rw [em] at ev
  cases ev
  have sv : Rep K H F (.ref a) (.nd .lst cs) := sv
  obtain ⟨a', vs, e, _, hc, hl, _⟩ := (Rep.vw sv).node
  cases e
  exact ⟨(List.getElem?_eq_some_iff.mp hr).1, em, vs, hc.2, hl⟩
noncomputable def forH (i m : Nat) (fb : En → Option Fl) : Nat → Nat → En → Option Fl
  | 0, j, ρ => match rootD ρ m with
    | some (.nd .lst cs) => if cs.length ≤ j then some (.nx ρ) else none
    | _ => none
  | k + 1, j, ρ => match rootD ρ m with
    | some (.nd .lst cs) => if j < cs.length then (fb (bindE i (.ali m [j]) ρ)).bind fun
      | .nx ρ2 => forH i m fb k (j + 1) ρ2
      | .ct ρ2 => forH i m fb k (j + 1) ρ2
      | .bk ρ2 => some (.nx ρ2)
      | .rt d ρ2 => some (.rt d ρ2) else none
    | _ => none
theorem for_core {i m k : Nat} {a : Addr} {tb : TS} {fb : En → Option Fl} {fl : Fl} [L : LtN i n] [B' : SS K n tb fb] (I : Sit K n H U σ hv ρ τv τd) (hm : n ≤ m) (ha : hv[m - n]? = some (some (.ref a)))
    (h : forH i m fb k 0 ρ = some fl) (hk : EndOk K n H U hv τv τd E fl) :
    ∃ W : Nat → Nat → L2.St → Hp → Prop, (∃ m, W 0 m σ H) ∧ ∀ i' m' σ H, W i' m' σ H →
      ((Itl K a).stop i' H ∧ E.nx σ H) ∨ ((Itl K a).go i' H ∧ ∃ N : L2.St → Hp → Prop, (∀ σ' H', N σ' H' → ∃ m2, m2 < m' ∧ W (i' + 1) m2 σ' H') ∧ ∀ x H', (Itl K a).yld i' H x H' → gName i x σ H' fun σ2 H2 => tb { E with nx := N, ct := N, bk := E.nx } σ2 H2) := by
  refine ⟨fun j m' σ' H' => m' = k - j ∧ j ≤ k ∧ ∃ U' ρ', Sit K n H' U' σ' hv ρ' τv τd ∧ Stp U H U' H' ∧ forH i m fb (k - j) j ρ' = some fl, ⟨k, by simp, Nat.zero_le _, U, ρ, I, .refl U H, h⟩, ?_⟩
  rintro j m' σ' H' ⟨rfl, hj, U', ρ', Ix, st, fo⟩
  have hi := L.h
  by_cases hlt : j < k
  · right
    obtain ⟨t, ht⟩ : ∃ t, k - j = t + 1 := ⟨k - j - 1, by omega⟩
    rw [ht, forH] at fo
    split at fo
    · next cs hd =>
      obtain ⟨hr, em, vs, hv', hl⟩ := Ix.hid hm ha hd
      split at fo
      · next hjc =>
        obtain ⟨fl1, b2, fo⟩ := Option.bind_eq_some_iff.mp fo
        refine ⟨⟨vs, vs[j]'(by omega), SqL.of hv', List.getElem?_eq_getElem (by omega)⟩, fun σ2 H2 => ∃ U2 ρ2, Sit K n H2 U2 σ2 hv ρ2 τv τd ∧ Stp U' H' U2 H2 ∧ forH i m fb t (j + 1) ρ2 = some fl, fun σ2 H2 ⟨U2, ρ2, a1, a2, a3⟩ => ⟨k - (j + 1), by omega, rfl, by omega, U2, ρ2, a1, st.trans a2, by rw [show k - (j + 1) = t by omega]; exact a3⟩, fun x H2 y2 => ?_⟩
        obtain ⟨e, w2⟩ := y2
        subst e
        have hx := w2 vs (SqL.of hv')
        show tb _ (σ'.set i (some x)) H2
        refine B'.s (Ix.named hi (β := .ali m [j]) ⟨hr, by omega, _, em, .cons hv' hx (.nil x)⟩) b2 ?_
        cases fl1 with
        | nx ρ2 => exact fun σ3 H3 U3 I3 s3 => ⟨U3, ρ2, I3, s3, fo⟩
        | ct ρ2 => exact fun σ3 H3 U3 I3 s3 => ⟨U3, ρ2, I3, s3, fo⟩
        | bk ρ2 => cases fo; exact fun σ3 H3 U3 I3 s3 => hk σ3 H3 U3 I3 (st.trans s3)
        | rt d ρ2 => cases fo; exact fun v σ3 H3 U3 I3 s3 => hk v σ3 H3 U3 I3 (st.trans s3)
      · cases fo
    · cases fo
  · left
    rw [show k - j = 0 by omega, forH] at fo
    split at fo
    · next cs hd =>
      obtain ⟨hr, em, vs, hv', hl⟩ := Ix.hid hm ha hd
      split at fo
      · next hjc =>
        cases fo
        exact ⟨⟨vs, SqL.of hv', by omega⟩, hk σ' H' U' Ix st⟩
      · cases fo
    · cases fo
noncomputable def closeFl (r m : Nat) : Fl → Fl
  | .nx ρ => .nx (closeO r m ρ)
  | .rt d ρ => .rt d (closeO r m ρ)
  | .bk ρ => .bk (closeO r m ρ)
  | .ct ρ => .ct (closeO r m ρ)
theorem EndOk.close {r m : Nat} {fl : Fl} (hm : n + hv.length = m) (hr : r < n) (k : EndOk K n H U hv τv τd E (closeFl r m fl)) : EndOk K n H U (hv ++ [some v]) τv τd E fl := by
  have key : ∀ {σ' H' U' ρ'} {τv' : List V} {τd' : List D}, Sit K n H' U' σ' (hv ++ [some v]) ρ' τv' τd' → Sit K n H' U' σ' hv (closeO r m ρ') τv' τd' := fun {σ' H' U' ρ'} {τv' τd'} I => I.cls (by
    have l := I.len
    have nn := I.nn
    rw [List.length_append, List.length_singleton] at l
    omega) (by omega)
  cases fl with
  | nx ρ => exact fun σ' H' U' I s => k σ' H' U' (key I) s
  | rt d ρ => exact fun v σ' H' U' I s => k v σ' H' U' (key I) s
  | bk ρ => exact fun σ' H' U' I s => k σ' H' U' (key I) s
  | ct ρ => exact fun σ' H' U' I s => k σ' H' U' (key I) s
noncomputable def forN (n r i : Nat) (fb : En → Option Fl) (ρ : En) : Option Fl := match ρ[r]? with
  | some (some (.own (.nd .lst cs))) => (forH i ρ.length fb cs.length 0 (openO r (.nd .lst cs) ρ)).map (closeFl r ρ.length)
  | some (some (.ali q [])) => if n ≤ q then match rootD ρ q with
    | some (.nd .lst cs) => forH i q fb cs.length 0 ρ
    | _ => none
    else none
  | _ => (itP (plVar r) ρ).bind fun ds => forL (fun d ρ => some (bindE i (.ro d) ρ)) fb ds ρ
instance (priority := 2000) ss_forN {r i : Nat} {tb : TS} {fb : En → Option Fl} [R : LtN r n] [L : LtN i n] [B' : SS K n tb fb] : SS K n (tFor (iAny K (tVar r)) (gName i) tb) (forN n r i fb) := ⟨fun {σ hv H U ρ τv τd fl E} I h k => by
  unfold forN at h
  split at h
  · next cs hs =>
    obtain ⟨fl1, h1, rfl⟩ := Option.map_eq_some_iff.mp h
    obtain ⟨v, ev, I2⟩ := I.opn hs R.h
    have l := I.len
    have nn := I.nn
    obtain ⟨v', F, ev', _, sv⟩ := I.slot hs
    rw [List.getElem?_append_left (by have := R.h; omega), ev] at ev'
    cases ev'
    have sv : Rep K H F v (.nd .lst cs) := sv
    obtain ⟨a, vs, e, _, hc, hl, _⟩ := (Rep.vw sv).node
    cases e
    refine ⟨_, ev, .inl ⟨a, rfl, ⟨vs, SqL.of hc.2⟩, ?_⟩⟩
    exact for_core I2 (m := ρ.length) (by omega) (by rw [List.getElem?_append_right (by omega), show ρ.length - n - hv.length = 0 by omega]; rfl) h1 (EndOk.close (by omega) R.h k)
  · next q hs =>
    split at h
    · next hq =>
      split at h
      · next cs hd =>
        have l := I.len
        have nn := I.nn
        have hq2 : q < ρ.length := (List.getElem?_eq_some_iff.mp (rootD_of hd)).1
        obtain ⟨v, F, ev, _, sv⟩ := I.slot hs
        obtain ⟨_, vr, er, hp⟩ := sv
        cases hp
        obtain ⟨v', F', ev', _, sv'⟩ := I.slot (rootD_of hd)
        rw [er] at ev'
        cases ev'
        have sv' : Rep K H F' v (.nd .lst cs) := sv'
        obtain ⟨a, vs, e, _, hc, hl, _⟩ := (Rep.vw sv').node
        cases e
        rw [List.getElem?_append_left (by have := R.h; omega)] at ev
        rw [List.getElem?_append_right (by omega), nn] at er
        exact ⟨_, ev, .inl ⟨a, rfl, ⟨vs, SqL.of hc.2⟩, for_core I hq er h k⟩⟩
      · cases h
    · cases h
  · exact (ss_for (A := sis_ro) (G := sg_name) (B' := B')).s I h k⟩
end
end VL
namespace VL
open PySem PySem.Spec PyProof.Rows L2
section
variable {K : W.Frag} {n : Nat} {H H' H1 H2 : Hp} {U U' : Addr → Prop} {σ hv : List (Option V)} {ρ ρ' : En} {τv vs : List V} {τd ds : List D} {v y : V} {d : D} {E : Ends} {N : Addr → Prop}
theorem VwL.snoc {us : List V} {es : List D} (h : VwL K H N us es) (w : Vw K H N v d) : VwL K H N (us ++ [v]) (es ++ [d]) := by
  refine ⟨by simp [h.1], fun i x y hx hy => ?_⟩
  by_cases c : i < us.length
  · rw [List.getElem?_append_left c] at hx
    rw [List.getElem?_append_left (by rw [← h.1]; exact c)] at hy
    exact h.2 i x y hx hy
  · have hi : i < (us ++ [v]).length := (List.getElem?_eq_some_iff.mp hx).1
    rw [List.length_append, List.length_singleton] at hi
    have e : i = us.length := by omega
    subst e
    rw [List.getElem?_append_right (Nat.le_refl _), Nat.sub_self] at hx
    rw [List.getElem?_append_right (by rw [h.1]; exact Nat.le_refl _), h.1, Nat.sub_self] at hy
    cases hx; cases hy
    exact w
noncomputable def capB (ρ : En) (j : Nat) : Option B := match ρ[j]? with
  | some (some (.ro d)) => some (.ro d)
  | _ => (dVar j ρ).bind fun d => if plain d = true then some (.ro d) else none
noncomputable def capR (n : Nat) (js : List (Option Nat)) (ρ : En) : En := js.map fun o => o.bind fun j => if j < n then capB ρ j else none
theorem capR_get {js : List (Option Nat)} {i : Nat} {β : B} (h : (capR n js ρ)[i]? = some (some β)) : ∃ j, js[i]? = some (some j) ∧ j < n ∧ capB ρ j = some β := by
  unfold capR at h
  rw [List.getElem?_map] at h
  cases e : js[i]? with
  | none => rw [e] at h; cases h
  | some o =>
    rw [e] at h
    have h : (o.bind fun j => if j < n then capB ρ j else none) = some β := Option.some.inj h
    cases o with
    | none => cases h
    | some j =>
      have h : (if j < n then capB ρ j else none) = some β := h
      by_cases c : j < n
      · rw [if_pos c] at h; exact ⟨j, rfl, c, h⟩
      · rw [if_neg c] at h; cases h
theorem capB_ro {j : Nat} {β : B} (h : capB ρ j = some β) : ∃ d, β = .ro d ∧ (ρ[j]? = some (some (.ro d)) ∨ (dVar j ρ = some d ∧ plain d = true)) := by
  unfold capB at h
  split at h
  · next d e => cases h; exact ⟨d, rfl, .inl e⟩
  · obtain ⟨d, h1, h2⟩ := Option.bind_eq_some_iff.mp h
    by_cases c : plain d = true
    · rw [if_pos c] at h2; cases h2; exact ⟨d, rfl, .inr ⟨h1, c⟩⟩
    · rw [if_neg c] at h2; cases h2
theorem capR_sit {js : List (Option Nat)} (I : Sit K n H U σ hv ρ τv τd) : Sit K js.length H U (capt js σ) [] (capR n js ρ) [] [] := by
  refine ⟨⟨by unfold capt capR; simp, I.ok.mu, fun _ _ => False, fun _ _ _ z => z.elim, fun _ _ z => z.elim, fun i β hβ => ?_⟩, by unfold capt capR; simp, by unfold capt; simp⟩
  rw [List.map_nil, List.append_nil] at hβ
  rw [List.map_nil, List.append_nil, List.append_nil]
  obtain ⟨j, e, c, hb⟩ := capR_get hβ
  obtain ⟨d, rfl, hd⟩ := capB_ro hb
  have key : ∃ v, σ[j]? = some (some v) ∧ Vw K H (fun b => ¬ U b) v d := by
    rcases hd with hd | ⟨hd, pl⟩
    · obtain ⟨v, F, ev, _, sv⟩ := I.slot hd
      rw [I.name c] at ev
      exact ⟨v, ev, sv⟩
    · have : LtN j n := ⟨c⟩
      have k : tVar j σ H fun v H' => Vw K H' T1 v d := (inferInstance : SV K n (tVar j) (dVar j)).s I hd fun v H' _ w => w
      obtain ⟨v, ev, w⟩ := k
      exact ⟨v, ev, (Own.plain w pl).out I.ok.mu⟩
  obtain ⟨v, ev, vw⟩ := key
  refine ⟨v, ?_, vw⟩
  unfold capt
  rw [List.getElem?_map, e]
  show some ((σ[j]?).join) = some (some v)
  rw [ev]; rfl
noncomputable def compP (fg : D → En → Option En) (ft : En → Option Bool) (fe : En → Option Pl) (ρ0 : En) : List D → Option (List D)
  | [] => some []
  | d :: ds => (fg d ρ0).bind fun ρ1 => (ft ρ1).bind fun b => if b = true then (fe ρ1).bind fun
    | .ro y => (compP fg ft fe ρ0 ds).map (y :: ·)
    | .rt _ _ => none else compP fg ft fe ρ0 ds
open Classical in
noncomputable def lcP (n : Nat) (js : List (Option Nat)) (is : List Nat) (fi : En → Option (List D)) (fg : D → En → Option En) (ft : En → Option Bool) (fe : En → Option Pl) (ρ : En) : Option Pl := (fi ρ).bind fun ds =>
  if ds.length ≤ sizeLine ∧ is.all (fun i => js[i]? == some none) = true ∧ plainL ds = true then (compP fg ft fe (capR n js ρ) ds).map fun es => .ro (.nd .lst es) else none
theorem lcP_sp {wi : TI} {g : TG} {tt : TT} {te : TE} {js : List (Option Nat)} {is : List Nat} {m : Nat} {fi : En → Option (List D)} {fg : D → En → Option En} {ft : En → Option Bool} {fe : En → Option Pl} (hm : LenC js m)
    (A : SI K n wi fi) (G : SG K m g fg is) (T : SVT K m tt ft) (Q' : SP K m te fe) : SP K n (tLC wi g tt te js) (lcP n js is fi fg ft fe) := ⟨fun {σ hv H U ρ τv τd q Q} I h k => by
  have hm := hm.h
  subst hm
  obtain ⟨ds, h1, h⟩ := Option.bind_eq_some_iff.mp h
  by_cases c : ds.length ≤ sizeLine ∧ is.all (fun i => js[i]? == some none) = true ∧ plainL ds = true
  · rw [if_pos c] at h
    obtain ⟨es, h2, h⟩ := Option.map_eq_some_iff.mp h
    subst h
    refine A.s I h1 fun J H1 s1 wk => ?_
    have I1 := capR_sit (js := js) (I.same s1)
    have slotN : ∀ i ∈ is, ∀ β, (capR n js ρ)[i]? ≠ some (some β) := fun i hi β z => by
      have := List.all_eq_true.mp c.2.1 i hi
      have e : js[i]? = some none := by simpa using this
      obtain ⟨j, e2, _⟩ := capR_get z
      rw [e] at e2; cases e2
    have noA : ∀ (j : Nat) (β : B), (capR n js ρ)[j]? = some (some β) → ∀ r p, β ≠ .ali r p := fun j β z r p e => by
      obtain ⟨_, _, _, hb⟩ := capR_get z
      obtain ⟨d, rfl, _⟩ := capB_ro hb
      cases e
    refine ⟨fun i m σ' ys H' => m = ds.length - i ∧ i ≤ ds.length ∧ Same H1 H' ∧ Sit K js.length H' U σ' [] (capR n js ρ) [] [] ∧ ys.length ≤ i ∧ ∃ ea eb, es = ea ++ eb ∧ VwL K H' (fun b => ¬ U b) ys ea ∧ compP fg ft fe (capR n js ρ) (ds.drop i) = some eb, ⟨ds.length, by simp, Nat.zero_le _, Same.refl _, I1, Nat.le_refl _, [], es, rfl, ⟨rfl, fun i v d a b => by cases a⟩, h2⟩, ?_⟩
    rintro i m σ' ys H' ⟨rfl, hi, sx, Ix, hy, ea, eb, rfl, ow, cd⟩
    by_cases hlt : i < ds.length
    · right
      have hd : ds[i]? = some ds[i] := List.getElem?_eq_getElem hlt
      obtain ⟨go, yl⟩ := (wk H' sx).2 i _ hd
      rw [List.drop_eq_getElem_cons hlt] at cd
      rw [compP] at cd
      obtain ⟨ρ1, b1, cd⟩ := Option.bind_eq_some_iff.mp cd
      obtain ⟨b, b2, cd⟩ := Option.bind_eq_some_iff.mp cd
      refine ⟨go, fun σ2 zs H2 => Same H1 H2 ∧ Sit K js.length H2 U σ2 [] (capR n js ρ) [] [] ∧ zs.length ≤ i + 1 ∧ ∃ fa fb, ea ++ eb = fa ++ fb ∧ VwL K H2 (fun b => ¬ U b) zs fa ∧ compP fg ft fe (capR n js ρ) (ds.drop (i + 1)) = some fb, fun σ2 zs H2 ⟨a1, a2, a3, a4⟩ => ⟨by omega, _, by omega, rfl, hlt, a1, a2, a3, a4⟩, fun x H2 y2 => ?_⟩
      obtain ⟨s2, w2⟩ := yl x H2 y2
      have Ix2 := Ix.same s2
      refine G.s Ix2 ((Own.plain (w2.mono fun _ _ => trivial) (plainL_get c.2.2 hd)).out Ix2.ok.mu) b1 fun σ2 I2 => ?_
      have back : ∀ {H3 : Hp}, Same H2 H3 → Sit K js.length H3 U σ2 [] (capR n js ρ) [] [] := fun {H3} s3 => by
        refine (I2.same s3).weaken (G.len b1).symm fun j β q => ?_
        by_cases hj : j ∈ is
        · exact absurd q (slotN j hj β)
        · exact G.keep b1 hj (noA j β q) q
      refine T.s I2 b2 fun H4 s4 => ?_
      cases b with
      | true =>
        rw [if_pos rfl] at cd ⊢
        obtain ⟨y, b3, cd⟩ := Option.bind_eq_some_iff.mp cd
        cases y with
        | rt _ _ => cases cd
        | ro y =>
          obtain ⟨fb, b4, cd⟩ := Option.map_eq_some_iff.mp cd
          subst cd
          refine Q'.s (I2.same s4) b3 fun v H5 s5 o => ⟨sx.trans (s2.trans (s4.trans s5)), back (s4.trans s5), by simp; omega, ea ++ [y], fb, by simp, ?_, b4⟩
          exact (ow.same (s2.trans (s4.trans s5))).snoc o
      | false =>
        rw [if_neg Bool.false_ne_true] at cd ⊢
        exact ⟨sx.trans (s2.trans s4), back s4, by omega, ea, eb, rfl, ow.same (s2.trans s4), cd⟩
    · left
      have e : i = ds.length := by omega
      subst e
      rw [List.drop_length, compP] at cd
      cases cd
      rw [List.append_nil] at k
      refine ⟨(wk H' sx).1, fun D hD => ?_⟩
      have s9 := same_new hD (.lst ys)
      have o9 := ow.same s9
      refine k _ _ ((s1.trans sx).trans s9) (show Vw K _ (fun b => ¬ U b) (.ref D) (.nd .lst ea) from .nd (fun _ u => ?_) ⟨trivial, upd_same⟩ o9.1 o9.2)
      have := Ix.ok.mu D u
      rw [hD] at this
      exact this
  · rw [if_neg c] at h; cases h⟩
theorem maxGoV_ok {G : List D → Option D} {a : Addr} {xs : List V} {Q : VK} {H0 : Hp} {d : D} (k : ∀ v H', Same H0 H' → Vw K H' N v d → Q v H') : ∀ (ds : List D) (vs : List V) (b : V) (bd : D) (p : Addr) (q : Int × Int) (H1 : Hp), Same H0 H1 → H1 a = some (.lst xs) → VwL K H1 N vs ds →
    Vw K H1 N b bd → SqT K H1 p [.int q.1, .int q.2] → maxGoD G ds bd q = some d → MaxGo K (spP K 1 G) a xs Q vs (some (b, .ref p)) H1
  | [], vs, b, bd, p, q, H1, s1, ha, w, wb, hp, h => by
    cases vs with
    | cons _ _ => cases w.1
    | nil => cases h; exact k _ _ s1 wb
  | d' :: ds, vs, b, bd, p, q, H1, s1, ha, w, wb, hp, h => by
    cases vs with
    | nil => cases w.1
    | cons v vs =>
      rw [maxGoD] at h
      obtain ⟨e, h1, h⟩ := Option.bind_eq_some_iff.mp h
      obtain ⟨kk, h2, h⟩ := Option.bind_eq_some_iff.mp h
      have wv : Vw K H1 N v d' := w.2 0 v d' rfl rfl
      have wr : VwL K H1 N vs ds := ⟨by have := w.1; simpa using this, fun i x y hx hy => w.2 (i + 1) x y (by simpa using hx) (by simpa using hy)⟩
      refine ⟨[d'], e, rfl, ⟨rfl, fun i x y hx hy => ?_⟩, h1, fun kv H2 s2 o => ⟨s2 _ _ ha, ?_⟩⟩
      · cases i with
        | zero => cases hx; cases hy; exact wv.any
        | succ i => simp at hx
      · obtain ⟨p2, rfl, hp2⟩ := pairI_at o.vw h2
        have s12 := s1.trans s2
        have ha2 := s2 _ _ ha
        have wr2 := wr.same s2
        have hq := (Stay.of s2).sqT hp
        refine ⟨_, ⟨p2, p, _, _, _, _, rfl, rfl, hp2, hq, rfl⟩, ?_⟩
        cases c : gt2 kk.1 kk.2 q.1 q.2 with
        | true =>
          rw [c, if_pos rfl] at h
          exact maxGoV_ok k ds vs v d' p2 kk H2 s12 ha2 wr2 (wv.same s2) hp2 h
        | false =>
          rw [c, if_neg Bool.false_ne_true] at h
          exact maxGoV_ok k ds vs b bd p q H2 s12 ha2 wr2 (wb.same s2) hq h
noncomputable def maxKP (G : List D → Option D) : Pl → Option Pl
  | .ro (.nd .lst (d :: ds)) => (G [d]).bind fun e => (pairI e).bind fun k => (maxGoD G ds d k).map .ro
  | _ => none
instance (priority := 2000) sp_maxLC {G' : List D → Option D} {wi : TI} {g : TG} {tt : TT} {te : TE} {js : List (Option Nat)} {is : List Nat} {m : Nat} {fi : En → Option (List D)} {fg : D → En → Option En} {ft : En → Option Bool} {fe : En → Option Pl} [hm : LenC js m]
    [A : SI K n wi fi] [G : SG K m g fg is] [T : SVT K m tt ft] [Q' : SP K m te fe] : SP K n (tMaxK K (spP K 1 G') (tCons (tLC wi g tt te js) tNil)) (fun ρ => (lcP n js is fi fg ft fe ρ).bind (maxKP G')) := ⟨fun {σ hv H U ρ τv τd q Q} I h k => by
  obtain ⟨x, h1, h2⟩ := Option.bind_eq_some_iff.mp h
  refine (lcP_sp hm A G T Q').s I h1 fun v H1 s1 w => ?_
  unfold maxKP at h2
  split at h2
  · next d' ds =>
    obtain ⟨e, h3, h2⟩ := Option.bind_eq_some_iff.mp h2
    obtain ⟨kk, h4, h2⟩ := Option.bind_eq_some_iff.mp h2
    obtain ⟨d9, h5, h2⟩ := Option.map_eq_some_iff.mp h2
    subst h2
    have w : Vw K H1 (fun b => ¬ U b) v (.nd .lst (d' :: ds)) := w
    obtain ⟨a, us, rfl, _, hc, hl, kid⟩ := w.node
    have vl : VwL K H1 (fun b => ¬ U b) us (d' :: ds) := ⟨hl, kid⟩
    have hc2 : H1 a = some (.lst us) := hc.2
    refine ⟨a, us, rfl, hc2, ?_⟩
    cases us with
    | nil => cases vl.1
    | cons v vs =>
      have wv : Vw K H1 (fun b => ¬ U b) v d' := vl.2 0 v d' rfl rfl
      have wr : VwL K H1 (fun b => ¬ U b) vs ds := ⟨by have := vl.1; simpa using this, fun i x y hx hy => vl.2 (i + 1) x y (by simpa using hx) (by simpa using hy)⟩
      refine ⟨[d'], e, rfl, ⟨rfl, fun i x y hx hy => ?_⟩, h3, fun kv H2 s2 o => ⟨s2 _ _ hc2, ?_⟩⟩
      · cases i with
        | zero => cases hx; cases hy; exact wv.any
        | succ i => simp at hx
      · obtain ⟨p2, rfl, hp2⟩ := pairI_at o.vw h4
        exact maxGoV_ok (N := fun b => ¬ U b) (d := d9) (fun v H' s9 w9 => k v H' (s1.trans s9) w9) ds vs v d' p2 kk H2 s2 (s2 _ _ hc2) (wr.same s2) (wv.same s2) hp2 h5
  · cases h2⟩
noncomputable def rGtP (K : W.Frag) : R2 := fun x y H Q => ∃ g, Gt2 K H x y g ∧ Q (.bl g) H
theorem op_gtP {X : Cx} (hu : X.A.units + 1 < cLine) : OpR X (compareOp .Gt) (rGtP X.K) := by
  intro pins s σ H x y v u Q I rx ry h
  obtain ⟨g, ⟨pp, qq, i1, j1, i2, j2, rfl, rfl, h1, h2, rfl⟩, q⟩ := h
  cases rx
  cases ry
  obtain ⟨its1, rv1, tp1, _⟩ := I.tuple h1
  obtain ⟨its2, rv2, tp2, _⟩ := I.tuple h2
  obtain ⟨w1, w2, rfl, ⟨t1, rfl⟩, ⟨t2, rfl⟩⟩ := L2.vals2 rv1
  obtain ⟨w3, w4, rfl, ⟨t3, rfl⟩, ⟨t4, rfl⟩⟩ := L2.vals2 rv2
  exact rc_gt2 tp1 tp2 (by omega) ⟨.bl _, H, I, rfl, q⟩
noncomputable def gtD (a b : D) : Option D := (pairI a).bind fun p => (pairI b).map fun q => .sc (.bl (gt2 p.1 p.2 q.1 q.2))
instance op_gtD : OpD K (rGtP K) gtD := ⟨fun {H x y dx dy d Q} w1 w2 h k => by
  obtain ⟨p, h1, h⟩ := Option.bind_eq_some_iff.mp h
  obtain ⟨q, h2, h⟩ := Option.map_eq_some_iff.mp h
  subst h
  obtain ⟨a, rfl, ha⟩ := pairI_at w1 h1
  obtain ⟨b, rfl, hb⟩ := pairI_at w2 h2
  exact ⟨_, ⟨a, b, _, _, _, _, rfl, rfl, ha, hb, rfl⟩, k _ H (Same.refl H) (.sc _)⟩⟩
end
end VL
namespace VL
open PySem PySem.Spec PyProof.Rows PySem.W L2
section
variable {K : W.Frag} {n : Nat} {H H' H1 H2 : Hp} {U U' : Addr → Prop} {σ hv : List (Option V)} {ρ ρ' : En} {τv vs : List V} {τd ds : List D} {v y : V} {d : D} {E : Ends} {N : Addr → Prop}
theorem erase_get {α : Type} {xs : List α} {k i : Nat} {x : α} (h : (xs.eraseIdx k)[i]? = some x) : xs[if i < k then i else i + 1]? = some x := by
  rw [List.getElem?_eraseIdx] at h
  split at h
  · next c => rw [if_pos c]; exact h
  · next c => rw [if_neg c]; exact h
noncomputable def popAtD (i : D) (cs : List D) : Option (D × List D) := match i with
  | .sc (.int z) => if -(2 ^ 63) ≤ z ∧ z < 2 ^ 63 then (seqIndex? z cs.length).bind fun k => (cs[k]?).bind fun d => if plain d = true then some (d, cs.eraseIdx k) else none else none
  | _ => none
theorem popAtD_of {i : D} {cs cs' : List D} (h : popAtD i cs = some (d, cs')) : ∃ z k, i = .sc (.int z) ∧ -(2 ^ 63) ≤ z ∧ z < 2 ^ 63 ∧ seqIndex? z cs.length = some k ∧ cs[k]? = some d ∧ plain d = true ∧ cs' = cs.eraseIdx k := by
  unfold popAtD at h
  split at h
  · next z =>
    by_cases c : -(2 ^ 63) ≤ z ∧ z < 2 ^ 63
    · rw [if_pos c] at h
      obtain ⟨k, h1, h⟩ := Option.bind_eq_some_iff.mp h
      obtain ⟨d1, h2, h⟩ := Option.bind_eq_some_iff.mp h
      by_cases p : plain d1 = true
      · rw [if_pos p] at h; cases h; exact ⟨z, k, rfl, c.1, c.2, h1, h2, p, rfl⟩
      · rw [if_neg p] at h; cases h
    · rw [if_neg c] at h; cases h
  · cases h
noncomputable def popAtM (fp : En → Option Pl) (fe : En → Option (D × En)) (ρ : En) : Option (D × En) := (fp ρ).bind fun
  | .rt r p => if p = [] then (match rootD ρ r with
    | some (.nd .lst _) => (fe ρ).bind fun a => (nodeAt a.2 r []).bind fun z => match z.2.1 with
      | .lst => (popAtD a.1 z.2.2).map fun w => (w.1, editE a.2 r z.1 [] (.nd .lst w.2))
      | _ => none
    | _ => none) else none
  | .ro _ => none
instance (priority := 500) sm_popAt {to te : TE} {fp : En → Option Pl} {fe : En → Option (D × En)} [P : SP K n to fp] [A : SM K n te fe] : SM K n (tBM K "list" rPopAt to (tCons te tNil)) (popAtM fp fe) := ⟨fun {σ hv H U ρ ρ' τv τd d Q} I h k => by
  obtain ⟨q, h1, h⟩ := Option.bind_eq_some_iff.mp h
  cases q with
  | ro _ => cases h
  | rt r p =>
    by_cases cp : p = []
    · subst cp
      have h : (match rootD ρ r with
        | some (.nd .lst _) => (fe ρ).bind fun a => (nodeAt a.2 r []).bind fun z => match z.2.1 with
          | .lst => (popAtD a.1 z.2.2).map fun w => (w.1, editE a.2 r z.1 [] (.nd .lst w.2))
          | _ => none
        | _ => none) = some (d, ρ') := h
      split at h
      · next cs0 e0 =>
        obtain ⟨⟨d1, ρ1⟩, h2, h⟩ := Option.bind_eq_some_iff.mp h
        obtain ⟨⟨d0, kk, cs⟩, g1, h⟩ := Option.bind_eq_some_iff.mp h
        obtain ⟨hr, hg⟩ := nodeAt_of g1
        split at h
        · next e =>
          have e : kk = .lst := e
          subst e
          obtain ⟨⟨d2, cs'⟩, h3, h⟩ := Option.map_eq_some_iff.mp h
          cases h
          obtain ⟨z, kx, ez, b1, b2, hk, hd, pl, rfl⟩ := popAtD_of (show popAtD d1 cs = some (d2, cs') from h3)
          subst ez
          refine P.s I h1 fun x H1 s1 w1 => ?_
          have I1 := I.same s1
          have stS : Stp U H U H1 := fun b o q nu => ⟨s1 b o q, nu⟩
          obtain ⟨a, vs, rfl, _, hc, _, _⟩ := (I1.at (q := .rt r []) (d := .nd .lst cs0) w1 (by show (rootD ρ r).bind _ = _; rw [e0]; rfl)).node
          refine ⟨tyV_list hc.2, A.s I1 h2 fun y H2 U2 I2 st2 => ?_⟩
          have ey : y = .int z := I2.last.scal
          subst ey
          have I2' := I2.drop1
          have w2 : PlOk K H2 U2 (σ ++ hv) ρ1 (.ref a) (.rt r []) := w1.root hr
          obtain ⟨a', dx, vs2, e3, ha, hf, hl, vl, ed⟩ := Sit.edit (τv := τv) (τd := τd) (xs := []) (ds := []) (by rw [List.append_nil, List.append_nil]; exact I2') rfl w2 hr hg rfl
          cases e3
          obtain ⟨yv, hy, wy⟩ := vl.get hd
          obtain ⟨U3, I3, st3⟩ := ed .lst (vs2.eraseIdx kx) (cs.eraseIdx kx) (fun j => if j < kx then j else j + 1) rfl trivial (by rw [List.length_eraseIdx, List.length_eraseIdx, hl]) (fun x z _ _ h => by split at h <;> split at h <;> omega) (fun j x h => by rw [List.append_nil]; exact erase_get h) (fun j x h => by rw [List.append_nil]; exact erase_get h)
          have wy3 : Vw K (upd H2 a (.lst (vs2.eraseIdx kx))) T1 yv d2 := ((wy.plain pl).frame (fun _ _ z => z.elim) (stay_upd (by rw [ha]; trivial))).vw
          obtain ⟨U4, I4, st4⟩ := I3.push (Same.refl _) (Own.plain wy3 pl)
          exact ⟨a, vs2, z, kx, yv, rfl, rfl, ha, b1, b2, by rw [hl]; exact hk, hy, k _ _ U4 I4 (stS.trans (st2.trans (st3.trans st4)))⟩
        · cases h
      · cases h
    · have h : (if p = [] then _ else none) = some (d, ρ') := h
      rw [if_neg cp] at h; cases h⟩
end
noncomputable def rngV (v : Addr) (j : Int) : HO := .ext fun h => ∃ t u w, IsRange h v 0 j 1 t u w
noncomputable def rRng : List V → Hp → VK → Prop := fun xs H Q => ∃ j : Int, xs = [.int j] ∧ ∀ v, H v = none → Q (.ref v) (upd H v (rngV v j))
noncomputable def intsV (m : Nat) : List V := (List.range m).map fun (i : Nat) => .int (0 + i)
noncomputable def rListR : List V → Hp → VK → Prop := fun xs H Q => ∃ v j, xs = [.ref v] ∧ H v = some (rngV v j) ∧ 0 ≤ j ∧ j ≤ 2 ^ 20 ∧ ∀ l, H l = none → Q (.ref l) (upd H l (.lst (intsV j.toNat)))
section
variable {X : Cx}
theorem call_rng1 : CallR X (.type "range") rRng := by
  intro pins s σ H xs us Q I r h
  obtain ⟨j, rfl, q⟩ := h
  obtain ⟨u, rfl, t, rfl⟩ := vals1 r
  have hat : (s.heap.push { cls := .type "range", data := .fields #[.int 0 s.toks, .int j t, .int 1 (s.toks + 1)] }).get? s.heap.objs.size = some { cls := .type "range", data := .fields #[.int 0 s.toks, .int j t, .int 1 (s.toks + 1)] } := Heap.get?_push_size _ rfl
  refine call_range_1 ⟨.ref s.heap.objs.size, _, I.laid (t' := s.toks + 1 + 1) (o := rngV s.heap.objs.size j) (fun _ _ q => Heap.get?_push_of_some _ q) (Nat.le_refl _) ⟨⟨_, _, _, hat⟩, ⟨_, hat⟩, fun h1 h2 f k => ?_⟩, rfl, q _ I.fresh⟩
  obtain ⟨t, u, w, e⟩ := f
  exact ⟨t, u, w, k _ e⟩
theorem call_listR (hc : X.calm = true) : CallR X (.type "list") rListR := by
  intro pins s σ H xs us Q I r h
  obtain ⟨v, j, rfl, ev, h1, h2, q⟩ := h
  obtain ⟨u, rfl, rx⟩ := vals1 r
  cases rx
  obtain ⟨t, u, w, hr⟩ : ∃ t u w, IsRange s.heap v 0 j 1 t u w := (I.hok v _ ev).1
  refine call_list_range (n := j.toNat) (I.ok.hd hc) hr (small_one (by omega) (by omega) (by omega) (by omega)) (by rw [rangeSize_one]; split <;> omega) (by omega) fun h' tk acc c kp hg hacc => ?_
  have hl : (intsV j.toNat).length = j.toNat := by unfold intsV; simp
  have hv : Vals (intsV j.toNat) acc.toList := vals_of (by rw [Array.length_toList, hacc.1, hl]) fun i x y e1 e2 => by
    obtain ⟨t, ht⟩ := hacc.2 i y (by rw [← Array.getElem?_toList]; exact e2)
    have hi : i < j.toNat := by rw [← hl]; exact (List.getElem?_eq_some_iff.mp e1).1
    unfold intsV at e1
    rw [List.getElem?_map, List.getElem?_range hi] at e1
    cases e1
    subst ht
    exact ⟨t, by simp⟩
  have hz : (sizeLine : Nat) = 2 ^ 24 := sizeLine_eq
  refine ⟨.ref s.heap.objs.size, _, I.laid (t' := tk) kp (Nat.le_refl _) (show ObjOk X.prog X.w _ h' _ (.lst (intsV j.toNat)) from ⟨by rw [hl]; omega, acc.toList, c, hv, ?_⟩), rfl, q _ I.fresh⟩
  rw [Array.toArray_toList]
  exact hg
end
section
variable {K : W.Frag} {n : Nat} {H H' : Hp}
noncomputable def rngL : List D → Option D
  | [.sc (.int j)] => if 0 ≤ j ∧ j ≤ 2 ^ 20 then some (.nd .lst (rngD 0 j.toNat)) else none
  | _ => none
instance (priority := 2000) sf_listR {t : TA} {f : En → Option (List D)} [A : SA K n t f] : SF K n (tCB rListR (tCons (tCB rRng t) tNil)) (fun ρ => (f ρ).bind rngL) := ⟨fun {σ hv H U ρ τv τd d Q} I h k => by
  obtain ⟨x, h1, h2⟩ := Option.bind_eq_some_iff.mp h
  refine A.s I h1 fun vs H1 s1 w => ?_
  unfold rngL at h2
  split at h2
  · next j =>
    by_cases c : 0 ≤ j ∧ j ≤ 2 ^ 20
    · rw [if_pos c] at h2
      cases h2
      obtain ⟨v, rfl, w1⟩ := w.one
      have ev : v = .int j := w1.scal
      subst ev
      refine ⟨j, rfl, fun vw hvw => ⟨vw, j, rfl, upd_same, c.1, c.2, fun l hl' => ?_⟩⟩
      have s2 := same_new hvw (rngV vw j)
      have vl : VwL K (upd H1 vw (rngV vw j)) T1 (intsV j.toNat) (rngD 0 j.toNat) := ⟨by unfold intsV rngD; simp, fun i x y e1 e2 => by
        unfold intsV at e1
        unfold rngD at e2
        rw [List.getElem?_map] at e1 e2
        cases q : (List.range j.toNat)[i]? with
        | none => rw [q] at e1; cases e1
        | some z => rw [q] at e1 e2; cases e1; cases e2; exact .sc _⟩
      have pl : plainL (rngD 0 j.toNat) = true := by
        unfold rngD
        induction (List.range j.toNat) with
        | nil => rfl
        | cons a r ih => rw [List.map_cons, plainL, ih]; rfl
      exact k _ _ (s1.trans (s2.trans (same_new hl' _))) ((vl.own (k := .lst) pl hl' (.inr ⟨rfl, trivial, 0, rfl⟩)).early (s1.trans s2))
    · rw [if_neg c] at h2; cases h2
  · cases h2⟩
noncomputable def ixVarM (i : Nat) (g : D → D → Option D) (fb : En → Option (D × En)) (ρ : En) : Option (D × En) := (dVar i ρ).bind fun _ => (fb ρ).bind fun a => (dVar i a.2).bind fun xs => (g xs a.1).map fun d => (d, a.2)
instance (priority := 4000) sm_ixVar {r : R2} {i : Nat} {args : TA} {mask : List Bool} {G : List D → Option (D × List D)} {E : XK} {fb : En → Option (D × En)} {g : D → D → Option Nat} {gs : V → D → Option V}
    [L : LtN i n] [B' : SM K n (tCall (spI K mask G) [] E args) fb] [O : IxD K r g gs] : SM K n (tOp r (tVar i) (tCall (spI K mask G) [] E args)) (ixVarM i (ixPl g gs) fb) := ⟨fun {σ hv H U ρ ρ' τv τd d Q} I h k => by
  obtain ⟨x0, h0, h⟩ := Option.bind_eq_some_iff.mp h
  obtain ⟨⟨j, ρ1⟩, h1, h⟩ := Option.bind_eq_some_iff.mp h
  obtain ⟨xs, h2, h⟩ := Option.bind_eq_some_iff.mp h
  obtain ⟨d1, h3, h⟩ := Option.map_eq_some_iff.mp h
  cases h
  have k0 : tVar i σ H fun v H' => Vw K H' T1 v x0 := (inferInstance : SV K n (tVar i) (dVar i)).s I h0 fun v H' _ w => w
  obtain ⟨v, ev, _⟩ := k0
  refine ⟨v, ev, B'.s I h1 fun y H2 U2 I2 st2 => ?_⟩
  have k1 : tVar i σ H2 fun v H' => Vw K H' T1 v xs := (inferInstance : SV K n (tVar i) (dVar i)).s I2 h2 fun v H' _ w => w
  obtain ⟨v', ev', w⟩ := k1
  rw [ev] at ev'
  cases ev'
  refine (ix_opd (K := K) (r := r) (g := g) (gs := gs)).s w I2.last h3 fun z H3 s3 o => ?_
  obtain ⟨U4, I4, st4⟩ := I2.drop1.push s3 o
  exact k z H3 U4 I4 (st2.trans st4)⟩
instance (priority := 4000) ss_retVar {i : Nat} [L : LtN i n] : SS K n (tRet (tVar i)) (retF (mvVar i)) := @ss_ret K n _ _ sm_var
end
end VL
namespace VL
open PySem PySem.Spec PyProof.Rows PySem.W L2
section
variable {K : W.Frag} {n : Nat} {H H' H1 H2 : Hp} {U U' : Addr → Prop} {σ hv : List (Option V)} {ρ ρ' : En} {τv vs : List V} {τd ds : List D} {v y : V} {d d1 : D} {E : Ends} {N : Addr → Prop}
theorem Sit.taken {r : Nat} {p : List Nat} (I : Sit K n H U σ hv ρ τv τd) (w : PlOk K H U (σ ++ hv) ρ v (.rt r p)) (hd : plD ρ (.rt r p) = some d1) : Sit K n H U σ hv (ρ.set r none) (τv ++ [v]) (τd ++ [d1]) := by
  have l := I.len
  have nn := I.nn
  have tl := I.tl
  obtain ⟨hrl, vr, d0, er, h, _, hp⟩ := w
  have hd : (rootD ρ r).bind (getP · p) = some d1 := hd
  rw [h] at hd
  have hd : getP d0 p = some d1 := hd
  refine ⟨?_, by rw [List.length_set]; exact l, nn⟩
  have hi2 : (ρ ++ τd.map fun d => some (B.own d))[r]? = some (some (.own d0)) := by rw [List.getElem?_append_left hrl]; exact rootD_of h
  have he2 : (σ ++ hv ++ τv.map some)[r]? = some (some vr) := by rw [List.getElem?_append_left (by simp; omega)]; exact er
  have k := I.ok.take (r := r) (p := p) (by simp; omega) hi2 he2 hp hd
  rw [List.length_set, List.map_append, List.map_append, ← List.append_assoc, ← List.append_assoc]
  refine k.weaken (by simp; omega) fun j β hβ => ?_
  rw [List.set_append_left _ _ hrl]
  by_cases hj : j < ρ.length
  · rw [List.append_assoc, List.getElem?_append_left (by simpa using hj)] at hβ ⊢
    by_cases c : r = j
    · subst c
      rw [List.getElem?_set_self hrl] at hβ
      cases hβ
    · rw [List.getElem?_set_ne c] at hβ ⊢
      exact hβ
  · rw [List.append_assoc, List.getElem?_append_right (by simp; omega)] at hβ ⊢
    rw [List.length_set] at hβ ⊢
    exact hβ
noncomputable def retPl (n : Nat) (fp : En → Option Pl) (ρ : En) : Option Fl := (fp ρ).bind fun q => (plD ρ q).bind fun d => if plain d = true then some (.rt d ρ) else match q with
  | .rt r _ => if r < n then some (.rt d (ρ.set r none)) else none
  | .ro _ => none
instance (priority := 3500) ss_retP {r : R2} {i : Nat} {c : V} {fp : En → Option Pl} [A : SP K n (tOp r (tVar i) (tC c)) fp] : SS K n (tRet (tOp r (tVar i) (tC c))) (retPl n fp) := ⟨fun {σ hv H U ρ τv τd fl E} I h k => by
  obtain ⟨q, h1, h⟩ := Option.bind_eq_some_iff.mp h
  obtain ⟨d, h2, h⟩ := Option.bind_eq_some_iff.mp h
  refine A.s I h1 fun v H1 s1 w1 => ?_
  have I1 := I.same s1
  have stS : Stp U H U H1 := fun b o q nu => ⟨s1 b o q, nu⟩
  by_cases p : plain d = true
  · rw [if_pos p] at h
    cases h
    obtain ⟨U', I', st⟩ := I1.push (Same.refl H1) (Own.plain (I1.at w1 h2) p)
    exact k v σ H1 U' I' (stS.trans st)
  · rw [if_neg p] at h
    cases q with
    | ro _ => cases h
    | rt r p' =>
      have h : (if r < n then some (Fl.rt d (ρ.set r none)) else none) = some fl := h
      by_cases c : r < n
      · rw [if_pos c] at h
        cases h
        exact k v σ H1 U (I1.taken w1 h2) stS
      · rw [if_neg c] at h; cases h⟩
instance (priority := 4000) sf_gtSl {ta te : TE} {tl th : TO} {fa fe : En → Option D} {fl fh : En → Option (Option Int)} [A' : SV K n ta fa] [A : SV K n te fe] [L : SO K n tl fl] [R : SO K n th fh] : SF K n (tOp (rGtP K) ta (tSl (rSlU K) te tl th)) (op2 gtD fa (slVF fe fl fh)) :=
  @sf_op K n _ _ _ _ _ _ A' sv_slT op_gtD
end
end VL
namespace VL
open PySem PySem.Spec PyProof.Rows L2
section
variable {K : W.Frag} {n : Nat} {C : Addr} {m : Str} {E : XK}
noncomputable def methV (G : List D → Option (D × List D)) (C : Addr) (m : Str) (i : Nat) (fr : En → Option (List Ar × En)) (ρ : En) : Option (D × En) := (plVar i ρ).bind fun q => (plD ρ q).bind fun d => if isObjOf C m d = true then (fr ρ).bind fun as => (match plVar i as.2 with
  | some (.rt r p) => callR G (.io ⟨r, p⟩ :: as.1) as.2
  | _ => none) else none
instance (priority := 550) sm_methV {i : Nat} {t : TA} {mask : List Bool} {G : List D → Option (D × List D)} {fr : En → Option (List Ar × En)} [L : LtN i n] [R : SC K n mask t fr] : SM K n (tMeth C m (spI K (true :: mask) G) [] E (tVar i) t) (methV G C m i fr) := ⟨fun {σ hv H U ρ ρ' τv τd d Q} I h k => by
  obtain ⟨q, h1, h⟩ := Option.bind_eq_some_iff.mp h
  obtain ⟨x, h2, h⟩ := Option.bind_eq_some_iff.mp h
  by_cases c : isObjOf C m x = true
  · rw [if_pos c] at h
    obtain ⟨⟨as, ρ2⟩, h3, h⟩ := Option.bind_eq_some_iff.mp h
    have k0 : tVar i σ H fun v H' => PlOk K H' U (σ ++ hv) ρ v q ∧ Vw K H' T1 v x := (inferInstance : SP K n (tVar i) (plVar i)).s I h1 fun v H' s w => ⟨w, (I.same s).at w h2⟩
    obtain ⟨v, ev, w1, w2⟩ := k0
    refine ⟨v, ev, ?_⟩
    obtain ⟨a, dx, fs, rfl, ha, hl⟩ := w2.objOf c
    refine ⟨a, dx, fs, rfl, ha, hl, R.s I h3 fun vs ws wd H2 U2 I2 hl2 st2 ao => ?_⟩
    rw [List.append_nil]
    dsimp only at h
    split at h
    · next r p e2 =>
      have k1 : tVar i σ H2 fun v H' => PlOk K H' U2 (σ ++ hv) ρ2 v (.rt r p) := (inferInstance : SP K n (tVar i) (plVar i)).s I2 e2 fun v H' s w => w
      obtain ⟨v', ev', w'⟩ := k1
      rw [ev] at ev'
      cases ev'
      exact I2.callI hl2 st2 (.io (i := ⟨r, p⟩) w' ao) h k
    · cases h
  · rw [if_neg c] at h; cases h⟩
end
end VL
namespace VL
open PySem L2
theorem forL_evJ {fg : D → En → Option En} {fb : En → Option Fl} {Q : Fl → Prop} {N : Nat} (P : Nat → En → Prop) (st : ∀ j : Nat, j < N → ∀ ρ, P j ρ → ∃ ρ1, fg (iD (j : Int)) ρ = some ρ1 ∧ Ev fb ρ1 fun fl => match fl with | .nx ρ2 => P (j + 1) ρ2 | .ct ρ2 => P (j + 1) ρ2 | .bk ρ2 => Q (.nx ρ2) | .rt d ρ2 => Q (.rt d ρ2))
    (hd : ∀ ρ, P N ρ → Q (.nx ρ)) : ∀ (k i : Nat) (ρ : En), i + k = N → P i ρ → ∃ fl, forL fg fb ((List.range' i k).map fun i : Nat => iD (i : Int)) ρ = some fl ∧ Q fl
  | 0, i, ρ, hN, p => ⟨_, rfl, hd ρ (by rw [← hN]; exact p)⟩
  | k + 1, i, ρ, hN, p => by
    obtain ⟨ρ1, e1, fl, e2, h⟩ := st i (by omega) ρ p
    rw [List.range'_succ, List.map_cons, forL, e1]
    show ∃ fl, (fb ρ1).bind _ = some fl ∧ Q fl
    rw [e2]
    cases fl with
    | nx ρ2 => exact forL_evJ P st hd k (i + 1) ρ2 (by omega) h
    | ct ρ2 => exact forL_evJ P st hd k (i + 1) ρ2 (by omega) h
    | bk ρ2 => exact ⟨_, rfl, h⟩
    | rt d ρ2 => exact ⟨_, rfl, h⟩
theorem rngD_r (m : Nat) : rngD 0 m = (List.range' 0 m).map fun i : Nat => iD (i : Int) := by rw [rngD_eq, List.range_eq_range']
theorem forH_step {i m k j : Nat} {fb : En → Option Fl} {ρ : En} {cs : List D} {fl : Fl} (e1 : rootD ρ m = some (.nd .lst cs)) (hj : j < cs.length) (h1 : fb (bindE i (.ali m [j]) ρ) = some fl) :
    VL.forH i m fb (k + 1) j ρ = (some fl).bind fun | .nx ρ2 => VL.forH i m fb k (j + 1) ρ2 | .ct ρ2 => VL.forH i m fb k (j + 1) ρ2 | .bk ρ2 => some (.nx ρ2) | .rt d ρ2 => some (.rt d ρ2) := by
  rw [VL.forH, e1]
  dsimp only
  rw [if_pos hj, h1]
  all_goals rfl
theorem Ev.forH {i m N : Nat} {fb : En → Option Fl} {Q : Fl → Prop} (P : Nat → En → Prop) (hr : ∀ j ρ, P j ρ → ∃ cs, rootD ρ m = some (.nd .lst cs) ∧ cs.length = N)
    (st : ∀ j, j < N → ∀ ρ, P j ρ → Ev fb (bindE i (.ali m [j]) ρ) fun fl => match fl with | .nx ρ2 => P (j + 1) ρ2 | .ct ρ2 => P (j + 1) ρ2 | .bk ρ2 => Q (.nx ρ2) | .rt d ρ2 => Q (.rt d ρ2)) (hd : ∀ ρ, P N ρ → Q (.nx ρ)) :
    ∀ (k j : Nat) (ρ : En), k + j = N → P j ρ → Ev (VL.forH i m fb k j) ρ Q
  | 0, j, ρ, e, p => by
    have e : j = N := by omega
    subst e
    obtain ⟨cs, e1, e2⟩ := hr j ρ p
    refine ⟨.nx ρ, ?_, hd ρ p⟩
    unfold VL.forH
    rw [e1]
    exact if_pos (by omega)
  | k + 1, j, ρ, e, p => by
    obtain ⟨cs, e1, e2⟩ := hr j ρ p
    obtain ⟨fl, h1, h2⟩ := st j (by omega) ρ p
    have un := forH_step (k := k) e1 (by omega) h1
    unfold Ev
    rw [un]
    cases fl with
    | nx ρ2 => exact Ev.forH P hr st hd k (j + 1) ρ2 (by omega) h2
    | ct ρ2 => exact Ev.forH P hr st hd k (j + 1) ρ2 (by omega) h2
    | bk ρ2 => exact ⟨_, rfl, h2⟩
    | rt d ρ2 => exact ⟨_, rfl, h2⟩
theorem Ev.forN {n r i : Nat} {fb : En → Option Fl} {ρ : En} {cs : List D} {Q : Fl → Prop} (e : ρ[r]? = some (some (.own (.nd .lst cs)))) (h : Ev (VL.forH i ρ.length fb cs.length 0) (openO r (.nd .lst cs) ρ) fun fl => Q (closeFl r ρ.length fl)) : Ev (VL.forN n r i fb) ρ Q := by
  obtain ⟨fl, h1, h2⟩ := h
  refine ⟨closeFl r ρ.length fl, ?_, h2⟩
  unfold VL.forN
  rw [e]
  dsimp only
  rw [h1]
  rfl
theorem asgM_ok {i : Nat} {f : En → Option (D × En)} {ρ ρ1 ρ2 : En} {d : D} (h : f ρ = some (d, ρ1)) (e : bindE i (.own d) ρ1 = ρ2) : asgM i f ρ = some (.nx ρ2) := by
  unfold asgM
  rw [h, ← e]
  rfl
theorem pB_ali {ρ : En} {r : Nat} {p : List Nat} : pruneB ρ (some (.ali r p)) = if p = [] ∨ ((rootD ρ r).bind (getP · p)).isSome = true then some (.ali r p) else none := rfl
theorem ifF_of {fc : En → Option (Bool × En)} {a b : En → Option Fl} {ρ ρ1 : En} {c : Bool} {r : Option Fl} (h : fc ρ = some (c, ρ1)) (hr : (if c = true then a ρ1 else b ρ1) = r) : ifF fc a b ρ = r := by
  unfold ifF
  rw [h]
  exact hr
theorem op2M_of {g : D → D → Option D} {fa fb : En → Option (D × En)} {ρ ρ1 ρ2 : En} {a b d : D} (h1 : fa ρ = some (a, ρ1)) (h2 : fb ρ1 = some (b, ρ2)) (h3 : g a b = some d) : op2M g fa fb ρ = some (d, ρ2) := by
  unfold op2M
  rw [h1]
  show (fb ρ1).bind _ = _
  rw [h2]
  show (g a b).map _ = _
  rw [h3]
  rfl
theorem tst_of {f : En → Option (D × En)} {ρ ρ1 : En} {b : Bool} (h : f ρ = some (.sc (.bl b), ρ1)) : tstM f ρ = some (b, ρ1) := by
  unfold tstM
  rw [h]
  rfl
theorem ixVar_of {i : Nat} {g : D → D → Option D} {fb : En → Option (D × En)} {ρ ρ1 : En} {x0 xs d e : D} (h0 : dVar i ρ = some x0) (h1 : fb ρ = some (e, ρ1)) (h2 : dVar i ρ1 = some xs) (h3 : g xs e = some d) : ixVarM i g fb ρ = some (d, ρ1) := by
  unfold ixVarM
  rw [h0]
  show (fb ρ).bind _ = _
  rw [h1]
  show (dVar i ρ1).bind _ = _
  rw [h2]
  show (g xs e).map _ = _
  rw [h3]
  rfl
theorem Ev.forM1J {fa : En → Option (List D × En)} {fg : D → En → Option En} {fb : En → Option Fl} {ρ ρ0 : En} {as : List D} {m : Nat} {Q : Fl → Prop} (h1 : fa ρ = some (as, ρ0)) (h2 : rng1 as = some (rngD 0 m)) (P : Nat → En → Prop) (h0 : P 0 ρ0)
    (st : ∀ j : Nat, j < m → ∀ ρ, P j ρ → ∃ ρ1, fg (iD (j : Int)) ρ = some ρ1 ∧ Ev fb ρ1 fun fl => match fl with | .nx ρ2 => P (j + 1) ρ2 | .ct ρ2 => P (j + 1) ρ2 | .bk ρ2 => Q (.nx ρ2) | .rt d ρ2 => Q (.rt d ρ2)) (hd : ∀ ρ, P m ρ → Q (.nx ρ)) :
    Ev (VL.forM1 fa fg fb) ρ Q := by
  unfold Ev VL.forM1
  rw [h1]
  show ∃ fl, (rng1 as).bind _ = some fl ∧ Q fl
  rw [h2]
  show ∃ fl, forL fg fb (rngD 0 m) ρ0 = some fl ∧ Q fl
  rw [rngD_r]
  exact forL_evJ P st hd m 0 ρ0 (by omega) h0
end VL
set_option synthInstance.maxHeartbeats 1000000
set_option synthInstance.maxSize 4000
namespace K30
open PySem L2 VL
noncomputable def top (i : Nat) : Stmt := PySem.Challenge.pw_farshelf_k30_the_next_log.main.body.getD i (.Pass ⟨0, 0, 0, 0⟩)
noncomputable abbrev s_Lcell_at : Stmt := top 21
noncomputable abbrev s_Lmix : Stmt := top 22
noncomputable abbrev s_Lrich : Stmt := top 23
noncomputable abbrev s_Lleft : Stmt := top 24
noncomputable abbrev s_Master_init : Stmt := inClass (top 5) 0
noncomputable abbrev s_Lpick : Stmt := top 25
noncomputable abbrev s_own_copy : Stmt := top 2
noncomputable abbrev s_is_fixed : Stmt := top 3
noncomputable abbrev s_take_behind : Stmt := top 8
noncomputable abbrev s_take_rows : Stmt := top 9
noncomputable abbrev s_hear_keep : Stmt := top 16
noncomputable abbrev s_Master_hear : Stmt := inClass (top 5) 5
noncomputable abbrev s_Lrows : Stmt := top 27
noncomputable abbrev s_Lmade : Stmt := top 28
noncomputable abbrev s_Lfields : Stmt := top 26
noncomputable abbrev s_Lsome : Stmt := top 29
noncomputable abbrev s_Ldue : Stmt := top 30
noncomputable abbrev s_rank_of_log : Stmt := top 18
noncomputable abbrev s_next_log : Stmt := top 19
noncomputable abbrev s_law : Stmt := top 31
structure Txt (mg : Str → Option Value) : Prop where
  b_len : mg "len" = none
  b_range : mg "range" = none
  b_list : mg "list" = none
  b_tuple : mg "tuple" = none
  b_int : mg "int" = none
  b_max : mg "max" = none
  b_min : mg "min" = none
  b_all : mg "all" = none
  b_any : mg "any" = none
  b_isinstance : mg "isinstance" = none
  b_str : mg "str" = none
  b_bool : mg "bool" = none
  b_dict : mg "dict" = none
  b_sorted : mg "sorted" = none
section
variable {P : Program} {w : World} {K : W.Frag} {mg : Str → Option Value} {base : Heap} {Cm : Addr} [ClsI K Cm]
noncomputable abbrev t_Lcell_at (K : W.Frag) (Cm : Addr) [ClsI K Cm] : TS := (tSeq (tIfS (tTest (tOp (rI0 fun i j => .bl (decide (i < j))) (tVar 1) (tCB (rLenU K) (tCons (tVar 0) tNil))))
      (tRet (tOp (rIxU K) (tVar 0) (tVar 1))) tNext)
    (tRet (tC (.int 0))))
noncomputable def b_Lcell_at (K : W.Frag) (Cm : Addr) [ClsI K Cm] : {f : En → Option Fl // SS K 2 (t_Lcell_at K Cm) f} := ⟨_, inferInstance⟩
noncomputable def f_Lcell_at (K : W.Frag) (Cm : Addr) [ClsI K Cm] : En → Option Fl := (b_Lcell_at K Cm).1
theorem sc_Lcell_at : FnScope ["_law_script", "_law_k"] ["_law_script", "_law_k"] (defScope s_Lcell_at) := ⟨rfl, rfl, rfl, by decide +kernel, rfl, by decide +kernel, by decide +kernel⟩
noncomputable def G_Lcell_at (K : W.Frag) (Cm : Addr) [ClsI K Cm] : List D → Option D := bodyP 2 (f_Lcell_at K Cm)
theorem ok_Lcell_at {f : Addr} {fd : FuncData} (F : Fun K "_law_cell_at" "_law_cell_at" s_Lcell_at f fd) (T : Txt mg) : FnOk P w K mg base CX0 1 f fd ["_law_script", "_law_k"] (spP K 2 (G_Lcell_at K Cm)) := by
  refine F.ok sc_Lcell_at (fun vs H Q E h => spP_len h) (fun cdv A outer s H vs Q E hr h => ?_)
  exact ⟨t_Lcell_at K Cm, (pss_cons (ps_if (pt_cmpR op_lt (pv 1) (pe_callB (r := (rLenU K)) call_lenU rfl T.b_len PySem.boot_len (pa_cons (pv 0) pa_nil)) (nomark _))
      (pss_one (ps_ret (pe_ix (r := rIxU K) (ix_any (hu_of hr)) (pv 0) (pv 1) (fun _ _ => rfl)))) pss_nil)
    (pss_one (ps_ret pe_int))), pure_fn (S := (b_Lcell_at K Cm).2) h (by decide)⟩
noncomputable abbrev t_Lmix (K : W.Frag) (Cm : Addr) [ClsI K Cm] : TS := (tSeq (tAsg (tOp (rI (fun _ j => 0 < j) fun i j => .int (i % j)) (tOp (rI CMul fun i j => .int (i * j)) (tOp (rAddU K) (tOp (rAddU K) (tOp (rI (fun _ j => 0 < j) fun i j => .int (i % j)) (tVar 0) (tC (.int 2147483629))) (tOp (rI CMul fun i j => .int (i * j)) (tOp (rI CMul fun i j => .int (i * j)) (tVar 1) (tVar 1)) (tC (.int 7919)))) (tC (.int 11))) (tC (.int 48271))) (tC (.int 2147483647))) (gName 2))
    (tRet (tOp (rI (fun _ j => 0 < j) fun i j => .int (i % j)) (tOp (rI CMul fun i j => .int (i * j)) (tVar 2) (tVar 2)) (tC (.int 1999999973)))))
noncomputable def b_Lmix (K : W.Frag) (Cm : Addr) [ClsI K Cm] : {f : En → Option Fl // SS K 3 (t_Lmix K Cm) f} := ⟨_, inferInstance⟩
noncomputable def f_Lmix (K : W.Frag) (Cm : Addr) [ClsI K Cm] : En → Option Fl := (b_Lmix K Cm).1
theorem sc_Lmix : FnScope ["_law_cell", "_law_k", "_law_m"] ["_law_cell", "_law_k"] (defScope s_Lmix) := ⟨rfl, rfl, rfl, by decide +kernel, rfl, by decide +kernel, by decide +kernel⟩
noncomputable def G_Lmix (K : W.Frag) (Cm : Addr) [ClsI K Cm] : List D → Option D := bodyP 3 (f_Lmix K Cm)
theorem ok_Lmix {f : Addr} {fd : FuncData} (F : Fun K "_law_mix" "_law_mix" s_Lmix f fd) (T : Txt mg) : FnOk P w K mg base CX0 1 f fd ["_law_cell", "_law_k"] (spP K 2 (G_Lmix K Cm)) := by
  refine F.ok sc_Lmix (fun vs H Q E h => spP_len h) (fun cdv A outer s H vs Q E hr h => ?_)
  exact ⟨t_Lmix K Cm, (pss_cons (ps_set (i := 2) sc_Lmix.nd rfl (Or.inl rfl) (pe_op op_mod (pe_op op_mul (pe_op op_addU (pe_op op_addU (pe_op op_mod (pv 0) pe_int) (pe_op op_mul (pe_op op_mul (pv 1) (pv 1)) pe_int)) pe_int) pe_int) pe_int))
    (pss_one (ps_ret (pe_op op_mod (pe_op op_mul (pv 2) (pv 2)) pe_int)))), pure_fn (S := (b_Lmix K Cm).2) h (by decide)⟩
noncomputable abbrev t_Lrich (K : W.Frag) (Cm : Addr) [ClsI K Cm] : TS := (tSeq (tAsg (tC (.int 0)) (gName 2))
    (tSeq (tFor (iRng1 (tCons (tC (.int 12)) tNil)) (gName 3)
      (tAsg (tOp (rAddU K) (tOp (rI CMul fun i j => .int (i * j)) (tVar 2) (tC (.int 1999999973))) (tCall (spP K 2 (G_Lmix K Cm)) [] E0 (tCons (tCall (spP K 2 (G_Lmix K Cm)) [] E0 (tCons (tVar 0) (tCons (tOp (rAddU K) (tVar 1) (tOp (rI CMul fun i j => .int (i * j)) (tC (.int 20)) (tVar 3))) tNil))) (tCons (tVar 3) tNil)))) (gName 2)))
    (tRet (tVar 2))))
noncomputable def b_Lrich (K : W.Frag) (Cm : Addr) [ClsI K Cm] : {f : En → Option Fl // SS K 4 (t_Lrich K Cm) f} := ⟨_, inferInstance⟩
noncomputable def f_Lrich (K : W.Frag) (Cm : Addr) [ClsI K Cm] : En → Option Fl := (b_Lrich K Cm).1
theorem sc_Lrich : FnScope ["_law_cell", "_law_k", "_law_number", "_law_j"] ["_law_cell", "_law_k"] (defScope s_Lrich) := ⟨rfl, rfl, rfl, by decide +kernel, rfl, by decide +kernel, by decide +kernel⟩
noncomputable def G_Lrich (K : W.Frag) (Cm : Addr) [ClsI K Cm] : List D → Option D := bodyP 4 (f_Lrich K Cm)
theorem ok_Lrich {f : Addr} {fd : FuncData} (F : Fun K "_law_rich" "_law_rich" s_Lrich f fd) (T : Txt mg) (C_Lmix : Cal P w K mg base "_law_mix" ["_law_cell", "_law_k"] 1 (spP K 2 (G_Lmix K Cm))) : FnOk P w K mg base CX0 2 f fd ["_law_cell", "_law_k"] (spP K 2 (G_Lrich K Cm)) := by
  refine F.ok sc_Lrich (fun vs H Q E h => spP_len h) (fun cdv A outer s H vs Q E hr h => ?_)
  exact ⟨t_Lrich K Cm, (pss_cons (ps_set (i := 2) sc_Lrich.nd rfl (Or.inl rfl) pe_int)
    (pss_cons (ps_for PassesOwn.never rfl (pi_range1 rfl T.b_range (pa_cons pe_int pa_nil)) (pg_name (i := 3) sc_Lrich.nd rfl (Or.inl rfl))
      (pss_one (ps_set (i := 2) sc_Lrich.nd rfl (Or.inl rfl) (pe_op op_addU (pe_op op_mul (pv 2) pe_int) (pe_cal C_Lmix hr rfl (pa_cons (pe_cal C_Lmix hr rfl (pa_cons (pv 0) (pa_cons (pe_op op_addU (pv 1) (pe_op op_mul pe_int (pv 3))) pa_nil))) (pa_cons (pv 3) pa_nil)))))))
    (pss_one (ps_ret (pv 2))))), pure_fn (S := (b_Lrich K Cm).2) h (by decide)⟩
noncomputable abbrev t_Lleft (K : W.Frag) (Cm : Addr) [ClsI K Cm] : TS := (tSeq (tAsg (tCall (spP K 2 (G_Lcell_at K Cm)) [] E0 (tCons (tVar 0) (tCons (tVar 1) tNil))) (gName 2))
    (tSeq (tIfS (tTest (tOp (rI0 fun i j => .bl (decide (j ≤ i))) (tVar 2) (tOp (rI CPow fun i j => .int (i ^ j.toNat)) (tC (.int 10)) (tC (.int 18)))))
      (tRet (tLst (tCons (tVar 2) (tCons (tCall (spP K 2 (G_Lrich K Cm)) [] E0 (tCons (tVar 2) (tCons (tVar 1) tNil))) tNil)))) tNext)
    (tRet (tLst (tCons (tCall (spP K 2 (G_Lrich K Cm)) [] E0 (tCons (tVar 2) (tCons (tVar 1) tNil))) tNil)))))
noncomputable def b_Lleft (K : W.Frag) (Cm : Addr) [ClsI K Cm] : {f : En → Option Fl // SS K 3 (t_Lleft K Cm) f} := ⟨_, inferInstance⟩
noncomputable def f_Lleft (K : W.Frag) (Cm : Addr) [ClsI K Cm] : En → Option Fl := (b_Lleft K Cm).1
theorem sc_Lleft : FnScope ["_law_script", "_law_k", "_law_cell"] ["_law_script", "_law_k"] (defScope s_Lleft) := ⟨rfl, rfl, rfl, by decide +kernel, rfl, by decide +kernel, by decide +kernel⟩
noncomputable def G_Lleft (K : W.Frag) (Cm : Addr) [ClsI K Cm] : List D → Option D := bodyP 3 (f_Lleft K Cm)
theorem ok_Lleft {f : Addr} {fd : FuncData} (F : Fun K "_law_left" "_law_left" s_Lleft f fd) (T : Txt mg) (C_Lcell_at : Cal P w K mg base "_law_cell_at" ["_law_script", "_law_k"] 1 (spP K 2 (G_Lcell_at K Cm))) (C_Lrich : Cal P w K mg base "_law_rich" ["_law_cell", "_law_k"] 2 (spP K 2 (G_Lrich K Cm))) : FnOk P w K mg base CX0 3 f fd ["_law_script", "_law_k"] (spP K 2 (G_Lleft K Cm)) := by
  refine F.ok sc_Lleft (fun vs H Q E h => spP_len h) (fun cdv A outer s H vs Q E hr h => ?_)
  exact ⟨t_Lleft K Cm, (pss_cons (ps_set (i := 2) sc_Lleft.nd rfl (Or.inl rfl) (pe_cal C_Lcell_at hr rfl (pa_cons (pv 0) (pa_cons (pv 1) pa_nil))))
    (pss_cons (ps_if (pt_cmpR op_ge (pv 2) (pe_op op_pow pe_int pe_int) (nomark _))
      (pss_one (ps_ret (pe_lst (pa_cons (pv 2) (pa_cons (pe_cal C_Lrich hr rfl (pa_cons (pv 2) (pa_cons (pv 1) pa_nil))) pa_nil))))) pss_nil)
    (pss_one (ps_ret (pe_lst (pa_cons (pe_cal C_Lrich hr rfl (pa_cons (pv 2) (pa_cons (pv 1) pa_nil))) pa_nil)))))), pure_fn (S := (b_Lleft K Cm).2) h (by decide)⟩
noncomputable abbrev t_Master_init (K : W.Frag) (Cm : Addr) [ClsI K Cm] : TS := (tSeq (sFld K (tVar 0) (tVar 1) "number")
    (tSeq (sFld K (tVar 0) (tVar 2) "many")
    (tSeq (sFld K (tVar 0) (tC (.int 0)) "term")
    (tSeq (sFld K (tVar 0) (tC (.int 0)) "of")
    (tSeq (sFld K (tVar 0) (tLst tNil) "log")
    (tSeq (sFld K (tVar 0) (tC (.int 0)) "done")
    (tSeq (sFld K (tVar 0) (tC (.str "hears")) "role")
    (tSeq (sFld K (tVar 0) tDNewK "voices")
    (tSeq (sFld K (tVar 0) tDNewK "sizes")
    (sFld K (tVar 0) (tC (.bl true)) "fixed"))))))))))
noncomputable def b_Master_init (K : W.Frag) (Cm : Addr) [ClsI K Cm] : {f : En → Option Fl // SS K 3 (t_Master_init K Cm) f} := ⟨_, inferInstance⟩
noncomputable def f_Master_init (K : W.Frag) (Cm : Addr) [ClsI K Cm] : En → Option Fl := (b_Master_init K Cm).1
theorem sc_Master_init : FnScope ["self", "number", "many"] ["self", "number", "many"] (defScope s_Master_init) := ⟨rfl, rfl, rfl, by decide +kernel, rfl, by decide +kernel, by decide +kernel⟩
noncomputable def G_Master_init (K : W.Frag) (Cm : Addr) [ClsI K Cm] : List D → Option (D × List D) := bodyI 3 (true :: List.replicate 2 false) (f_Master_init K Cm)
theorem ok_Master_init {f : Addr} {fd : FuncData} (F : Fun K "__init__" "Master.__init__" s_Master_init f fd) (T : Txt mg) : FnOk P w K mg base CX0 1 f fd ["self", "number", "many"] (spI K (true :: List.replicate 2 false) (G_Master_init K Cm)) := by
  refine F.ok sc_Master_init (fun vs H Q E h => h.1) (fun cdv A outer s H vs Q E hr h => ?_)
  exact ⟨t_Master_init K Cm, (pss_cons (ps_fld (pv 0) (pv 1) rfl)
    (pss_cons (ps_fld (pv 0) (pv 2) rfl)
    (pss_cons (ps_fld (pv 0) pe_int rfl)
    (pss_cons (ps_fld (pv 0) pe_int rfl)
    (pss_cons (ps_fld (pv 0) (pe_lst pa_nil) rfl)
    (pss_cons (ps_fld (pv 0) pe_int rfl)
    (pss_cons (ps_fld (pv 0) pe_str rfl)
    (pss_cons (ps_fld (pv 0) pe_dnewK rfl)
    (pss_cons (ps_fld (pv 0) pe_dnewK rfl)
    (pss_one (ps_fld (pv 0) pe_bl rfl))))))))))), io_fn (S := (b_Master_init K Cm).2) h (by decide)⟩
noncomputable abbrev t_Lpick (K : W.Frag) (Cm : Addr) [ClsI K Cm] : TS := (tSeq (tIfS (tAnd (tTest (tOp (rEqD K) (tOp (rIxU K) (tVar 0) (tC (.int 0))) (tC (.int 0)))) (tTest (tOp (rI0 fun i j => .bl (decide (j < i))) (tCB (rLenU K) (tCons (tVar 0) tNil)) (tC (.int 1)))))
      (tAsg (tBM0 K "list" rPop (tVar 0)) (gSub (tVar 0) (tC (.int 0)) rSetL)) tNext)
    (tSeq (tAsg (tOp (rI (fun _ j => 0 < j) fun i j => .int (i % j)) (tOp (rIxU K) (tVar 0) (tC (.int 0))) (tVar 1)) (gName 2))
    (tSeq (tAsg (tOp (rI CDivL fun i j => .int (i / j)) (tOp (rIxU K) (tVar 0) (tC (.int 0))) (tVar 1)) (gSub (tVar 0) (tC (.int 0)) rSetL))
    (tRet (tVar 2)))))
noncomputable def b_Lpick (K : W.Frag) (Cm : Addr) [ClsI K Cm] : {f : En → Option Fl // SS K 3 (t_Lpick K Cm) f} := ⟨_, inferInstance⟩
noncomputable def f_Lpick (K : W.Frag) (Cm : Addr) [ClsI K Cm] : En → Option Fl := (b_Lpick K Cm).1
theorem sc_Lpick : FnScope ["_law_left_here", "_law_many", "_law_digit"] ["_law_left_here", "_law_many"] (defScope s_Lpick) := ⟨rfl, rfl, rfl, by decide +kernel, rfl, by decide +kernel, by decide +kernel⟩
noncomputable def G_Lpick (K : W.Frag) (Cm : Addr) [ClsI K Cm] : List D → Option (D × List D) := bodyI 3 [true, false] (f_Lpick K Cm)
theorem ok_Lpick {f : Addr} {fd : FuncData} (F : Fun K "_law_pick" "_law_pick" s_Lpick f fd) (T : Txt mg) : FnOk P w K mg base CX0 1 f fd ["_law_left_here", "_law_many"] (spI K [true, false] (G_Lpick K Cm)) := by
  refine F.ok sc_Lpick (fun vs H Q E h => h.1) (fun cdv A outer s H vs Q E hr h => ?_)
  exact ⟨t_Lpick K Cm, (pss_cons (ps_if (PW.pt (pw_and (pt_cmpR (op_eqV hr.units) (pe_ix (r := rIxU K) (ix_any (hu_of hr)) (pv 0) pe_int (fun _ _ => rfl)) pe_int (nomark _)) (pw_and1 (pt_cmpR op_gt (pe_callB (r := (rLenU K)) call_lenU rfl T.b_len PySem.boot_len (pa_cons (pv 0) pa_nil)) pe_int (nomark _)))))
      (pss_one (ps_asg (pe_bm0 PySem.F.plainAttrs_list PySem.F.slot_list_pop PySem.F.type_list_pop mt_pop (pv 0)) (pg_sub (pv 0) pe_int set_list))) pss_nil)
    (pss_cons (ps_set (i := 2) sc_Lpick.nd rfl (Or.inl rfl) (pe_op op_mod (pe_ix (r := rIxU K) (ix_any (hu_of hr)) (pv 0) pe_int (fun _ _ => rfl)) (pv 1)))
    (pss_cons (ps_asg (pe_op op_fdivL (pe_ix (r := rIxU K) (ix_any (hu_of hr)) (pv 0) pe_int (fun _ _ => rfl)) (pv 1)) (pg_sub (pv 0) pe_int set_list))
    (pss_one (ps_ret (pv 2)))))), io_fn (S := (b_Lpick K Cm).2) h (by decide)⟩
noncomputable abbrev t_own_copy (K : W.Frag) (Cm : Addr) [ClsI K Cm] (Gs : List D → Option D) : TS := (tSeq (tIfS (tB (tCB (rIsi K "list") (tCons (tVar 0) (tCons (tC (.ty "list")) tNil))))
      (tRet (tLC (iAny K (tVar 0)) (gName 0) tTrue (tCall (spP K 1 Gs) [] E0 (tCons (tVar 0) tNil)) [none])) tNext)
    (tSeq (tIfS (tB (tCB (rIsi K "tuple") (tCons (tVar 0) (tCons (tC (.ty "tuple")) tNil))))
      (tRet (tCB (rTupOf K) (tCons (tLC (iAny K (tVar 0)) (gName 0) tTrue (tCall (spP K 1 Gs) [] E0 (tCons (tVar 0) tNil)) [none]) tNil))) tNext)
    (tSeq (tIfS (tB (tCB (rIsi K "dict") (tCons (tVar 0) (tCons (tC (.ty "dict")) tNil))))
      tNever tNext)
    (tRet (tVar 0)))))
noncomputable def b_own_copy (K : W.Frag) (Cm : Addr) [ClsI K Cm] (Gs : List D → Option D) : {f : En → Option Fl // SS K 1 (t_own_copy K Cm Gs) f} := ⟨_, inferInstance⟩
noncomputable def f_own_copy (K : W.Frag) (Cm : Addr) [ClsI K Cm] (Gs : List D → Option D) : En → Option Fl := (b_own_copy K Cm Gs).1
theorem sc_own_copy : FnScope ["value"] ["value"] (defScope s_own_copy) := ⟨rfl, rfl, rfl, by decide +kernel, rfl, by decide +kernel, by decide +kernel⟩
noncomputable def H_own_copy (K : W.Frag) (Cm : Addr) [ClsI K Cm] : Nat → List D → Option D
  | 0 => fun _ => none
  | m + 1 => bodyP 1 (f_own_copy K Cm (H_own_copy K Cm m))
noncomputable def G_own_copy (K : W.Frag) (Cm : Addr) [ClsI K Cm] : List D → Option D := H_own_copy K Cm 3
theorem ok_own_copy {f : Addr} {fd : FuncData} (F : Fun K "own_copy" "own_copy" s_own_copy f fd) (T : Txt mg) (hb : L2.Binds K fd ["value"] []) (hm : mg "own_copy" = some (.ref f)) : ∀ m : Nat, FnOk P w K mg base CX0 (1 + m) f fd ["value"] (spP K 1 (H_own_copy K Cm m))
  | 0 => fn_noneP
  | j + 1 => by
    have C_own_copy := Cal.of F hb hm (ok_own_copy F T hb hm j)
    refine F.ok sc_own_copy (fun vs H Q E h => spP_len h) (fun cdv A outer s H vs Q E hr h => ?_)
    exact ⟨t_own_copy K Cm (H_own_copy K Cm j), (pss_cons (ps_if (pt_val (pe_callB (r := rIsi K "list") call_isi rfl T.b_isinstance PyProof.Rows.boot_isinstance (pa_cons (pv 0) (pa_cons (pe_bltn (v := .ty "list") rfl T.b_list PyProof.Rows.boot_list rfl) pa_nil))))
      (pss_one (ps_ret (pe_lc [none] ["part"] rfl (capOf trivial) (pi_any (pv 0)) (fun _ _ _ _ _ _ => (pg_name (i := 0) nd1 rfl (Or.inl rfl))) (fun _ _ _ _ _ _ => pifs_nil) (fun _ _ _ _ _ _ => (pe_cal C_own_copy hr rfl (pa_cons (pv 0) pa_nil) (Nat.le_refl _)))))) pss_nil)
    (pss_cons (ps_if (pt_val (pe_callB (r := rIsi K "tuple") call_isi rfl T.b_isinstance PyProof.Rows.boot_isinstance (pa_cons (pv 0) (pa_cons (pe_bltn (v := .ty "tuple") rfl T.b_tuple PyProof.Rows.boot_tuple rfl) pa_nil))))
      (pss_one (ps_ret (pe_callTy (r := (rTupOf K)) call_tupOf rfl T.b_tuple PyProof.Rows.boot_tuple (pa_cons (pe_lc [none] ["part"] rfl (capOf trivial) (pi_any (pv 0)) (fun _ _ _ _ _ _ => (pg_name (i := 0) nd1 rfl (Or.inl rfl))) (fun _ _ _ _ _ _ => pifs_nil) (fun _ _ _ _ _ _ => (pe_cal C_own_copy hr rfl (pa_cons (pv 0) pa_nil) (Nat.le_refl _)))) pa_nil)))) pss_nil)
    (pss_cons (ps_if (pt_val (pe_callB (r := rIsi K "dict") call_isi rfl T.b_isinstance PyProof.Rows.boot_isinstance (pa_cons (pv 0) (pa_cons (pe_bltn (v := .ty "dict") rfl T.b_dict PyProof.Rows.boot_dict rfl) pa_nil))))
      pss_never pss_nil)
    (pss_one (ps_ret (pv 0)))))), pure_fn (S := (b_own_copy K Cm (H_own_copy K Cm j)).2) h (by decide)⟩
noncomputable abbrev t_is_fixed (K : W.Frag) (Cm : Addr) [ClsI K Cm] (Gs : List D → Option D) : TS := (tSeq (tIfS (tB (tCB (rIsi K "tuple") (tCons (tVar 0) (tCons (tC (.ty "tuple")) tNil))))
      (tRet (tCB (rAll K) (tCons (tLC (iAny K (tVar 0)) (gName 0) tTrue (tCall (spP K 1 Gs) [] E0 (tCons (tVar 0) tNil)) [none]) tNil))) tNext)
    (tRet (tNotV (tCB (rIsiT K) (tCons (tVar 0) (tCons (tTup (tCons (tC (.ty "list")) (tCons (tC (.ty "dict")) tNil))) tNil))))))
noncomputable def b_is_fixed (K : W.Frag) (Cm : Addr) [ClsI K Cm] (Gs : List D → Option D) : {f : En → Option Fl // SS K 1 (t_is_fixed K Cm Gs) f} := ⟨_, inferInstance⟩
noncomputable def f_is_fixed (K : W.Frag) (Cm : Addr) [ClsI K Cm] (Gs : List D → Option D) : En → Option Fl := (b_is_fixed K Cm Gs).1
theorem sc_is_fixed : FnScope ["value"] ["value"] (defScope s_is_fixed) := ⟨rfl, rfl, rfl, by decide +kernel, rfl, by decide +kernel, by decide +kernel⟩
noncomputable def H_is_fixed (K : W.Frag) (Cm : Addr) [ClsI K Cm] : Nat → List D → Option D
  | 0 => fun _ => none
  | m + 1 => bodyP 1 (f_is_fixed K Cm (H_is_fixed K Cm m))
noncomputable def G_is_fixed (K : W.Frag) (Cm : Addr) [ClsI K Cm] : List D → Option D := H_is_fixed K Cm 3
theorem ok_is_fixed {f : Addr} {fd : FuncData} (F : Fun K "is_fixed" "is_fixed" s_is_fixed f fd) (T : Txt mg) (hb : L2.Binds K fd ["value"] []) (hm : mg "is_fixed" = some (.ref f)) : ∀ m : Nat, FnOk P w K mg base CX0 (1 + m) f fd ["value"] (spP K 1 (H_is_fixed K Cm m))
  | 0 => fn_noneP
  | j + 1 => by
    have C_is_fixed := Cal.of F hb hm (ok_is_fixed F T hb hm j)
    refine F.ok sc_is_fixed (fun vs H Q E h => spP_len h) (fun cdv A outer s H vs Q E hr h => ?_)
    exact ⟨t_is_fixed K Cm (H_is_fixed K Cm j), (pss_cons (ps_if (pt_val (pe_callB (r := rIsi K "tuple") call_isi rfl T.b_isinstance PyProof.Rows.boot_isinstance (pa_cons (pv 0) (pa_cons (pe_bltn (v := .ty "tuple") rfl T.b_tuple PyProof.Rows.boot_tuple rfl) pa_nil))))
      (pss_one (ps_ret (pe_callB (r := (rAll K)) (call_all' rfl) rfl T.b_all PyProof.Rows.boot_all (pa_cons (pe_lc [none] ["part"] rfl (capOf trivial) (pi_any (pv 0)) (fun _ _ _ _ _ _ => (pg_name (i := 0) nd1 rfl (Or.inl rfl))) (fun _ _ _ _ _ _ => pifs_nil) (fun _ _ _ _ _ _ => (pe_cal C_is_fixed hr rfl (pa_cons (pv 0) pa_nil) (Nat.le_refl _)))) pa_nil)))) pss_nil)
    (pss_one (ps_ret (pe_not (pe_callB (r := rIsiT K) call_isiT rfl T.b_isinstance PyProof.Rows.boot_isinstance (pa_cons (pv 0) (pa_cons (pe_tup (pa_cons (pe_bltn (v := .ty "list") rfl T.b_list PyProof.Rows.boot_list rfl) (pa_cons (pe_bltn (v := .ty "dict") rfl T.b_dict PyProof.Rows.boot_dict rfl) pa_nil))) pa_nil))))))), pure_fn (S := (b_is_fixed K Cm (H_is_fixed K Cm j)).2) h (by decide)⟩
noncomputable abbrev t_take_behind (K : W.Frag) (Cm : Addr) [ClsI K Cm] : TS := (tSeq (tAsg (tCall (spP K 1 (G_is_fixed K Cm)) [] E0 (tCons (tVar 1) tNil)) (gName 2))
    (tSeq (sFld K (tVar 0) (tOp (rAddU K) (tFld K (tVar 0) "log") (tCB (rListOf K) (tCons (tIf (tB (tVar 2)) (tVar 1) (tCall (spP K 1 (G_own_copy K Cm)) [] E0 (tCons (tVar 1) tNil))) tNil))) "log")
    (sFld K (tVar 0) (tAndV (tFld K (tVar 0) "fixed") (tVar 2)) "fixed")))
noncomputable def b_take_behind (K : W.Frag) (Cm : Addr) [ClsI K Cm] : {f : En → Option Fl // SS K 3 (t_take_behind K Cm) f} := ⟨_, inferInstance⟩
noncomputable def f_take_behind (K : W.Frag) (Cm : Addr) [ClsI K Cm] : En → Option Fl := (b_take_behind K Cm).1
theorem sc_take_behind : FnScope ["master", "rows", "fixed"] ["master", "rows"] (defScope s_take_behind) := ⟨rfl, rfl, rfl, by decide +kernel, rfl, by decide +kernel, by decide +kernel⟩
noncomputable def G_take_behind (K : W.Frag) (Cm : Addr) [ClsI K Cm] : List D → Option (D × List D) := bodyI 3 [true, false] (f_take_behind K Cm)
theorem ok_take_behind {f : Addr} {fd : FuncData} (F : Fun K "take_behind" "take_behind" s_take_behind f fd) (T : Txt mg) (C_is_fixed : Cal P w K mg base "is_fixed" ["value"] 4 (spP K 1 (G_is_fixed K Cm))) (C_own_copy : Cal P w K mg base "own_copy" ["value"] 4 (spP K 1 (G_own_copy K Cm))) : FnOk P w K mg base CX0 5 f fd ["master", "rows"] (spI K [true, false] (G_take_behind K Cm)) := by
  refine F.ok sc_take_behind (fun vs H Q E h => h.1) (fun cdv A outer s H vs Q E hr h => ?_)
  exact ⟨t_take_behind K Cm, (pss_cons (ps_set (i := 2) sc_take_behind.nd rfl (Or.inl rfl) (pe_cal C_is_fixed hr rfl (pa_cons (pv 1) pa_nil)))
    (pss_cons (ps_fld (pv 0) (pe_op op_addU (pe_fldK (K := K) rfl (pv 0) rfl) (pe_callTy (r := (rListOf K)) call_listOf rfl T.b_list PyProof.Rows.boot_list (pa_cons (pe_ifExp (pt_val (pv 2)) (pv 1) (pe_cal C_own_copy hr rfl (pa_cons (pv 1) pa_nil))) pa_nil))) rfl)
    (pss_one (ps_fld (pv 0) (pe_and (pe_fldK (K := K) rfl (pv 0) rfl) (pe_one (pv 2))) rfl)))), io_fn (S := (b_take_behind K Cm).2) h (by decide)⟩
noncomputable abbrev t_take_rows (K : W.Frag) (Cm : Addr) [ClsI K Cm] : TS := (tSeq (tAsg (tCB (rLenU K) (tCons (tFld K (tVar 0) "log") tNil)) (gName 2))
    (tSeq (tIfS (tTest (tOp (rNeD K) (tSl (rSlU K) (tVar 1) tNoPart (tPart (tVar 2))) (tCB (rTupOf K) (tCons (tFld K (tVar 0) "log") tNil))))
      (tSeq (tAsg (tC (.int 0)) (gName 2))
    (tSeq (sFld K (tVar 0) (tLst tNil) "log")
    (sFld K (tVar 0) (tC (.bl true)) "fixed"))) tNext)
    (tDrop (tCall (spI K [true, false] (G_take_behind K Cm)) [] E0 (tCons (tVar 0) (tCons (tSl (rSlU K) (tVar 1) (tPart (tVar 2)) tNoPart) tNil))))))
noncomputable def b_take_rows (K : W.Frag) (Cm : Addr) [ClsI K Cm] : {f : En → Option Fl // SS K 3 (t_take_rows K Cm) f} := ⟨_, inferInstance⟩
noncomputable def f_take_rows (K : W.Frag) (Cm : Addr) [ClsI K Cm] : En → Option Fl := (b_take_rows K Cm).1
theorem sc_take_rows : FnScope ["master", "rows", "size"] ["master", "rows"] (defScope s_take_rows) := ⟨rfl, rfl, rfl, by decide +kernel, rfl, by decide +kernel, by decide +kernel⟩
noncomputable def G_take_rows (K : W.Frag) (Cm : Addr) [ClsI K Cm] : List D → Option (D × List D) := bodyI 3 [true, false] (f_take_rows K Cm)
theorem ok_take_rows {f : Addr} {fd : FuncData} (F : Fun K "take_rows" "take_rows" s_take_rows f fd) (T : Txt mg) (C_take_behind : Cal P w K mg base "take_behind" ["master", "rows"] 5 (spI K [true, false] (G_take_behind K Cm))) : FnOk P w K mg base CX0 6 f fd ["master", "rows"] (spI K [true, false] (G_take_rows K Cm)) := by
  refine F.ok sc_take_rows (fun vs H Q E h => h.1) (fun cdv A outer s H vs Q E hr h => ?_)
  exact ⟨t_take_rows K Cm, (pss_cons (ps_set (i := 2) sc_take_rows.nd rfl (Or.inl rfl) (pe_callB (r := (rLenU K)) call_lenU rfl T.b_len PySem.boot_len (pa_cons (pe_fldK (K := K) rfl (pv 0) rfl) pa_nil)))
    (pss_cons (ps_if (pt_cmpR (op_neV hr.units) (pe_slice (r := rSlU K) sl_any (pv 1) po_none (po_some (pv 2))) (pe_callTy (r := (rTupOf K)) call_tupOf rfl T.b_tuple PyProof.Rows.boot_tuple (pa_cons (pe_fldK (K := K) rfl (pv 0) rfl) pa_nil)) (nomark _))
      (pss_cons (ps_set (i := 2) sc_take_rows.nd rfl (Or.inl rfl) pe_int)
    (pss_cons (ps_fld (pv 0) (pe_lst pa_nil) rfl)
    (pss_one (ps_fld (pv 0) pe_bl rfl)))) pss_nil)
    (pss_one (ps_expr (pe_cal C_take_behind hr rfl (pa_cons (pv 0) (pa_cons (pe_slice (r := rSlU K) sl_any (pv 1) (po_some (pv 2)) po_none) pa_nil))))))), io_fn (S := (b_take_rows K Cm).2) h (by decide)⟩
noncomputable abbrev t_hear_keep (K : W.Frag) (Cm : Addr) [ClsI K Cm] : TS := (tSeq (tIfS (tTest (tOp (rI0 fun i j => .bl (decide (i < j))) (tVar 2) (tFld K (tVar 0) "term")))
      (tRet (tLst tNil)) tNext)
    (tSeq (sFld K (tVar 0) (tVar 2) "term")
    (tSeq (sFld K (tVar 0) (tC (.str "hears")) "role")
    (tSeq (tIfS (tOr (tTest (tOp (rI0 fun i j => .bl (decide (i < j))) (tFld K (tVar 0) "of") (tVar 2))) (tTest (tOp (rI0 fun i j => .bl (decide (j < i))) (tCB (rLenU K) (tCons (tVar 3) tNil)) (tCB (rLenU K) (tCons (tFld K (tVar 0) "log") tNil)))))
      (tSeq (tDrop (tCall (spI K [true, false] (G_take_rows K Cm)) [] E0 (tCons (tVar 0) (tCons (tVar 3) tNil))))
    (sFld K (tVar 0) (tVar 2) "of")) tNext)
    (tSeq (sFld K (tVar 0) (tCB rMax2 (tCons (tFld K (tVar 0) "done") (tCons (tCB rMin2 (tCons (tVar 4) (tCons (tCB (rLenU K) (tCons (tFld K (tVar 0) "log") tNil)) tNil))) tNil))) "done")
    (tRet (tLst (tCons (tTup (tCons (tC (.str "kept")) (tCons (tFld K (tVar 0) "number") (tCons (tVar 1) (tCons (tVar 2) (tCons (tCB (rLenU K) (tCons (tFld K (tVar 0) "log") tNil)) tNil)))))) tNil))))))))
noncomputable def b_hear_keep (K : W.Frag) (Cm : Addr) [ClsI K Cm] : {f : En → Option Fl // SS K 5 (t_hear_keep K Cm) f} := ⟨_, inferInstance⟩
noncomputable def f_hear_keep (K : W.Frag) (Cm : Addr) [ClsI K Cm] : En → Option Fl := (b_hear_keep K Cm).1
theorem sc_hear_keep : FnScope ["master", "sender", "term", "rows", "done"] ["master", "sender", "term", "rows", "done"] (defScope s_hear_keep) := ⟨rfl, rfl, rfl, by decide +kernel, rfl, by decide +kernel, by decide +kernel⟩
noncomputable def G_hear_keep (K : W.Frag) (Cm : Addr) [ClsI K Cm] : List D → Option (D × List D) := bodyI 5 [true, false, false, false, false] (f_hear_keep K Cm)
theorem ok_hear_keep {f : Addr} {fd : FuncData} (F : Fun K "hear_keep" "hear_keep" s_hear_keep f fd) (T : Txt mg) (C_take_rows : Cal P w K mg base "take_rows" ["master", "rows"] 6 (spI K [true, false] (G_take_rows K Cm))) : FnOk P w K mg base CX0 8 f fd ["master", "sender", "term", "rows", "done"] (spI K [true, false, false, false, false] (G_hear_keep K Cm)) := by
  refine F.ok sc_hear_keep (fun vs H Q E h => h.1) (fun cdv A outer s H vs Q E hr h => ?_)
  exact ⟨t_hear_keep K Cm, (pss_cons (ps_if (pt_cmpR op_lt (pv 2) (pe_fldK (K := K) rfl (pv 0) rfl) (nomark _))
      (pss_one (ps_ret (pe_lst pa_nil))) pss_nil)
    (pss_cons (ps_fld (pv 0) (pv 2) rfl)
    (pss_cons (ps_fld (pv 0) pe_str rfl)
    (pss_cons (ps_if (PW.pt (pw_or (pt_cmpR op_lt (pe_fldK (K := K) rfl (pv 0) rfl) (pv 2) (nomark _)) (pw_or1 (pt_cmpR op_gt (pe_callB (r := (rLenU K)) call_lenU rfl T.b_len PySem.boot_len (pa_cons (pv 3) pa_nil)) (pe_callB (r := (rLenU K)) call_lenU rfl T.b_len PySem.boot_len (pa_cons (pe_fldK (K := K) rfl (pv 0) rfl) pa_nil)) (nomark _)))))
      (pss_cons (ps_expr (pe_cal C_take_rows hr rfl (pa_cons (pv 0) (pa_cons (pv 3) pa_nil))))
    (pss_one (ps_fld (pv 0) (pv 2) rfl))) pss_nil)
    (pss_cons (ps_fld (pv 0) (pe_callB (r := rMax2) (call_max2' rfl) rfl T.b_max PyProof.Rows.boot_max (pa_cons (pe_fldK (K := K) rfl (pv 0) rfl) (pa_cons (pe_callB (r := rMin2) (call_min2' rfl) rfl T.b_min PyProof.Rows.boot_min (pa_cons (pv 4) (pa_cons (pe_callB (r := (rLenU K)) call_lenU rfl T.b_len PySem.boot_len (pa_cons (pe_fldK (K := K) rfl (pv 0) rfl) pa_nil)) pa_nil))) pa_nil))) rfl)
    (pss_one (ps_ret (pe_lst (pa_cons (pe_tup (pa_cons pe_str (pa_cons (pe_fldK (K := K) rfl (pv 0) rfl) (pa_cons (pv 1) (pa_cons (pv 2) (pa_cons (pe_callB (r := (rLenU K)) call_lenU rfl T.b_len PySem.boot_len (pa_cons (pe_fldK (K := K) rfl (pv 0) rfl) pa_nil)) pa_nil)))))) pa_nil))))))))), io_fn (S := (b_hear_keep K Cm).2) h (by decide)⟩
noncomputable abbrev t_Master_hear (K : W.Frag) (Cm : Addr) [ClsI K Cm] : TS := (tSeq (tIfS (tTest (tOp (rEqD K) (tOp (rIxU K) (tVar 1) (tC (.int 0))) (tC (.str "stand"))))
      tNever tNext)
    (tSeq (tIfS (tTest (tOp (rEqD K) (tOp (rIxU K) (tVar 1) (tC (.int 0))) (tC (.str "voice"))))
      tNever tNext)
    (tSeq (tIfS (tTest (tOp (rEqD K) (tOp (rIxU K) (tVar 1) (tC (.int 0))) (tC (.str "keep"))))
      (tRet (tCall (spI K [true, false, false, false, false] (G_hear_keep K Cm)) [] E0 (tCons (tVar 0) (tCons (tOp (rIxU K) (tVar 1) (tC (.int 1))) (tCons (tOp (rIxU K) (tVar 1) (tC (.int 3))) (tCons (tOp (rIxU K) (tVar 1) (tC (.int 4))) (tCons (tOp (rIxU K) (tVar 1) (tC (.int 5))) tNil))))))) tNext)
    tNever)))
noncomputable def b_Master_hear (K : W.Frag) (Cm : Addr) [ClsI K Cm] : {f : En → Option Fl // SS K 2 (t_Master_hear K Cm) f} := ⟨_, inferInstance⟩
noncomputable def f_Master_hear (K : W.Frag) (Cm : Addr) [ClsI K Cm] : En → Option Fl := (b_Master_hear K Cm).1
theorem sc_Master_hear : FnScope ["self", "message"] ["self", "message"] (defScope s_Master_hear) := ⟨rfl, rfl, rfl, by decide +kernel, rfl, by decide +kernel, by decide +kernel⟩
noncomputable def G_Master_hear (K : W.Frag) (Cm : Addr) [ClsI K Cm] : List D → Option (D × List D) := bodyI 2 [true, false] (f_Master_hear K Cm)
theorem ok_Master_hear {f : Addr} {fd : FuncData} (F : Fun K "hear" "Master.hear" s_Master_hear f fd) (T : Txt mg) (C_hear_keep : Cal P w K mg base "hear_keep" ["master", "sender", "term", "rows", "done"] 8 (spI K [true, false, false, false, false] (G_hear_keep K Cm))) : FnOk P w K mg base CX0 10 f fd ["self", "message"] (spI K [true, false] (G_Master_hear K Cm)) := by
  refine F.ok sc_Master_hear (fun vs H Q E h => h.1) (fun cdv A outer s H vs Q E hr h => ?_)
  exact ⟨t_Master_hear K Cm, (pss_cons (ps_if (pt_cmpR (op_eqV hr.units) (pe_ix (r := rIxU K) (ix_any (hu_of hr)) (pv 1) pe_int (fun _ _ => rfl)) pe_str (nomark _))
      pss_never pss_nil)
    (pss_cons (ps_if (pt_cmpR (op_eqV hr.units) (pe_ix (r := rIxU K) (ix_any (hu_of hr)) (pv 1) pe_int (fun _ _ => rfl)) pe_str (nomark _))
      pss_never pss_nil)
    (pss_cons (ps_if (pt_cmpR (op_eqV hr.units) (pe_ix (r := rIxU K) (ix_any (hu_of hr)) (pv 1) pe_int (fun _ _ => rfl)) pe_str (nomark _))
      (pss_one (ps_ret (pe_cal C_hear_keep hr rfl (pa_cons (pv 0) (pa_cons (pe_ix (r := rIxU K) (ix_any (hu_of hr)) (pv 1) pe_int (fun _ _ => rfl)) (pa_cons (pe_ix (r := rIxU K) (ix_any (hu_of hr)) (pv 1) pe_int (fun _ _ => rfl)) (pa_cons (pe_ix (r := rIxU K) (ix_any (hu_of hr)) (pv 1) pe_int (fun _ _ => rfl)) (pa_cons (pe_ix (r := rIxU K) (ix_any (hu_of hr)) (pv 1) pe_int (fun _ _ => rfl)) pa_nil)))))))) pss_nil)
    pss_never))), io_fn (S := (b_Master_hear K Cm).2) h (by decide)⟩
noncomputable abbrev t_Lrows (K : W.Frag) (Cm : Addr) [ClsI K Cm] : TS := (tRet (tCB (rTupOf K) (tCons (tOp (rAddU K) (tLC (iRng1 (tCons (tCB rMin2 (tCons (tVar 1) (tCons (tC (.int 5)) tNil))) tNil)) (gName 0) tTrue (tTup (tCons (tC (.str "row")) (tCons (tVar 0) tNil))) [none]) (tLC (iRng2 (tCons (tC (.int 5)) (tCons (tVar 1) tNil))) (gName 0) tTrue (tTup (tCons (tC (.str "row")) (tCons (tVar 0) (tCons (tVar 1) tNil)))) [none, some 0])) tNil)))
noncomputable def b_Lrows (K : W.Frag) (Cm : Addr) [ClsI K Cm] : {f : En → Option Fl // SS K 2 (t_Lrows K Cm) f} := ⟨_, inferInstance⟩
noncomputable def f_Lrows (K : W.Frag) (Cm : Addr) [ClsI K Cm] : En → Option Fl := (b_Lrows K Cm).1
theorem sc_Lrows : FnScope ["_law_term", "_law_many"] ["_law_term", "_law_many"] (defScope s_Lrows) := ⟨rfl, rfl, rfl, by decide +kernel, rfl, by decide +kernel, by decide +kernel⟩
noncomputable def G_Lrows (K : W.Frag) (Cm : Addr) [ClsI K Cm] : List D → Option D := bodyP 2 (f_Lrows K Cm)
theorem ok_Lrows {f : Addr} {fd : FuncData} (F : Fun K "_law_rows" "_law_rows" s_Lrows f fd) (T : Txt mg) : FnOk P w K mg base CX0 1 f fd ["_law_term", "_law_many"] (spP K 2 (G_Lrows K Cm)) := by
  refine F.ok sc_Lrows (fun vs H Q E h => spP_len h) (fun cdv A outer s H vs Q E hr h => ?_)
  exact ⟨t_Lrows K Cm, (pss_one (ps_ret (pe_callTy (r := (rTupOf K)) call_tupOf rfl T.b_tuple PyProof.Rows.boot_tuple (pa_cons (pe_op op_addU (pe_lc [none] ["_law_k"] rfl (capOf trivial) (pi_range1 rfl T.b_range (pa_cons (pe_callB (r := rMin2) (call_min2' rfl) rfl T.b_min PyProof.Rows.boot_min (pa_cons (pv 1) (pa_cons pe_int pa_nil))) pa_nil)) (fun _ _ _ _ _ _ => (pg_name (i := 0) nd1 rfl (Or.inl rfl))) (fun _ _ _ _ _ _ => pifs_nil) (fun _ _ _ _ _ _ => (pe_tup (pa_cons pe_str (pa_cons (pv 0) pa_nil))))) (pe_lc [none, some 0] ["_law_k", "_law_term"] rfl (capOf ⟨⟨rfl, rfl, .inl rfl⟩, trivial⟩) (pi_range2 rfl T.b_range (pa_cons pe_int (pa_cons (pv 1) pa_nil))) (fun _ _ _ _ _ _ => (pg_name (i := 0) (by decide +kernel : (["_law_k", "_law_term"] : List Str).Nodup) rfl (Or.inl rfl))) (fun _ _ _ _ _ _ => pifs_nil) (fun _ _ _ _ _ _ => (pe_tup (pa_cons pe_str (pa_cons (pv 0) (pa_cons (pv 1) pa_nil))))))) pa_nil)))), pure_fn (S := (b_Lrows K Cm).2) h (by decide)⟩
noncomputable abbrev t_Lmade (K : W.Frag) (Cm : Addr) [ClsI K Cm] : TS := (tSeq (tAsg (tLC (iRng1 (tCons (tVar 1) tNil)) (gName 0) tTrue (tMake Cm (spI K (true :: List.replicate 2 false) (G_Master_init K Cm)) [] E0 (tCons (tVar 0) (tCons (tVar 1) tNil))) [none, some 1]) (gName 2))
    (tSeq (tFor (iAny K (tVar 2)) (gName 3)
      (tSeq (tAsg (tCall (spI K [true, false] (G_Lpick K Cm)) [] E0 (tCons (tVar 0) (tCons (tC (.int 10)) tNil))) (gName 4))
    (tIfS (tAnd (tTest (tOp (rI0 fun i j => .bl (decide (j < i))) (tVar 4) (tC (.int 0)))) (tTest (tOp (rNeD K) (tOp (rI (fun _ j => 0 < j) fun i j => .int (i % j)) (tVar 4) (tVar 1)) (tFld K (tVar 3) "number"))))
      (tDrop (tMeth Cm "hear" (spI K [true, false] (G_Master_hear K Cm)) [] E0 (tVar 3) (tCons (tTup (tCons (tC (.str "keep")) (tCons (tOp (rI (fun _ j => 0 < j) fun i j => .int (i % j)) (tVar 4) (tVar 1)) (tCons (tFld K (tVar 3) "number") (tCons (tVar 4) (tCons (tCall (spP K 2 (G_Lrows K Cm)) [] E0 (tCons (tVar 4) (tCons (tCall (spI K [true, false] (G_Lpick K Cm)) [] E0 (tCons (tVar 0) (tCons (tC (.int 13)) tNil))) tNil))) (tCons (tC (.int 0)) tNil))))))) tNil))) tNext)))
    (tRet (tVar 2))))
noncomputable def b_Lmade (K : W.Frag) (Cm : Addr) [ClsI K Cm] : {f : En → Option Fl // SS K 5 (t_Lmade K Cm) f} := ⟨_, inferInstance⟩
noncomputable def f_Lmade (K : W.Frag) (Cm : Addr) [ClsI K Cm] : En → Option Fl := (b_Lmade K Cm).1
theorem sc_Lmade : FnScope ["_law_left_here", "_law_many", "_law_masters", "_law_one", "_law_term"] ["_law_left_here", "_law_many"] (defScope s_Lmade) := ⟨rfl, rfl, rfl, by decide +kernel, rfl, by decide +kernel, by decide +kernel⟩
noncomputable def G_Lmade (K : W.Frag) (Cm : Addr) [ClsI K Cm] : List D → Option (D × List D) := bodyI 5 [true, false] (f_Lmade K Cm)
theorem ok_Lmade {f : Addr} {fd : FuncData} (F : Fun K "_law_made" "_law_made" s_Lmade f fd) (T : Txt mg) (C_Master_init : CalC P w K mg base "Master" Cm ["self", "number", "many"] 1 (spI K (true :: List.replicate 2 false) (G_Master_init K Cm))) (C_Lpick : Cal P w K mg base "_law_pick" ["_law_left_here", "_law_many"] 1 (spI K [true, false] (G_Lpick K Cm))) (C_Master_hear : CalM P w K mg base Cm "hear" ["self", "message"] 10 (spI K [true, false] (G_Master_hear K Cm))) (C_Lrows : Cal P w K mg base "_law_rows" ["_law_term", "_law_many"] 1 (spP K 2 (G_Lrows K Cm))) : FnOk P w K mg base CX0 11 f fd ["_law_left_here", "_law_many"] (spI K [true, false] (G_Lmade K Cm)) := by
  refine F.ok sc_Lmade (fun vs H Q E h => h.1) (fun cdv A outer s H vs Q E hr h => ?_)
  exact ⟨t_Lmade K Cm, (pss_cons (ps_setC (k := 2) [none, some 1] ["_law_number", "_law_many"] rfl (capOf ⟨⟨rfl, rfl, .inl rfl⟩, trivial⟩) sc_Lmade.nd rfl (Or.inl rfl) (pi_range1 rfl T.b_range (pa_cons (pv 1) pa_nil)) (fun _ _ _ _ _ _ => (pg_name (i := 0) (by decide +kernel : (["_law_number", "_law_many"] : List Str).Nodup) rfl (Or.inl rfl))) (fun _ _ _ _ _ _ => pifs_nil) (fun _ _ _ _ _ _ => (pe_calC C_Master_init hr rfl (pa_cons (pv 0) (pa_cons (pv 1) pa_nil)))))
    (pss_cons (ps_for PassesOwn.never rfl (pi_any (pv 2)) (pg_name (i := 3) sc_Lmade.nd rfl (Or.inl rfl))
      (pss_cons (ps_set (i := 4) sc_Lmade.nd rfl (Or.inl rfl) (pe_cal C_Lpick hr rfl (pa_cons (pv 0) (pa_cons pe_int pa_nil))))
    (pss_one (ps_if (PW.pt (pw_and (pt_cmpR op_gt (pv 4) pe_int (nomark _)) (pw_and1 (pt_cmpR (op_neV hr.units) (pe_op op_mod (pv 4) (pv 1)) (pe_fldK (K := K) rfl (pv 3) rfl) (nomark _)))))
      (pss_one (ps_expr (pe_calM C_Master_hear hr (pv 3) (pa_cons (pe_tup (pa_cons pe_str (pa_cons (pe_op op_mod (pv 4) (pv 1)) (pa_cons (pe_fldK (K := K) rfl (pv 3) rfl) (pa_cons (pv 4) (pa_cons (pe_cal C_Lrows hr rfl (pa_cons (pv 4) (pa_cons (pe_cal C_Lpick hr rfl (pa_cons (pv 0) (pa_cons pe_int pa_nil))) pa_nil))) (pa_cons pe_int pa_nil))))))) pa_nil)))) pss_nil))))
    (pss_one (ps_ret (pv 2))))), io_fn (S := (b_Lmade K Cm).2) h (by decide)⟩
noncomputable abbrev t_Lfields (K : W.Frag) (Cm : Addr) [ClsI K Cm] : TS := (tRet (tTup (tCons (tFld K (tVar 0) "number") (tCons (tFld K (tVar 0) "many") (tCons (tFld K (tVar 0) "term") (tCons (tFld K (tVar 0) "of") (tCons (tCB (rListOf K) (tCons (tFld K (tVar 0) "log") tNil)) (tCons (tFld K (tVar 0) "done") (tCons (tFld K (tVar 0) "role") tNil)))))))))
noncomputable def b_Lfields (K : W.Frag) (Cm : Addr) [ClsI K Cm] : {f : En → Option Fl // SS K 1 (t_Lfields K Cm) f} := ⟨_, inferInstance⟩
noncomputable def f_Lfields (K : W.Frag) (Cm : Addr) [ClsI K Cm] : En → Option Fl := (b_Lfields K Cm).1
theorem sc_Lfields : FnScope ["_law_one"] ["_law_one"] (defScope s_Lfields) := ⟨rfl, rfl, rfl, by decide +kernel, rfl, by decide +kernel, by decide +kernel⟩
noncomputable def G_Lfields (K : W.Frag) (Cm : Addr) [ClsI K Cm] : List D → Option D := bodyP 1 (f_Lfields K Cm)
theorem ok_Lfields {f : Addr} {fd : FuncData} (F : Fun K "_law_fields" "_law_fields" s_Lfields f fd) (T : Txt mg) : FnOk P w K mg base CX0 1 f fd ["_law_one"] (spP K 1 (G_Lfields K Cm)) := by
  refine F.ok sc_Lfields (fun vs H Q E h => spP_len h) (fun cdv A outer s H vs Q E hr h => ?_)
  exact ⟨t_Lfields K Cm, (pss_one (ps_ret (pe_tup (pa_cons (pe_fldK (K := K) rfl (pv 0) rfl) (pa_cons (pe_fldK (K := K) rfl (pv 0) rfl) (pa_cons (pe_fldK (K := K) rfl (pv 0) rfl) (pa_cons (pe_fldK (K := K) rfl (pv 0) rfl) (pa_cons (pe_callTy (r := (rListOf K)) call_listOf rfl T.b_list PyProof.Rows.boot_list (pa_cons (pe_fldK (K := K) rfl (pv 0) rfl) pa_nil)) (pa_cons (pe_fldK (K := K) rfl (pv 0) rfl) (pa_cons (pe_fldK (K := K) rfl (pv 0) rfl) pa_nil)))))))))), pure_fn (S := (b_Lfields K Cm).2) h (by decide)⟩
noncomputable abbrev t_Lsome (K : W.Frag) (Cm : Addr) [ClsI K Cm] : TS := (tSeq (tAsg (tCB rListR (tCons (tCB rRng (tCons (tVar 1) tNil)) tNil)) (gName 2))
    (tSeq (tAsg (tLst tNil) (gName 3))
    (tSeq (tAsg (tOp (rAddU K) (tOp (rAddU K) (tOp (rI CDivL fun i j => .int (i / j)) (tVar 1) (tC (.int 2))) (tC (.int 1))) (tCall (spI K [true, false] (G_Lpick K Cm)) [] E0 (tCons (tVar 0) (tCons (tOp (rI0 fun i j => .int (i - j)) (tVar 1) (tOp (rI CDivL fun i j => .int (i / j)) (tVar 1) (tC (.int 2)))) tNil)))) (gName 4))
    (tSeq (tFor (iRng1 (tCons (tOp (rIxU K) (tLst (tCons (tC (.int 1)) (tCons (tVar 4) (tCons (tVar 4) tNil)))) (tCall (spI K [true, false] (G_Lpick K Cm)) [] E0 (tCons (tVar 0) (tCons (tC (.int 3)) tNil)))) tNil)) (gName 5)
      (tDrop (tBM K "list" rAppend (tVar 3) (tCons (tBM K "list" rPopAt (tVar 2) (tCons (tCall (spI K [true, false] (G_Lpick K Cm)) [] E0 (tCons (tVar 0) (tCons (tCB (rLenU K) (tCons (tVar 2) tNil)) tNil))) tNil)) tNil))))
    (tSeq (tIfS (tTest (tOp (rEqD K) (tCall (spI K [true, false] (G_Lpick K Cm)) [] E0 (tCons (tVar 0) (tCons (tC (.int 3)) tNil))) (tC (.int 0))))
      (tDrop (tBM K "list" rAppend (tVar 3) (tCons (tOp (rIxU K) (tVar 3) (tCall (spI K [true, false] (G_Lpick K Cm)) [] E0 (tCons (tVar 0) (tCons (tCB (rLenU K) (tCons (tVar 3) tNil)) tNil)))) tNil))) tNext)
    (tRet (tVar 3)))))))
noncomputable def b_Lsome (K : W.Frag) (Cm : Addr) [ClsI K Cm] : {f : En → Option Fl // SS K 6 (t_Lsome K Cm) f} := ⟨_, inferInstance⟩
noncomputable def f_Lsome (K : W.Frag) (Cm : Addr) [ClsI K Cm] : En → Option Fl := (b_Lsome K Cm).1
theorem sc_Lsome : FnScope ["_law_left_here", "_law_many", "_law_places", "_law_some_here", "_law_more", "_law_turn"] ["_law_left_here", "_law_many"] (defScope s_Lsome) := ⟨rfl, rfl, rfl, by decide +kernel, rfl, by decide +kernel, by decide +kernel⟩
noncomputable def G_Lsome (K : W.Frag) (Cm : Addr) [ClsI K Cm] : List D → Option (D × List D) := bodyI 6 [true, false] (f_Lsome K Cm)
theorem ok_Lsome {f : Addr} {fd : FuncData} (F : Fun K "_law_some" "_law_some" s_Lsome f fd) (T : Txt mg) (C_Lpick : Cal P w K mg base "_law_pick" ["_law_left_here", "_law_many"] 1 (spI K [true, false] (G_Lpick K Cm))) : FnOk P w K mg base CX0 2 f fd ["_law_left_here", "_law_many"] (spI K [true, false] (G_Lsome K Cm)) := by
  refine F.ok sc_Lsome (fun vs H Q E h => h.1) (fun cdv A outer s H vs Q E hr h => ?_)
  exact ⟨t_Lsome K Cm, (pss_cons (ps_set (i := 2) sc_Lsome.nd rfl (Or.inl rfl) (pe_callTy (r := rListR) (call_listR rfl) rfl T.b_list PyProof.Rows.boot_list (pa_cons (pe_callTy (r := rRng) call_rng1 rfl T.b_range PyProof.Rows.boot_range (pa_cons (pv 1) pa_nil)) pa_nil)))
    (pss_cons (ps_set (i := 3) sc_Lsome.nd rfl (Or.inl rfl) (pe_lst pa_nil))
    (pss_cons (ps_set (i := 4) sc_Lsome.nd rfl (Or.inl rfl) (pe_op op_addU (pe_op op_addU (pe_op op_fdivL (pv 1) pe_int) pe_int) (pe_cal C_Lpick hr rfl (pa_cons (pv 0) (pa_cons (pe_op op_sub (pv 1) (pe_op op_fdivL (pv 1) pe_int)) pa_nil)))))
    (pss_cons (ps_for PassesOwn.never rfl (pi_range1 rfl T.b_range (pa_cons (pe_ix (r := rIxU K) (ix_any (hu_of hr)) (pe_lst (pa_cons pe_int (pa_cons (pv 4) (pa_cons (pv 4) pa_nil)))) (pe_cal C_Lpick hr rfl (pa_cons (pv 0) (pa_cons pe_int pa_nil))) (fun _ _ => rfl)) pa_nil)) (pg_name (i := 5) sc_Lsome.nd rfl (Or.inl rfl))
      (pss_one (ps_expr (pe_bm PySem.F.plainAttrs_list PySem.F.slot_list_append PySem.F.type_list_append mt_append (pv 3) (pa_cons (pe_bm PySem.F.plainAttrs_list PySem.F.slot_list_pop PySem.F.type_list_pop mt_popAt (pv 2) (pa_cons (pe_cal C_Lpick hr rfl (pa_cons (pv 0) (pa_cons (pe_callB (r := (rLenU K)) call_lenU rfl T.b_len PySem.boot_len (pa_cons (pv 2) pa_nil)) pa_nil))) pa_nil)) pa_nil)))))
    (pss_cons (ps_if (pt_cmpR (op_eqV hr.units) (pe_cal C_Lpick hr rfl (pa_cons (pv 0) (pa_cons pe_int pa_nil))) pe_int (nomark _))
      (pss_one (ps_expr (pe_bm PySem.F.plainAttrs_list PySem.F.slot_list_append PySem.F.type_list_append mt_append (pv 3) (pa_cons (pe_ix (r := rIxU K) (ix_any (hu_of hr)) (pv 3) (pe_cal C_Lpick hr rfl (pa_cons (pv 0) (pa_cons (pe_callB (r := (rLenU K)) call_lenU rfl T.b_len PySem.boot_len (pa_cons (pv 3) pa_nil)) pa_nil))) (fun _ _ => rfl)) pa_nil)))) pss_nil)
    (pss_one (ps_ret (pv 3)))))))), io_fn (S := (b_Lsome K Cm).2) h (by decide)⟩
noncomputable abbrev t_Ldue (K : W.Frag) (Cm : Addr) [ClsI K Cm] : TS := (tSeq (tAsg (tTup (tCons (tUn (rU fun i => .int (-i)) (tC (.int 1))) (tCons (tUn (rU fun i => .int (-i)) (tC (.int 1))) (tCons (tLst tNil) tNil)))) (gName 2))
    (tSeq (tFor (iAny K (tVar 1)) (gName 3)
      (tSeq (tAsg (tOp (rIxU K) (tVar 0) (tVar 3)) (gName 4))
    (tIfS (tTest (tOp (rGtP K) (tTup (tCons (tFld K (tVar 4) "of") (tCons (tCB (rLenU K) (tCons (tFld K (tVar 4) "log") tNil)) tNil))) (tSl (rSlU K) (tVar 2) tNoPart (tPart (tC (.int 2))))))
      (tAsg (tTup (tCons (tFld K (tVar 4) "of") (tCons (tCB (rLenU K) (tCons (tFld K (tVar 4) "log") tNil)) (tCons (tCB (rListOf K) (tCons (tFld K (tVar 4) "log") tNil)) tNil)))) (gName 2)) tNext)))
    (tRet (tOp (rIxU K) (tVar 2) (tC (.int 2))))))
noncomputable def b_Ldue (K : W.Frag) (Cm : Addr) [ClsI K Cm] : {f : En → Option Fl // SS K 5 (t_Ldue K Cm) f} := ⟨_, inferInstance⟩
noncomputable def f_Ldue (K : W.Frag) (Cm : Addr) [ClsI K Cm] : En → Option Fl := (b_Ldue K Cm).1
theorem sc_Ldue : FnScope ["_law_masters", "_law_some_here", "_law_best", "_law_place", "_law_one"] ["_law_masters", "_law_some_here"] (defScope s_Ldue) := ⟨rfl, rfl, rfl, by decide +kernel, rfl, by decide +kernel, by decide +kernel⟩
noncomputable def G_Ldue (K : W.Frag) (Cm : Addr) [ClsI K Cm] : List D → Option D := bodyP 5 (f_Ldue K Cm)
theorem ok_Ldue {f : Addr} {fd : FuncData} (F : Fun K "_law_due" "_law_due" s_Ldue f fd) (T : Txt mg) : FnOk P w K mg base CX0 1 f fd ["_law_masters", "_law_some_here"] (spP K 2 (G_Ldue K Cm)) := by
  refine F.ok sc_Ldue (fun vs H Q E h => spP_len h) (fun cdv A outer s H vs Q E hr h => ?_)
  exact ⟨t_Ldue K Cm, (pss_cons (ps_set (i := 2) sc_Ldue.nd rfl (Or.inl rfl) (pe_tup (pa_cons (pe_un un_neg pe_int) (pa_cons (pe_un un_neg pe_int) (pa_cons (pe_lst pa_nil) pa_nil)))))
    (pss_cons (ps_for PassesOwn.never rfl (pi_any (pv 1)) (pg_name (i := 3) sc_Ldue.nd rfl (Or.inl rfl))
      (pss_cons (ps_set (i := 4) sc_Ldue.nd rfl (Or.inl rfl) (pe_ix (r := rIxU K) (ix_any (hu_of hr)) (pv 0) (pv 3) (fun _ _ => rfl)))
    (pss_one (ps_if (pt_cmpR (op_gtP (hu_of hr)) (pe_tup (pa_cons (pe_fldK (K := K) rfl (pv 4) rfl) (pa_cons (pe_callB (r := (rLenU K)) call_lenU rfl T.b_len PySem.boot_len (pa_cons (pe_fldK (K := K) rfl (pv 4) rfl) pa_nil)) pa_nil))) (pe_slice (r := rSlU K) sl_any (pv 2) po_none (po_some pe_int)) (nomark _))
      (pss_one (ps_set (i := 2) sc_Ldue.nd rfl (Or.inl rfl) (pe_tup (pa_cons (pe_fldK (K := K) rfl (pv 4) rfl) (pa_cons (pe_callB (r := (rLenU K)) call_lenU rfl T.b_len PySem.boot_len (pa_cons (pe_fldK (K := K) rfl (pv 4) rfl) pa_nil)) (pa_cons (pe_callTy (r := (rListOf K)) call_listOf rfl T.b_list PyProof.Rows.boot_list (pa_cons (pe_fldK (K := K) rfl (pv 4) rfl) pa_nil)) pa_nil)))))) pss_nil))))
    (pss_one (ps_ret (pe_ix (r := rIxU K) (ix_any (hu_of hr)) (pv 2) pe_int (fun _ _ => rfl)))))), pure_fn (S := (b_Ldue K Cm).2) h (by decide)⟩
noncomputable abbrev t_rank_of_log (K : W.Frag) (Cm : Addr) [ClsI K Cm] : TS := (tRet (tTup (tCons (tFld K (tVar 0) "of") (tCons (tCB (rLenU K) (tCons (tFld K (tVar 0) "log") tNil)) tNil))))
noncomputable def b_rank_of_log (K : W.Frag) (Cm : Addr) [ClsI K Cm] : {f : En → Option Fl // SS K 1 (t_rank_of_log K Cm) f} := ⟨_, inferInstance⟩
noncomputable def f_rank_of_log (K : W.Frag) (Cm : Addr) [ClsI K Cm] : En → Option Fl := (b_rank_of_log K Cm).1
theorem sc_rank_of_log : FnScope ["master"] ["master"] (defScope s_rank_of_log) := ⟨rfl, rfl, rfl, by decide +kernel, rfl, by decide +kernel, by decide +kernel⟩
noncomputable def G_rank_of_log (K : W.Frag) (Cm : Addr) [ClsI K Cm] : List D → Option D := bodyP 1 (f_rank_of_log K Cm)
theorem ok_rank_of_log {f : Addr} {fd : FuncData} (F : Fun K "rank_of_log" "rank_of_log" s_rank_of_log f fd) (T : Txt mg) : FnOk P w K mg base CX0 1 f fd ["master"] (spP K 1 (G_rank_of_log K Cm)) := by
  refine F.ok sc_rank_of_log (fun vs H Q E h => spP_len h) (fun cdv A outer s H vs Q E hr h => ?_)
  exact ⟨t_rank_of_log K Cm, (pss_one (ps_ret (pe_tup (pa_cons (pe_fldK (K := K) rfl (pv 0) rfl) (pa_cons (pe_callB (r := (rLenU K)) call_lenU rfl T.b_len PySem.boot_len (pa_cons (pe_fldK (K := K) rfl (pv 0) rfl) pa_nil)) pa_nil))))), pure_fn (S := (b_rank_of_log K Cm).2) h (by decide)⟩
noncomputable abbrev t_next_log (K : W.Frag) (Cm : Addr) [ClsI K Cm] : TS := (tSeq (tAsg (tMaxK K (spP K 1 (G_rank_of_log K Cm)) (tCons (tLC (iAny K (tVar 1)) (gName 0) tTrue (tOp (rIxU K) (tVar 1) (tVar 0)) [none, some 0]) tNil)) (gName 2))
    (tRet (tCall (spP K 1 (G_own_copy K Cm)) [] E0 (tCons (tFld K (tVar 2) "log") tNil))))
noncomputable def b_next_log (K : W.Frag) (Cm : Addr) [ClsI K Cm] : {f : En → Option Fl // SS K 3 (t_next_log K Cm) f} := ⟨_, inferInstance⟩
noncomputable def f_next_log (K : W.Frag) (Cm : Addr) [ClsI K Cm] : En → Option Fl := (b_next_log K Cm).1
theorem sc_next_log : FnScope ["masters", "some", "greatest"] ["masters", "some"] (defScope s_next_log) := ⟨rfl, rfl, rfl, by decide +kernel, rfl, by decide +kernel, by decide +kernel⟩
noncomputable def G_next_log (K : W.Frag) (Cm : Addr) [ClsI K Cm] : List D → Option D := bodyP 3 (f_next_log K Cm)
theorem ok_next_log {f : Addr} {fd : FuncData} (F : Fun K "next_log" "next_log" s_next_log f fd) (T : Txt mg) (C_rank_of_log : Cal P w K mg base "rank_of_log" ["master"] 1 (spP K 1 (G_rank_of_log K Cm))) (C_own_copy : Cal P w K mg base "own_copy" ["value"] 4 (spP K 1 (G_own_copy K Cm))) : FnOk P w K mg base CX0 6 f fd ["masters", "some"] (spP K 2 (G_next_log K Cm)) := by
  refine F.ok sc_next_log (fun vs H Q E h => spP_len h) (fun cdv A outer s H vs Q E hr h => ?_)
  exact ⟨t_next_log K Cm, (pss_cons (ps_set (i := 2) sc_next_log.nd rfl (Or.inl rfl) (pe_maxK C_rank_of_log hr rfl rfl T.b_max rfl (pa_cons (pe_lc [none, some 0] ["place", "masters"] rfl (capOf ⟨⟨rfl, rfl, .inl rfl⟩, trivial⟩) (pi_any (pv 1)) (fun _ _ _ _ _ _ => (pg_name (i := 0) (by decide +kernel : (["place", "masters"] : List Str).Nodup) rfl (Or.inl rfl))) (fun _ _ _ _ _ _ => pifs_nil) (fun _ _ _ _ _ _ => (pe_ix (r := rIxU K) (ix_any (hu_of hr)) (pv 1) (pv 0) (fun _ _ => rfl)))) pa_nil)))
    (pss_one (ps_ret (pe_cal C_own_copy hr rfl (pa_cons (pe_fldK (K := K) rfl (pv 2) rfl) pa_nil))))), pure_fn (S := (b_next_log K Cm).2) h (by decide)⟩
end
end K30
namespace K30
open PySem L2 VL
section
variable {P : Program} {w : World} {K : W.Frag} {mg : Str → Option Value} {base : Heap} {Cm : Addr} [ClsI K Cm]
noncomputable abbrev t_law (K : W.Frag) (Cm : Addr) [ClsI K Cm] : TS := (tSeq (tFor (iRng1 (tCons (tCB rMax2 (tCons (tC (.int 1)) (tCons (tCB rMin2 (tCons (tCB (rLenU K) (tCons (tVar 0) tNil)) (tCons (tC (.int 10)) tNil))) tNil))) tNil)) (gName 1)
      (tSeq (tAsg (tCall (spP K 2 (G_Lleft K Cm)) [] E0 (tCons (tVar 0) (tCons (tVar 1) tNil))) (gName 2))
    (tSeq (tAsg (tOp (rAddU K) (tC (.int 1)) (tCall (spI K [true, false] (G_Lpick K Cm)) [] E0 (tCons (tVar 2) (tCons (tC (.int 7)) tNil)))) (gName 3))
    (tSeq (tAsg (tCall (spI K [true, false] (G_Lmade K Cm)) [] E0 (tCons (tVar 2) (tCons (tVar 3) tNil))) (gName 4))
    (tSeq (tAsg (tLC (iAny K (tVar 4)) (gName 0) tTrue (tCall (spP K 1 (G_Lfields K Cm)) [] E0 (tCons (tVar 0) tNil)) [none]) (gName 5))
    (tSeq (tFor (iRng1 (tCons (tC (.int 3)) tNil)) (gName 6)
      (tSeq (tAsg (tCall (spI K [true, false] (G_Lsome K Cm)) [] E0 (tCons (tVar 2) (tCons (tVar 3) tNil))) (gName 7))
    (tSeq (tAsg (tCB (rListOf K) (tCons (tVar 7) tNil)) (gName 8))
    (tSeq (tAsg (tCall (spP K 2 (G_Ldue K Cm)) [] E0 (tCons (tVar 4) (tCons (tVar 7) tNil))) (gName 9))
    (tSeq (tAsg (tCall (spP K 2 (G_next_log K Cm)) [] E0 (tCons (tVar 4) (tCons (tVar 8) tNil))) (gName 10))
    (tSeq (tIfS (tOr (tNot (tB (tCB (rIsi K "list") (tCons (tVar 10) (tCons (tC (.ty "list")) tNil))))) (tOr (tTest (tOp (rNeD K) (tVar 10) (tVar 9))) (tTest (tOp (rNeD K) (tVar 8) (tVar 7)))))
      (tRet (tC (.bl false))) tNext)
    (tSeq (tDrop (tBM K "list" rAppend (tVar 10) (tCons (tTup (tCons (tC (.str "row")) (tCons (tC (.int 99)) tNil))) tNil)))
    (tIfS (tTest (tOp (rNeD K) (tCall (spP K 2 (G_next_log K Cm)) [] E0 (tCons (tVar 4) (tCons (tVar 8) tNil))) (tVar 9)))
      (tRet (tC (.bl false))) tNext))))))))
    (tIfS (tTest (tOp (rNeD K) (tLC (iAny K (tVar 4)) (gName 0) tTrue (tCall (spP K 1 (G_Lfields K Cm)) [] E0 (tCons (tVar 0) tNil)) [none]) (tVar 5)))
      (tRet (tC (.bl false))) tNext)))))))
    (tRet (tC (.bl true))))
noncomputable def b_law (K : W.Frag) (Cm : Addr) [ClsI K Cm] : {f : En → Option Fl // SS K 11 (t_law K Cm) f} := ⟨_, inferInstance⟩
noncomputable def f_law (K : W.Frag) (Cm : Addr) [ClsI K Cm] : En → Option Fl := (b_law K Cm).1
theorem sc_law : FnScope ["_law_script", "_law_k", "_law_left_here", "_law_many", "_law_masters", "_law_ahead", "_law_turn", "_law_some_here", "_law_handed", "_law_due_here", "_law_found"] ["_law_script"] (defScope s_law) := ⟨rfl, rfl, rfl, by decide +kernel, rfl, by decide +kernel, by decide +kernel⟩
noncomputable def G_law (K : W.Frag) (Cm : Addr) [ClsI K Cm] : List D → Option D := bodyP 11 (f_law K Cm)
theorem ok_law {f : Addr} {fd : FuncData} (F : Fun K "law" "law" s_law f fd) (T : Txt mg) (C_Lleft : Cal P w K mg base "_law_left" ["_law_script", "_law_k"] 3 (spP K 2 (G_Lleft K Cm))) (C_Lpick : Cal P w K mg base "_law_pick" ["_law_left_here", "_law_many"] 1 (spI K [true, false] (G_Lpick K Cm))) (C_Lmade : Cal P w K mg base "_law_made" ["_law_left_here", "_law_many"] 11 (spI K [true, false] (G_Lmade K Cm))) (C_Lfields : Cal P w K mg base "_law_fields" ["_law_one"] 1 (spP K 1 (G_Lfields K Cm))) (C_Lsome : Cal P w K mg base "_law_some" ["_law_left_here", "_law_many"] 2 (spI K [true, false] (G_Lsome K Cm))) (C_Ldue : Cal P w K mg base "_law_due" ["_law_masters", "_law_some_here"] 1 (spP K 2 (G_Ldue K Cm))) (C_next_log : Cal P w K mg base "next_log" ["masters", "some"] 6 (spP K 2 (G_next_log K Cm))) : FnOk P w K mg base CX0 13 f fd ["_law_script"] (spP K 1 (G_law K Cm)) := by
  refine F.ok sc_law (fun vs H Q E h => spP_len h) (fun cdv A outer s H vs Q E hr h => ?_)
  exact ⟨t_law K Cm, (pss_cons (ps_for PassesOwn.never rfl (pi_range1 rfl T.b_range (pa_cons (pe_callB (r := rMax2) (call_max2' rfl) rfl T.b_max PyProof.Rows.boot_max (pa_cons pe_int (pa_cons (pe_callB (r := rMin2) (call_min2' rfl) rfl T.b_min PyProof.Rows.boot_min (pa_cons (pe_callB (r := (rLenU K)) call_lenU rfl T.b_len PySem.boot_len (pa_cons (pv 0) pa_nil)) (pa_cons pe_int pa_nil))) pa_nil))) pa_nil)) (pg_name (i := 1) sc_law.nd rfl (Or.inl rfl))
      (pss_cons (ps_set (i := 2) sc_law.nd rfl (Or.inl rfl) (pe_cal C_Lleft hr rfl (pa_cons (pv 0) (pa_cons (pv 1) pa_nil))))
    (pss_cons (ps_set (i := 3) sc_law.nd rfl (Or.inl rfl) (pe_op op_addU pe_int (pe_cal C_Lpick hr rfl (pa_cons (pv 2) (pa_cons pe_int pa_nil)))))
    (pss_cons (ps_set (i := 4) sc_law.nd rfl (Or.inl rfl) (pe_cal C_Lmade hr rfl (pa_cons (pv 2) (pa_cons (pv 3) pa_nil))))
    (pss_cons (ps_setC (k := 5) [none] ["_law_one"] rfl (capOf trivial) sc_law.nd rfl (Or.inl rfl) (pi_any (pv 4)) (fun _ _ _ _ _ _ => (pg_name (i := 0) nd1 rfl (Or.inl rfl))) (fun _ _ _ _ _ _ => pifs_nil) (fun _ _ _ _ _ _ => (pe_cal C_Lfields hr rfl (pa_cons (pv 0) pa_nil))))
    (pss_cons (ps_for PassesOwn.never rfl (pi_range1 rfl T.b_range (pa_cons pe_int pa_nil)) (pg_name (i := 6) sc_law.nd rfl (Or.inl rfl))
      (pss_cons (ps_set (i := 7) sc_law.nd rfl (Or.inl rfl) (pe_cal C_Lsome hr rfl (pa_cons (pv 2) (pa_cons (pv 3) pa_nil))))
    (pss_cons (ps_set (i := 8) sc_law.nd rfl (Or.inl rfl) (pe_callTy (r := (rListOf K)) call_listOf rfl T.b_list PyProof.Rows.boot_list (pa_cons (pv 7) pa_nil)))
    (pss_cons (ps_set (i := 9) sc_law.nd rfl (Or.inl rfl) (pe_cal C_Ldue hr rfl (pa_cons (pv 4) (pa_cons (pv 7) pa_nil))))
    (pss_cons (ps_set (i := 10) sc_law.nd rfl (Or.inl rfl) (pe_cal C_next_log hr rfl (pa_cons (pv 4) (pa_cons (pv 8) pa_nil))))
    (pss_cons (ps_if (PW.pt (pw_or (pt_not (pt_val (pe_callB (r := rIsi K "list") call_isi rfl T.b_isinstance PyProof.Rows.boot_isinstance (pa_cons (pv 10) (pa_cons (pe_bltn (v := .ty "list") rfl T.b_list PyProof.Rows.boot_list rfl) pa_nil))))) (pw_or (pt_cmpR (op_neV hr.units) (pv 10) (pv 9) (nomark _)) (pw_or1 (pt_cmpR (op_neV hr.units) (pv 8) (pv 7) (nomark _))))))
      (pss_one (ps_ret pe_bl)) pss_nil)
    (pss_cons (ps_expr (pe_bm PySem.F.plainAttrs_list PySem.F.slot_list_append PySem.F.type_list_append mt_append (pv 10) (pa_cons (pe_tup (pa_cons pe_str (pa_cons pe_int pa_nil))) pa_nil)))
    (pss_one (ps_if (pt_cmpR (op_neV hr.units) (pe_cal C_next_log hr rfl (pa_cons (pv 4) (pa_cons (pv 8) pa_nil))) (pv 9) (nomark _))
      (pss_one (ps_ret pe_bl)) pss_nil)))))))))
    (pss_one (ps_if (pt_cmpR (op_neV hr.units) (pe_lc [none] ["_law_one"] rfl (capOf trivial) (pi_any (pv 4)) (fun _ _ _ _ _ _ => (pg_name (i := 0) nd1 rfl (Or.inl rfl))) (fun _ _ _ _ _ _ => pifs_nil) (fun _ _ _ _ _ _ => (pe_cal C_Lfields hr rfl (pa_cons (pv 0) pa_nil)))) (pv 5) (nomark _))
      (pss_one (ps_ret pe_bl)) pss_nil))))))))
    (pss_one (ps_ret pe_bl))), pure_fn (S := (b_law K Cm).2) h (by decide)⟩
end
end K30
namespace K30
open PySem L2 VL
variable {K : W.Frag} {C : Addr} [ClsI K C]
theorem cell_at_ok (cs : List Int) (k : Nat) : ∃ c : Int, G_Lcell_at K C [scr cs, iD k] = some (iD c) := by
  by_cases h : k < cs.length
  · exact ⟨cs[k], by simp [G_Lcell_at, f_Lcell_at, b_Lcell_at, scr, h, bD, bodyP, consA, dVar, dkPos, ifF, int0, ixD, ixN, ixS, ixU, ixV, keyOf, kidD, lenD, op2, VL.plain, plainM, retF, seqF, thenF]⟩
  · exact ⟨0, by simp [G_Lcell_at, f_Lcell_at, b_Lcell_at, scr, h, bD, bodyP, consA, dVar, dkPos, ifF, int0, ixD, ixN, ixS, ixU, ixV, keyOf, lenD, op2, plainM, retF, seqF, thenF]⟩
theorem mix_ok (c k : Int) (hk : 0 ≤ k ∧ k < 2 ^ 30) : ∃ m : Int, 0 ≤ m ∧ m < 1999999973 ∧ G_Lmix K C [iD c, iD k] = some (iD m) := by
  let m := ((c % 2147483629 + k * k * 7919 + 11) * 48271 % 2147483647)
  have hm : 0 ≤ m ∧ m < 2147483647 := ⟨Int.emod_nonneg _ (by decide), Int.emod_lt_of_pos _ (by decide)⟩
  refine ⟨m * m % 1999999973, Int.emod_nonneg _ (by decide), Int.emod_lt_of_pos _ (by decide), ?_⟩
  have k1 : -18446744073709551616 < k ∧ k < 18446744073709551616 := by omega
  have m1 : -18446744073709551616 < m ∧ m < 18446744073709551616 := by omega
  have m2 : -18446744073709551616 < (c % 2147483629 + k * k * 7919 + 11) * 48271 % 2147483647 ∧ (c % 2147483629 + k * k * 7919 + 11) * 48271 % 2147483647 < 18446744073709551616 := m1
  simp [G_Lmix, f_Lmix, b_Lmix, k1, m2, m, addV, addD, asgM, bD, bindE, bodyP, dVar, intD, op2, retF, seqF, thenF, CMul, unroot_nil, unroot_ro, unroot_none]
theorem pick1 (c m : Int) (hm : 0 < m) (h2 : m < 2 ^ 200) : G_Lpick K C [.nd .lst [iD c], iD m] = some (iD (c % m), [.nd .lst [iD (c / m)]]) := by
  have h3 : m < 1606938044258990275541962092341162602522202993782792835301376 := h2
  simp [G_Lpick, f_Lpick, b_Lpick, eq0, hm, h3, allOwn, andT, asgM, bD, bindE, bodyI, consA, dVar, dkPos, editE, envI, getP, ifF, int0, intD, ioL, ixD, ixN, ixS, ixU, ixV, keyOf, kidD, lenD, lstEd, mvVar, nodeAt, op2, owns, parB, plVar, VL.plain, popF, prune, pruneB, retF, rootD, seqF, setF, setIx, setP, thenF, CDivL, unroot_nil, unroot_own, unroot_ro, unroot_none, unroot_ali]
theorem pick2 (c r m : Int) (hm : 0 < m) (h2 : m < 2 ^ 200) : ∃ d l, 0 ≤ d ∧ d < m ∧ (∃ x y, l = [iD x] ∨ l = [iD x, iD y]) ∧ G_Lpick K C [.nd .lst [iD c, iD r], iD m] = some (iD d, [.nd .lst l]) := by
  have h3 : m < 1606938044258990275541962092341162602522202993782792835301376 := h2
  by_cases h : c = 0
  · subst h
    refine ⟨r % m, [iD (r / m)], Int.emod_nonneg _ (by omega), Int.emod_lt_of_pos _ hm, ⟨_, 0, .inl rfl⟩, ?_⟩
    simp [G_Lpick, f_Lpick, b_Lpick, eq0, hm, h3, allOwn, andT, asgM, bD, bindE, bodyI, consA, dVar, dkPos, editE, envI, getP, ifF, int0, intD, ioL, ixD, ixN, ixS, ixU, ixV, keyOf, kidD, lenD, lstEd, mvVar, nodeAt, op2, owns, parB, plVar, VL.plain, popF, prune, pruneB, retF, rootD, seqF, setF, setIx, setP, thenF, CDivL, unroot_nil, unroot_own, unroot_ro, unroot_none, unroot_ali]
  · refine ⟨c % m, [iD (c / m), iD r], Int.emod_nonneg _ (by omega), Int.emod_lt_of_pos _ hm, ⟨_, _, .inr rfl⟩, ?_⟩
    simp [G_Lpick, f_Lpick, b_Lpick, eq0, hm, h3, h, allOwn, andT, asgM, bD, bindE, bodyI, consA, dVar, dkPos, editE, envI, getP, ifF, int0, intD, ioL, ixD, ixN, ixS, ixU, ixV, keyOf, kidD, lenD, lstEd, mvVar, nodeAt, op2, owns, parB, plVar, VL.plain, popF, prune, pruneB, retF, rootD, seqF, setF, setIx, setP, thenF, CDivL, unroot_nil, unroot_own, unroot_ro, unroot_none, unroot_ali]
theorem rich_ok (c : Int) (k : Nat) (hk : k < 2 ^ 20) : ∃ r : Int, G_Lrich K C [iD c, iD k] = some (iD r) := by
  have key : ∃ d, G_Lrich K C [iD c, iD k] = some d ∧ ∃ r, d = iD r := by
    unfold G_Lrich f_Lrich b_Lrich
    dsimp only
    refine bodyP_ev (Ev.nx (ρ' := [some (.ro (iD c)), some (.ro (iD k)), some (.own (iD 0)), none]) (by simp [List.replicate, asgM, bindE, unroot_nil, unroot_ro, unroot_none]) (Ev.seq ?_))
    refine Ev.for (ds := rngD 0 12) (by simp [rng1, consA]) (fun ρ => ∃ (nu : Int) (x : Option B), NA x ∧ ρ = [some (.ro (iD c)), some (.ro (iD k)), some (.own (iD nu)), x]) ⟨0, none, (fun _ _ h => by cases h), rfl⟩ ?_ ?_
    · rintro d hd ρ ⟨nu, x, hx, rfl⟩
      obtain ⟨j, hj, rfl⟩ := mem_rng hd
      obtain ⟨m1, a1, a2, e1⟩ := mix_ok (K := K) (C := C) c (k + 20 * j) (by omega)
      obtain ⟨m2, b1, b2, e2⟩ := mix_ok (K := K) (C := C) m1 j (by omega)
      have z : (0 : Int) + j = j := Int.zero_add _
      rw [z]
      simp [Ev, unroot_na hx, e1, e2, addV, addD, asgM, bD, bindE, consA, dVar, intD, mvVar, op2, retF, CMul, unroot_nil, unroot_own, unroot_ro]
      exact (fun _ _ h => by cases h)
    · rintro ρ ⟨nu, x, hx, rfl⟩
      simp [Ev, bD, dVar, mvVar, VL.plain, retF]
  obtain ⟨d, e, r, rfl⟩ := key
  exact ⟨r, e⟩
theorem left_ok (cs : List Int) (k : Nat) (hk : k < 2 ^ 20) : ∃ l : List D, Lp l ∧ G_Lleft K C [scr cs, iD k] = some (.nd .lst l) := by
  obtain ⟨c, e1⟩ := cell_at_ok (K := K) (C := C) cs k
  obtain ⟨r, e2⟩ := rich_ok (K := K) (C := C) c k hk
  by_cases h : 1000000000000000000 ≤ c
  · refine ⟨[iD c, iD r], ⟨c, r, .inr rfl⟩, ?_⟩
    simp [G_Lleft, f_Lleft, b_Lleft, e1, e2, h, asgM, bD, bindE, bodyP, consA, consM, dVar, ifF, int0, intD, lstM, mvVar, op2, VL.plain, retF, seqF, thenF, CPow, unroot_nil, unroot_ro, unroot_none, sl2]
  · refine ⟨[iD r], ⟨r, 0, .inl rfl⟩, ?_⟩
    simp [G_Lleft, f_Lleft, b_Lleft, e1, e2, h, asgM, bD, bindE, bodyP, consA, consM, dVar, ifF, int0, intD, lstM, mvVar, op2, retF, seqF, thenF, CPow, unroot_nil, unroot_ro, unroot_none, sl1]
theorem pick_ok (l : List D) (hl : Lp l) (m : Int) (hm : 0 < m) (h2 : m < 2 ^ 200) : ∃ (d : Int) (l' : List D), 0 ≤ d ∧ d < m ∧ Lp l' ∧ G_Lpick K C [.nd .lst l, iD m] = some (iD d, [.nd .lst l']) := by
  obtain ⟨x, y, rfl | rfl⟩ := hl
  · exact ⟨_, _, Int.emod_nonneg _ (by omega), Int.emod_lt_of_pos _ hm, ⟨_, 0, .inl rfl⟩, pick1 x m hm h2⟩
  · obtain ⟨d, l, a, b, ⟨p, q, e⟩, g⟩ := pick2 (K := K) (C := C) x y m hm h2
    exact ⟨d, l, a, b, ⟨p, q, e⟩, g⟩
end K30
namespace K30
open PySem L2 VL
variable {K : W.Frag} {C : Addr} [ClsI K C]
theorem init_ok (nu ma : Int) (hn : ∀ f ∈ fns, NoAttr K C f) : G_Master_init K C [.nd (.obj C []) [], iD nu, iD ma] = some (.sc .non, [mD C nu ma 0 0 [] 0 "hears" (.nd (.dic []) []) (.nd (.dic []) [])]) := by
  have h : NoAttr K C "number" ∧ NoAttr K C "many" ∧ NoAttr K C "term" ∧ NoAttr K C "of" ∧ NoAttr K C "log" ∧ NoAttr K C "done" ∧ NoAttr K C "role" ∧ NoAttr K C "voices" ∧ NoAttr K C "sizes" ∧ NoAttr K C "fixed" := by
    simpa [fns] using hn
  obtain ⟨h1, h2, h3, h4, h5, h6, h7, h8, h9, h10⟩ := h
  simp [G_Master_init, f_Master_init, b_Master_init, h1, h2, h3, h4, h5, h6, h7, h8, h9, h10, mD, fns, sne_many_number, sne_term_number, sne_term_many, sne_of_number, sne_of_many, sne_of_term, sne_log_number, sne_log_many, sne_log_term, sne_log_of, sne_done_number, sne_done_many, sne_done_term, sne_done_of, sne_done_log, sne_role_number, sne_role_many, sne_role_term, sne_role_of, sne_role_log, sne_role_done, sne_voices_number, sne_voices_many, sne_voices_term, sne_voices_of, sne_voices_log, sne_voices_done, sne_voices_role, sne_sizes_number, sne_sizes_many, sne_sizes_term, sne_sizes_of, sne_sizes_log, sne_sizes_done, sne_sizes_role, sne_sizes_voices, sne_fixed_number, sne_fixed_many, sne_fixed_term, sne_fixed_of, sne_fixed_log, sne_fixed_done, sne_fixed_role, sne_fixed_voices, sne_fixed_sizes, allOwn, bD, bodyI, dVar, editE, envI, fldF, fldPut, getP, ioL, lstM, mvVar, nodeAt, owns, parB, plVar, VL.plain, posF, prune, pruneB, rootD, seqF, setP, thenF]
theorem fields_ok (nu ma te o : Int) (L : List D) (dn : Int) (role : Str) (vo si : D) (hL : Rws L) : G_Lfields K C [mD C nu ma te o L dn role vo si] = some (fD nu ma te o L dn role) := by
  have hp := hL.plain
  unfold fD
  simp [G_Lfields, f_Lfields, b_Lfields, mD, fns, hp, sne_many_number, sne_term_number, sne_term_many, sne_of_number, sne_of_many, sne_of_term, sne_log_number, sne_log_many, sne_log_term, sne_log_of, sne_done_number, sne_done_many, sne_done_term, sne_done_of, sne_done_log, sne_role_number, sne_role_many, sne_role_term, sne_role_of, sne_role_log, sne_role_done, bD, bodyP, consA, consM, dVar, fldD, fldI, kidD, listD, VL.plain, plainM, posF, retF, tupM, sl7]
theorem isf_row {r : D} (h : RowD r) : H_is_fixed K C 2 [r] = some (tD true) := by
  cases h <;> simp [lcF, H_is_fixed, f_is_fixed, b_is_fixed, isiB, compD, allD, bD, bindE, blsOf, bodyP, capE, consA, dVar, ifF, isiB, isiD, isiTD, itemsD, ndQ, VL.plain, plainM, retF, seqF, thenF, tyN, tysOf, clNames, unroot_nil, unroot_none, sl2, sl3]
theorem bls_true : ∀ (L : List D), blsOf (L.map fun _ => tD true) = some (L.map fun _ => true)
  | [] => by simp [blsOf]
  | _ :: L => by
    rw [List.map_cons, List.map_cons, blsOf, bls_true L]
    rfl
theorem all_true (L : List D) : allD [.nd .lst (L.map fun _ => tD true)] = some (tD true) := by
  simp only [allD, bls_true]
  simp
theorem isf_lc (L : List D) (hL : Rws L) (h : L.length ≤ 100) : lcF 1 [none] [0] (fun ρ => (dVar 0 ρ).bind itemsD) (fun d ρ => some (bindE 0 (B.ro d) ρ)) (fun x => some true) (fun ρ => (consA (dVar 0) (fun x => some []) ρ).bind fun ds => if ds.length = 1 then H_is_fixed K C 2 ds else none) [some (.ro (.nd .tup L))] = some (.nd .lst (L.map fun _ => tD true)) := by
  have h3 : L.length ≤ sizeLine := Nat.le_trans h (by decide)
  rw [lcF_map (n := 1) (js := [none]) (is := [0]) (fi := fun ρ => (dVar 0 ρ).bind itemsD) (fg := fun d ρ => some (bindE 0 (B.ro d) ρ)) (ft := fun x => some true) (fe := fun ρ => (consA (dVar 0) (fun x => some []) ρ).bind fun ds => if ds.length = 1 then H_is_fixed K C 2 ds else none) (ρ := [some (.ro (.nd .tup L))]) L id (fun _ => true) (fun _ => tD true) ?_ h3 rfl ?_, List.filter_eq_self.mpr (fun _ _ => rfl)]
  · simp [bD, dVar, itemsD]
  · intro r hr
    have hr := isf_row (K := K) (C := C) (hL r hr)
    simp [hr, bD, bindE, capE, consA, dVar, unroot_nil, unroot_none]
theorem isf_ok (L : List D) (hL : Rws L) (h : L.length ≤ 100) : G_is_fixed K C [.nd .tup L] = some (tD true) := by
  have e := isf_lc (K := K) (C := C) L hL h
  have e2 := all_true L
  unfold G_is_fixed
  show bodyP _ (f_is_fixed K C (H_is_fixed K C 2)) _ = _
  unfold f_is_fixed b_is_fixed
  dsimp only
  generalize (lcF 1 [none] [0] (fun ρ => (dVar 0 ρ).bind itemsD) (fun d ρ => some (bindE 0 (B.ro d) ρ)) (fun x => some true) (fun ρ => (consA (dVar 0) (fun x => some []) ρ).bind fun ds => if ds.length = 1 then H_is_fixed K C 2 ds else none)) = F at e ⊢
  simp [e, e2, isiB, bD, bodyP, consA, dVar, ifF, isiB, isiD, ndQ, retF, seqF, thenF, tyN, clNames, sl2]
theorem behind_ok (nu ma te o : Int) (L R : List D) (dn : Int) (role : Str) (vo si : D) (hL : Rws L) (hR : Rws R) (h : L.length + R.length ≤ 100) : G_take_behind K C [mD C nu ma te o L dn role vo si, .nd .tup R] = some (.sc .non, [mD C nu ma te o (L ++ R) dn role vo si]) := by
  have hf := isf_ok (K := K) (C := C) R hR (by omega)
  have h3 : L.length + R.length ≤ sizeLine := Nat.le_trans h (by decide)
  have p1 := hL.plain
  have p2 := hR.plain
  have p3 := (hL.app hR).plain
  simp [G_take_behind, f_take_behind, b_take_behind, mD, fns, sne_log_number, sne_log_many, sne_log_term, sne_log_of, sne_fixed_number, sne_fixed_many, sne_fixed_term, sne_fixed_of, sne_fixed_log, sne_fixed_done, sne_fixed_role, sne_fixed_voices, sne_fixed_sizes, hf, p2, p3, h3, addD, allOwn, asgM, bD, bindE, bodyI, consA, dVar, editE, envI, fldD, fldF, fldI, fldPut, getP, ifV, ioL, kidD, listD, nodeAt, op2, owns, parB, plVar, VL.plain, plainM, posF, prune, pruneB, rootD, seqF, setP, thenF, unroot_nil, unroot_own, unroot_ro, unroot_none, unroot_ali]
end K30
namespace K30
open PySem L2 VL
variable {K : W.Frag} {C : Addr} [ClsI K C]
theorem take_new (nu ma te o : Int) (R : List D) (dn : Int) (role : Str) (vo si : D) (hR : Rws R) (h : R.length ≤ 100) : G_take_rows K C [mD C nu ma te o [] dn role vo si, .nd .tup R] = some (.sc .non, [mD C nu ma te o R dn role vo si]) := by
  have c1 : cutD R none (some 0) = [] := by unfold cutD; simp [HT.sIx]
  have c2 : cutD R (some 0) none = R := by unfold cutD; simp [HT.sIx]
  have hne : eqP (!·) (.nd .tup []) (.nd .tup []) = some (tD false) := ne_same (Rws.nil.gd.tup.mono (by decide))
  have hb := behind_ok (K := K) (C := C) nu ma te o [] R dn role vo si Rws.nil hR (by simpa using h)
  have h3 : R.length ≤ sizeLine := Nat.le_trans h (by decide)
  have p1 := hR.plain
  rw [List.nil_append] at hb
  simp only [mD, fns] at hb ⊢
  simp [G_take_rows, f_take_rows, b_take_rows, sne_log_number, sne_log_many, sne_log_term, sne_log_of, p1, c1, c2, hne, hb, allOwn, apartP, arD, arDs, arIos, asgM, bD, bindE, bodyI, cIo, cTm, callR, consA, dVar, dropF, editE, envI, finE, fldD, fldF, fldI, fldPut, getP, holeE, ifF, ioL, kidD, lenD, lstM, nodeAt, op2, owns, parB, plVar, plainL, posF, prune, pruneB, putE, rootD, rootsApart, rvOk, seqF, setP, slD, slF, thenF, toInt, tupD, unroot_nil, unroot_own, unroot_ro, unroot_none, unroot_ali]
theorem keep_new (nu ma sn t : Int) (R : List D) (role : Str) (vo si : D) (ht : 0 < t) (hR : Rws R) (h : R.length ≤ 100) : G_hear_keep K C [mD C nu ma 0 0 [] 0 role vo si, iD sn, iD t, .nd .tup R, iD 0] = some (.nd .lst [.nd .tup [sD "kept", iD nu, iD sn, iD t, iD R.length]], [mD C nu ma t t R 0 "hears" vo si]) := by
  have hb := take_new (K := K) (C := C) nu ma t 0 R 0 "hears" vo si hR h
  have h0 : ¬ t < 0 := by omega
  have h3 : R.length ≤ sizeLine := Nat.le_trans h (by decide)
  have p1 := hR.plain
  simp only [mD, fns] at hb ⊢
  simp [G_hear_keep, f_hear_keep, b_hear_keep, sne_term_number, sne_term_many, sne_of_number, sne_of_many, sne_of_term, sne_log_number, sne_log_many, sne_log_term, sne_log_of, sne_done_number, sne_done_many, sne_done_term, sne_done_of, sne_done_log, sne_role_number, sne_role_many, sne_role_term, sne_role_of, sne_role_log, sne_role_done, p1, hb, h0, ht, allOwn, apartP, arD, arDs, arIos, bD, bodyI, cIo, cRv, callR, consA, consM, dVar, dropF, editE, envI, finE, fldD, fldF, fldI, fldPut, getP, holeE, ifF, int0, int2D, ioL, kidD, lenD, lstM, mvVar, nodeAt, op2, orT, owns, parB, plD, plVar, VL.plain, plainM, posF, prune, pruneB, putE, retF, rootD, rootsApart, rvOk, seqF, setP, thenF, tupM, sl1, sl5]
  intro _ h9
  exfalso
  omega
theorem hear_k (nu sn t : Int) (R : List D) (M ans x : D) (hR : Rws R) (hv : G_hear_keep K C [M, iD sn, iD t, .nd .tup R, iD 0] = some (ans, [x])) : G_Master_hear K C [M, .nd .tup [sD "keep", iD sn, iD nu, iD t, .nd .tup R, iD 0]] = some (ans, [x]) := by
  have h1 := eqS "keep" "stand" (by decide +kernel) (by decide +kernel)
  have h2 := eqS "keep" "voice" (by decide +kernel) (by decide +kernel)
  have h3 := eqS "keep" "keep" (by decide +kernel) (by decide +kernel)
  have d1 : decide (Str.ofString "keep" = Str.ofString "stand") = false := by decide +kernel
  have d2 : decide (Str.ofString "keep" = Str.ofString "voice") = false := by decide +kernel
  have hp := hR.plain
  rw [d1] at h1
  rw [d2] at h2
  rw [decide_eq_true rfl] at h3
  simp [G_Master_hear, f_Master_hear, b_Master_hear, h1, h2, h3, hp, hv, allOwn, apartP, arD, arDs, arIos, bD, bodyI, cIo, cRv, callR, dVar, dkPos, envI, finE, getP, holeE, ifF, ioL, ixD, ixN, ixP, ixS, ixU, ixV, keyOf, kidD, op2, owns, parB, plD, plKid, plVar, VL.plain, prune, pruneB, putE, retF, rootD, rootsApart, rvOk, seqF, setP, thenF]
theorem hear_new (nu ma sn t : Int) (R : List D) (role : Str) (vo si : D) (ht : 0 < t) (hR : Rws R) (h : R.length ≤ 100) : G_Master_hear K C [mD C nu ma 0 0 [] 0 role vo si, .nd .tup [sD "keep", iD sn, iD nu, iD t, .nd .tup R, iD 0]] = some (.nd .lst [.nd .tup [sD "kept", iD nu, iD sn, iD t, iD R.length]], [mD C nu ma t t R 0 "hears" vo si]) :=
  hear_k nu sn t R _ _ _ hR (keep_new nu ma sn t R role vo si ht hR h)
end K30
namespace K30
open PySem L2 VL
variable {K : W.Frag} {C : Addr} [ClsI K C]
theorem copy_row {r : D} (h : RowD r) : H_own_copy K C 2 [r] = some r := by
  cases h <;> simp [lcF, H_own_copy, f_own_copy, b_own_copy, isiB, compD, bD, bindE, bodyP, capE, consA, dVar, ifF, isiB, isiD, itemsD, mvVar, VL.plain, plainL, retF, seqF, thenF, tupD, tyN, clNames, unroot_nil, unroot_none, sl2, sl3]
theorem copy_ok (R : List D) (hR : Rws R) (h : R.length ≤ 100) : G_own_copy K C [.nd .lst R] = some (.nd .lst R) := by
  have h3 : R.length ≤ sizeLine := Nat.le_trans h (by decide)
  have e : lcF 1 [none] [0] (fun ρ => (dVar 0 ρ).bind itemsD) (fun d ρ => some (bindE 0 (B.ro d) ρ)) (fun x => some true) (fun ρ => (consA (dVar 0) (fun x => some []) ρ).bind fun ds => if ds.length = 1 then H_own_copy K C 2 ds else none) [some (.ro (.nd .lst R))] = some (.nd .lst R) := by
    have e := lcF_map (n := 1) (js := [none]) (is := [0]) (fi := fun ρ => (dVar 0 ρ).bind itemsD) (fg := fun d ρ => some (bindE 0 (B.ro d) ρ)) (ft := fun x => some true) (fe := fun ρ => (consA (dVar 0) (fun x => some []) ρ).bind fun ds => if ds.length = 1 then H_own_copy K C 2 ds else none) (ρ := [some (.ro (.nd .lst R))]) R id (fun _ => true) id ?_ h3 rfl ?_
    · rw [List.filter_eq_self.mpr (fun _ _ => rfl), List.map_id] at e
      exact e
    · simp [bD, dVar, itemsD]
    · intro r hr
      have hr := copy_row (K := K) (C := C) (hR r hr)
      simp [hr, bD, bindE, capE, consA, dVar, unroot_nil, unroot_none]
  unfold G_own_copy
  show bodyP _ (f_own_copy K C (H_own_copy K C 2)) _ = _
  unfold f_own_copy b_own_copy
  dsimp only
  generalize (lcF 1 [none] [0] (fun ρ => (dVar 0 ρ).bind itemsD) (fun d ρ => some (bindE 0 (B.ro d) ρ)) (fun x => some true) (fun ρ => (consA (dVar 0) (fun x => some []) ρ).bind fun ds => if ds.length = 1 then H_own_copy K C 2 ds else none)) = F at e ⊢
  simp [e, isiB, bD, bodyP, consA, dVar, ifF, isiB, isiD, retF, seqF, thenF, tyN, clNames]
theorem rowOk : PyData.strOk "row" = true := by decide +kernel
noncomputable def rw1 (k : Nat) : D := .nd .tup [sD "row", iD k]
noncomputable def rw2 (t : Int) (k : Nat) : D := .nd .tup [sD "row", iD (5 + k), iD t]
noncomputable def rwsD (t : Int) (n : Nat) : List D := (List.range (min n 5)).map rw1 ++ (List.range (n - 5)).map (rw2 t)
theorem rws_ok (t : Int) (n : Nat) : Rws (rwsD t n) := by
  intro d hd
  rcases List.mem_append.mp hd with h | h
  · obtain ⟨k, _, rfl⟩ := List.mem_map.mp h
    exact .a _ _ rowOk
  · obtain ⟨k, _, rfl⟩ := List.mem_map.mp h
    exact .b _ _ _ rowOk
theorem rws_len (t : Int) (n : Nat) : (rwsD t n).length = n := by
  unfold rwsD
  simp
  omega
theorem rows_ok (t : Int) (n : Nat) (hn : n < 13) : G_Lrows K C [iD t, iD n] = some (.nd .tup (rwsD t n)) := by
  have z : ∀ m : Nat, m < 13 → m ≤ sizeLine := fun m hm => Nat.le_trans (by omega : m ≤ 100) (by decide)
  have e1 : lcF 2 [none] [0] (fun ρ => (consA (fun ρ => (consA (dVar 1) (consA (fun x => some (D.sc (V.int 5))) fun x => some []) ρ).bind (int2D fun i j => V.int (if j < i then j else i))) (fun x => some []) ρ).bind rng1) (fun d ρ => some (bindE 0 (B.ro d) ρ)) (fun x => some true) (ndQ Kd.tup (consA (fun x => some (D.sc (V.str (Str.ofString "row")))) (consA (plainQ (dVar 0)) fun x => some []))) [some (.ro (iD t)), some (.ro (iD n))] = some (.nd .lst ((List.range (min n 5)).map rw1)) := by
    have e := lcF_map (n := 2) (js := [none]) (is := [0]) (fi := fun ρ => (consA (fun ρ => (consA (dVar 1) (consA (fun x => some (D.sc (V.int 5))) fun x => some []) ρ).bind (int2D fun i j => V.int (if j < i then j else i))) (fun x => some []) ρ).bind rng1) (fg := fun d ρ => some (bindE 0 (B.ro d) ρ)) (ft := fun x => some true) (fe := ndQ Kd.tup (consA (fun x => some (D.sc (V.str (Str.ofString "row")))) (consA (plainQ (dVar 0)) fun x => some []))) (ρ := [some (.ro (iD t)), some (.ro (iD n))]) (List.range (min n 5)) (fun i => iD i) (fun _ => true) rw1 ?_ (by rw [List.length_range]; exact z _ (by omega)) rfl ?_
    · rw [List.filter_eq_self.mpr (fun _ _ => rfl)] at e
      exact e
    · refine Option.bind_eq_some_iff.mpr ⟨[iD (min n 5 : Nat)], ?_, ?_⟩
      · have hm : (if (5 : Int) < (n : Int) then (5 : Int) else (n : Int)) = ((min n 5 : Nat) : Int) := by split <;> omega
        rw [← hm]
        simp [bD, consA, dVar, int2D]
      · rw [rng1_ok _ (by omega), rngD_eq]
    · intro i hi
      simp [rw1, bD, bindE, capE, consA, dVar, ndQ, VL.plain, plainQ, unroot_nil, unroot_none, sl2]
  have e2 : lcF 2 [none, some 0] [0] (fun ρ => (consA (fun x => some (D.sc (V.int 5))) (consA (dVar 1) fun x => some []) ρ).bind rng2) (fun d ρ => some (bindE 0 (B.ro d) ρ)) (fun x => some true) (ndQ Kd.tup (consA (fun x => some (D.sc (V.str (Str.ofString "row")))) (consA (plainQ (dVar 0)) (consA (plainQ (dVar 1)) fun x => some [])))) [some (.ro (iD t)), some (.ro (iD n))] = some (.nd .lst ((List.range (n - 5)).map (rw2 t))) := by
    have e := lcF_map (n := 2) (js := [none, some 0]) (is := [0]) (fi := fun ρ => (consA (fun x => some (D.sc (V.int 5))) (consA (dVar 1) fun x => some []) ρ).bind rng2) (fg := fun d ρ => some (bindE 0 (B.ro d) ρ)) (ft := fun x => some true) (fe := ndQ Kd.tup (consA (fun x => some (D.sc (V.str (Str.ofString "row")))) (consA (plainQ (dVar 0)) (consA (plainQ (dVar 1)) fun x => some [])))) (ρ := [some (.ro (iD t)), some (.ro (iD n))]) (List.range (n - 5)) (fun i => iD (5 + i)) (fun _ => true) (rw2 t) ?_ (by rw [List.length_range]; exact z _ (by omega)) rfl ?_
    · rw [List.filter_eq_self.mpr (fun _ _ => rfl)] at e
      exact e
    · refine Option.bind_eq_some_iff.mpr ⟨[iD 5, iD n], ?_, ?_⟩
      · simp [bD, consA, dVar]
      · unfold rng2
        dsimp only
        rw [if_pos ⟨by omega, by omega, by omega, by omega⟩]
        unfold rngD
        rw [show ((n : Int) - 5).toNat = n - 5 by omega]
    · intro i hi
      simp [rw2, bD, bindE, capE, consA, dVar, ndQ, VL.plain, plainQ, unroot_nil, unroot_ro, unroot_none, sl3]
  have l1 : (rwsD t n).length ≤ sizeLine := by rw [rws_len]; exact z n hn
  have hp := (rws_ok t n).plain
  have e3 : addV (.nd .lst ((List.range (min n 5)).map rw1)) (.nd .lst ((List.range (n - 5)).map (rw2 t))) = some (.nd .lst (rwsD t n)) := by
    have l2 : min n 5 + (n - 5) ≤ sizeLine := by rw [show min n 5 + (n - 5) = n by omega]; exact z n hn
    unfold rwsD at hp ⊢
    simp [addV, addD, l2, hp]
  unfold G_Lrows f_Lrows b_Lrows
  dsimp only
  refine bodyP_rt (retF_ok (map_ok ?_))
  refine Option.bind_eq_some_iff.mpr ⟨[.nd .lst (rwsD t n)], ?_, by simp [hp, tupD]⟩
  refine Option.bind_eq_some_iff.mpr ⟨.nd .lst (rwsD t n), ?_, rfl⟩
  exact Option.bind_eq_some_iff.mpr ⟨_, e1, Option.bind_eq_some_iff.mpr ⟨_, e2, e3⟩⟩
end K30
namespace K30
open PySem L2 VL
variable {K : W.Frag} {C : Addr} [ClsI K C]
noncomputable abbrev noD : D := .nd (.dic []) []
noncomputable def Mk (C : Addr) (i m : Nat) (d : D) : Prop := ∃ (t : Int) (L : List D), 0 ≤ t ∧ Rws L ∧ L.length ≤ 13 ∧ d = mD C i m t t L 0 "hears" noD noD
noncomputable def eM (m : Nat) (x3 x4 : Option B) (l cs : List D) : En := [some (.ali 5 []), some (.ro (iD m)), some (.ali 6 []), x3, x4, some (.own (.nd .lst l)), some (.own (.nd .lst cs))]
noncomputable def X3 (x : Option B) : Prop := x = none ∨ ∃ q, x = some (.ali 6 [q])
theorem bind3 {m : Nat} {x3 x4 : Option B} {l cs : List D} (h3 : X3 x3) (h4 : NA x4) (j : Nat) : bindE 3 (.ali 6 [j]) (eM m x3 x4 l cs) = eM m (some (.ali 6 [j])) x4 l cs := by
  rcases h3 with rfl | ⟨q, rfl⟩ <;> simp [eM, unroot_na h4, bindE, unroot_nil, unroot_own, unroot_ro, unroot_none, unroot_ali]
theorem made_pick {m j : Nat} {x4 : Option B} {l l' cs : List D} {d : Int} {M : D} (h4 : NA x4) (hM : cs[j]? = some M) (e : G_Lpick K C [.nd .lst l, iD 10] = some (iD d, [.nd .lst l'])) :
    (asgM 4 fun ρ => (Option.map (fun a => (a, ρ)) (cIo (plVar 0) (cTm (fun x => some (D.sc (V.int 10))) fun x => some []) ρ)).bind fun a => callR (G_Lpick K C) a.fst a.snd) (eM m (some (.ali 6 [j])) x4 l cs) = some (.nx (eM m (some (.ali 6 [j])) (some (.own (iD d))) l' cs)) := by
  have hg : ∀ (M : D), getP M [] = some M := fun M => by cases M <;> rfl
  generalize G_Lpick K C = GP at *
  unfold eM
  simp [e, unroot_na h4, pruneB_na h4, pB_ali, hM, apartP, arD, arDs, arIos, asgM, bindE, cIo, cTm, callR, finE, getP, holeE, imm, plVar, prune, pB_own, pB_ro, putE, rootD, rootsApart, rvOk, setP, unroot_nil, unroot_own, unroot_ro, unroot_ali]
noncomputable def madeIf (K : W.Frag) (C : Addr) [ClsI K C] : En → Option Fl := ifF
              (fun ρ =>
                Option.map (fun b => (b, ρ))
                  (andT
                    (fun ρ =>
                      (op2 (int0 fun i j => V.bl (decide (j < i))) (dVar 4) (fun x => some (D.sc (V.int 0))) ρ).bind
                        fun x =>
                        match x with
                        | D.sc (V.bl b) => some b
                        | x => none)
                    (fun ρ =>
                      (op2 (eqP fun x => !x) (op2 (intD (fun x j => 0 < j) fun i j => V.int (i % j)) (dVar 4) (dVar 1))
                            (fun ρ => (dVar 3 ρ).bind (fldD (Str.ofString "number"))) ρ).bind
                        fun x =>
                        match x with
                        | D.sc (V.bl b) => some b
                        | x => none)
                    ρ))
              (dropF
                (methV (G_Master_hear K C) C (Str.ofString "hear") 3
                  (cTmM
                    (tupM
                      (consM (fun ρ => Option.map (fun d => (d, ρ)) (some (D.sc (V.str (Str.ofString "keep")))))
                        (consM
                          (fun ρ =>
                            Option.map (fun d => (d, ρ))
                              (op2 (intD (fun x j => 0 < j) fun i j => V.int (i % j)) (dVar 4) (dVar 1) ρ))
                          (consM (plainM fun ρ => (dVar 3 ρ).bind (fldD (Str.ofString "number")))
                            (consM (mvVar 4)
                              (consM
                                (callPM (G_Lrows K C) 2
                                  (consM (mvVar 4)
                                    (consM
                                      (fun ρ =>
                                        (Option.map (fun a => (a, ρ))
                                              (cIo (plVar 0) (cTm (fun x => some (D.sc (V.int 13))) fun x => some [])
                                                ρ)).bind
                                          fun a => callR (G_Lpick K C) a.fst a.snd)
                                      fun ρ => some ([], ρ))))
                                (consM (fun ρ => Option.map (fun d => (d, ρ)) (some (D.sc (V.int 0)))) fun ρ =>
                                  some ([], ρ))))))))
                    fun ρ => Option.map (fun a => (a, ρ)) (some []))))
              fun ρ => some (Fl.nx ρ)
theorem made_no {m j : Nat} {l cs : List D} {d : Int} {M : D} (hM : cs[j]? = some M) (hf : fldD "number" M = some (iD j)) (hp : VL.plain M = false) (hm : 0 < m) (c : ¬ (0 < d ∧ d % m ≠ j)) : madeIf K C (eM m (some (.ali 6 [j])) (some (.own (iD d))) l cs) = some (.nx (eM m (some (.ali 6 [j])) (some (.own (iD d))) l cs)) := by
  have hg : ∀ (M : D), getP M [] = some M := fun M => by cases M <;> rfl
  have hm' : (0 : Int) < m := by omega
  unfold eM madeIf
  generalize G_Lpick K C = GP at *
  generalize G_Lrows K C = GR at *
  generalize G_Master_hear K C = GH at *
  by_cases c1 : 0 < d
  · have c2 : d % m = j := by
      by_cases h : d % m = j
      · exact h
      · exact absurd ⟨c1, h⟩ c
    simp [hM, hf, c1, c2, ne0, hm, andT, bD, cIo, cTm, callR, dVar, dropF, finE, getP, ifF, imm, int0, intD, op2, plVar, prune, rootD, rootsApart, rvOk]
  · simp [hM, hf, c1, ne0, hm, andT, bD, cIo, cTm, callR, dVar, dropF, finE, getP, ifF, imm, int0, intD, op2, plVar, prune, rootD, rootsApart, rvOk]
theorem made_yes {m j : Nat} {l l' cs : List D} {d n : Int} {R : List D} {M M' ans : D} (hM : cs[j]? = some M) (hf : fldD "number" M = some (iD j)) (hp : VL.plain M = false) (hp' : VL.plain M' = false) (ho : isObjOf C "hear" M = true) (hm : 0 < m) (c1 : 0 < d) (c2 : ¬ d % m = j) (e : G_Lpick K C [.nd .lst l, iD 13] = some (iD n, [.nd .lst l'])) (er : G_Lrows K C [iD d, iD n] = some (.nd .tup R)) (hR : VL.plainL R = true)
    (eh : G_Master_hear K C [M, .nd .tup [sD "keep", iD (d % m), iD j, iD d, .nd .tup R, iD 0]] = some (ans, [M'])) : madeIf K C (eM m (some (.ali 6 [j])) (some (.own (iD d))) l cs) = some (.nx (eM m (some (.ali 6 [j])) (some (.own (iD d))) l' (cs.set j M'))) := by
  have hg : ∀ (M : D), getP M [] = some M := fun M => by cases M <;> rfl
  have hs : ∀ (M e : D), setP M [] e = e := fun M e => by cases M <;> rfl
  have hm' : (0 : Int) < m := by omega
  have hj : ∀ x, (cs.set j x)[j]? = some x := fun x => List.getElem?_set_self (List.getElem?_eq_some_iff.mp hM).1
  unfold eM madeIf
  generalize G_Lpick K C = GP at *
  generalize G_Lrows K C = GR at *
  generalize G_Master_hear K C = GH at *
  simp [hM, hf, c1, c2, ne0, hm, e, er, eh, ho, hj, pB_ali, methV, andT, apartP, arD, arDs, arIos, bD, cIo, cTm, cTmM, callR, consM, dVar, dropF, finE, getP, holeE, ifF, imm, int0, intD, callPM, mvVar, op2, plD, plVar, VL.plain, plainM, prune, pB_own, pB_ro, putE, rootD, rootsApart, rvOk, setP, tupM, sl6]
theorem made_step {m j : Nat} {x4 : Option B} {l cs : List D} (hn : ∀ f ∈ fns, NoAttr K C f) (h4 : NA x4) (hl : Lp l) (hm : 0 < m) (hM : cs[j]? = some (mD C j m 0 0 [] 0 "hears" noD noD)) : ∃ (x4' : Option B) (l' : List D) (M : D), NA x4' ∧ Lp l' ∧ Mk C j m M ∧ seqF (asgM 4 fun ρ => (Option.map (fun a => (a, ρ)) (cIo (plVar 0) (cTm (fun x => some (D.sc (V.int 10))) fun x => some []) ρ)).bind fun a => callR (G_Lpick K C) a.fst a.snd) (madeIf K C) (eM m (some (.ali 6 [j])) x4 l cs) = some (.nx (eM m (some (.ali 6 [j])) x4' l' (cs.set j M))) := by
  obtain ⟨d, l1, a1, b1, hl1, e1⟩ := pick_ok (K := K) (C := C) l hl 10 (by decide) (by decide)
  have hj : j < cs.length := (List.getElem?_eq_some_iff.mp hM).1
  have hf := fl_number (C := C) j m 0 0 [] 0 "hears" noD noD
  have hp := m_plain (C := C) j m 0 0 [] 0 "hears" noD noD
  have s1 := made_pick (K := K) (C := C) (m := m) h4 hM e1
  by_cases c : 0 < d ∧ d % m ≠ j
  · obtain ⟨n, l2, a2, b2, hl2, e2⟩ := pick_ok (K := K) (C := C) l1 hl1 13 (by decide) (by decide)
    obtain ⟨k, rfl⟩ : ∃ k : Nat, n = k := ⟨n.toNat, by omega⟩
    have er := rows_ok (K := K) (C := C) d k (by omega)
    have ho := obj_of (C := C) (m := "hear") (by decide +kernel) j m 0 0 [] 0 "hears" noD noD
    have hR := rws_ok d k
    have hlen := rws_len d k
    have eh := hear_new (K := K) (C := C) j m (d % m) d (rwsD d k) "hears" noD noD c.1 hR (by omega)
    have hp' := m_plain (C := C) j m d d (rwsD d k) 0 "hears" noD noD
    exact ⟨_, l2, _, na_own, hl2, ⟨d, rwsD d k, by omega, hR, by omega, rfl⟩, seqF_nx s1 (made_yes hM hf hp hp' ho hm c.1 c.2 e2 er hR.plain eh)⟩
  · have hset : cs.set j (mD C j m 0 0 [] 0 "hears" noD noD) = cs := by
      obtain ⟨h, e⟩ := List.getElem?_eq_some_iff.mp hM
      rw [← e]
      exact List.set_getElem_self h
    refine ⟨some (.own (iD d)), l1, mD C j m 0 0 [] 0 "hears" noD noD, na_own, hl1, ⟨0, [], Int.le_refl _, Rws.nil, by decide, rfl⟩, seqF_nx s1 ?_⟩
    rw [made_no hM hf hp hm c, hset]
end K30
namespace K30
open PySem L2 VL
variable {K : W.Frag} {C : Addr} [ClsI K C]
noncomputable def Ms (C : Addr) (m : Nat) (t : Nat → Int) (L : Nat → List D) (i : Nat) : D := mD C i m (t i) (t i) (L i) 0 "hears" noD noD
noncomputable def M0 (C : Addr) (m i : Nat) : D := mD C i m 0 0 [] 0 "hears" noD noD
theorem made_new (m : Nat) (hm : m < 100) (l : List D) (hn : ∀ f ∈ fns, NoAttr K C f) : lcF 5 [none, some 1] [0] (fun ρ => (consA (dVar 1) (fun x => some []) ρ).bind rng1) (fun d ρ => some (bindE 0 (B.ro d) ρ)) (fun x => some true) (makeF (G_Master_init K C) C 2 (consA (dVar 0) (consA (dVar 1) fun x => some []))) [some (.ali 5 []), some (.ro (iD m)), none, none, none, some (.own (.nd .lst l))] = some (.nd .lst ((List.range m).map (M0 C m))) := by
  have e := lcF_map (n := 5) (js := [none, some 1]) (is := [0]) (fi := fun ρ => (consA (dVar 1) (fun x => some []) ρ).bind rng1) (fg := fun d ρ => some (bindE 0 (B.ro d) ρ)) (ft := fun x => some true) (fe := makeF (G_Master_init K C) C 2 (consA (dVar 0) (consA (dVar 1) fun x => some []))) (ρ := [some (.ali 5 []), some (.ro (iD m)), none, none, none, some (.own (.nd .lst l))]) (List.range m) (fun i => iD i) (fun _ => true) (M0 C m) ?_ (by rw [List.length_range]; exact Nat.le_trans (by omega : m ≤ 100) (by decide)) rfl ?_
  · rw [List.filter_eq_self.mpr (fun _ _ => rfl)] at e
    exact e
  · refine Option.bind_eq_some_iff.mpr ⟨[iD m], ?_, ?_⟩
    · simp [bD, consA, dVar]
    · rw [rng1_ok _ hm, rngD_eq]
  · intro i hi
    have hi := init_ok (K := K) (C := C) i m hn
    generalize G_Master_init K C = GI at *
    simp [M0, hi, bD, bindE, capE, consA, dVar, isNon, makeF, unroot_nil, unroot_ro, unroot_none]
theorem skol {m : Nat} {cs : List D} (hl : cs.length = m) (h : ∀ i, i < m → ∃ d, cs[i]? = some d ∧ Mk C i m d) : ∃ (t : Nat → Int) (L : Nat → List D), (∀ i, 0 ≤ t i ∧ Rws (L i) ∧ (L i).length ≤ 13) ∧ cs = (List.range m).map (Ms C m t L) := by
  have h' : ∀ i, ∃ p : Int × List D, 0 ≤ p.1 ∧ Rws p.2 ∧ p.2.length ≤ 13 ∧ (i < m → cs[i]? = some (mD C i m p.1 p.1 p.2 0 "hears" noD noD)) := fun i => by
    by_cases c : i < m
    · obtain ⟨d, e, t, L, h1, h2, h3, rfl⟩ := h i c
      exact ⟨(t, L), h1, h2, h3, fun _ => e⟩
    · exact ⟨(0, []), Int.le_refl _, Rws.nil, by decide, fun z => absurd z c⟩
  obtain ⟨f, hf⟩ := Classical.axiomOfChoice h'
  refine ⟨fun i => (f i).1, fun i => (f i).2, fun i => ⟨(hf i).1, (hf i).2.1, (hf i).2.2.1⟩, ?_⟩
  refine List.ext_getElem? fun i => ?_
  by_cases c : i < m
  · rw [(hf i).2.2.2 c, List.getElem?_map, List.getElem?_range c]
    rfl
  · rw [List.getElem?_eq_none (by omega), List.getElem?_eq_none (by simp; omega)]
theorem made_ok (l : List D) (hl : Lp l) (m : Nat) (hm : 0 < m) (hm2 : m < 100) (hn : ∀ f ∈ fns, NoAttr K C f) : ∃ (t : Nat → Int) (L : Nat → List D) (l' : List D), (∀ i, 0 ≤ t i ∧ Rws (L i) ∧ (L i).length ≤ 13) ∧ Lp l' ∧ G_Lmade K C [.nd .lst l, iD m] = some (.nd .lst ((List.range m).map (Ms C m t L)), [.nd .lst l']) := by
  have hnew := made_new (K := K) (C := C) m hm2 l hn
  have key : ∃ d o, G_Lmade K C [.nd .lst l, iD m] = some (d, o) ∧ ∃ (t : Nat → Int) (L : Nat → List D) (l' : List D), (∀ i, 0 ≤ t i ∧ Rws (L i) ∧ (L i).length ≤ 13) ∧ Lp l' ∧ d = .nd .lst ((List.range m).map (Ms C m t L)) ∧ o = [.nd .lst l'] := by
    unfold G_Lmade f_Lmade b_Lmade
    dsimp only
    have e0 : envI 5 [true, false] [.nd .lst l, iD m] = [some (.ali 5 []), some (.ro (iD m)), none, none, none, some (.own (.nd .lst l))] := by simp [List.replicate, envI, ioL, owns, parB]
    refine bodyI_ev ?_
    rw [e0]
    refine Ev.nx (ρ' := [some (.ali 5 []), some (.ro (iD m)), some (.own (.nd .lst ((List.range m).map (M0 C m)))), none, none, some (.own (.nd .lst l))]) (asgM_ok (map_ok hnew) (by simp [bindE, unroot_nil, unroot_own, unroot_ro, unroot_none, unroot_ali])) (Ev.seq ?_)
    refine Ev.forN (cs := (List.range m).map (M0 C m)) rfl ?_
    have e1 : openO 2 (.nd .lst ((List.range m).map (M0 C m))) [some (.ali 5 []), some (.ro (iD m)), some (.own (.nd .lst ((List.range m).map (M0 C m)))), none, none, some (.own (.nd .lst l))] = eM m none none l ((List.range m).map (M0 C m)) := by simp [openO, eM, unroot_nil, unroot_own, unroot_ro, unroot_none, unroot_ali]
    rw [e1, show ((List.range m).map (M0 C m)).length = m by simp]
    refine Ev.forH (N := m) (m := 6) (fun j ρ => ∃ (x3 x4 : Option B) (l cs : List D), X3 x3 ∧ NA x4 ∧ Lp l ∧ cs.length = m ∧ (∀ i, i < m → ∃ d, cs[i]? = some d ∧ if i < j then Mk C i m d else d = M0 C m i) ∧ ρ = eM m x3 x4 l cs) ?_ ?_ ?_ m 0 _ (by omega) ⟨none, none, l, _, .inl rfl, na_none, hl, by simp, ?_, rfl⟩
    · rintro j ρ ⟨x3, x4, l, cs, h3, h4, hl, hc, hi, rfl⟩
      exact ⟨cs, rfl, hc⟩
    · rintro j hj ρ ⟨x3, x4, l, cs, h3, h4, hl, hc, hi, rfl⟩
      rw [bind3 h3 h4]
      obtain ⟨d, e, hd⟩ := hi j hj
      rw [if_neg (by omega)] at hd
      subst hd
      obtain ⟨x4', l', M, h4', hl', hM, es⟩ := made_step (K := K) (C := C) hn h4 hl hm e
      refine ⟨_, es, _, x4', l', cs.set j M, .inr ⟨j, rfl⟩, h4', hl', by rw [List.length_set]; exact hc, fun i hi' => ?_, rfl⟩
      by_cases c : j = i
      · subst c
        exact ⟨M, List.getElem?_set_self (by omega), by rw [if_pos (by omega)]; exact hM⟩
      · obtain ⟨d, e, hd⟩ := hi i hi'
        refine ⟨d, by rw [List.getElem?_set_ne c]; exact e, ?_⟩
        by_cases c2 : i < j
        · rw [if_pos c2] at hd; rw [if_pos (by omega)]; exact hd
        · rw [if_neg c2] at hd; rw [if_neg (by omega)]; exact hd
    · rintro ρ ⟨x3, x4, l, cs, h3, h4, hl, hc, hi, rfl⟩
      obtain ⟨t, L, hL, ecs⟩ := skol (C := C) hc fun i hi' => by
        obtain ⟨d, e, hd⟩ := hi i hi'
        rw [if_pos hi'] at hd
        exact ⟨d, e, hd⟩
      have ec : closeO 2 6 (eM m x3 x4 l cs) = [some (.ali 5 []), some (.ro (iD m)), some (.own (.nd .lst cs)), none, x4, some (.own (.nd .lst l))] := by
        rcases h3 with rfl | ⟨q, rfl⟩ <;> simp [closeO, eM, unroot_na h4, rootD, unroot_nil, unroot_own, unroot_ro, unroot_none, unroot_ali]
      show Ev _ (closeO 2 6 (eM m x3 x4 l cs)) _
      rw [ec]
      refine ⟨.rt (.nd .lst cs) [some (.ali 5 []), some (.ro (iD m)), none, none, x4, some (.own (.nd .lst l))], by simp [bD, dVar, mvVar, VL.plain, retF], [.nd .lst l], by simp [allOwn], t, L, l, hL, hl, by rw [ecs], rfl⟩
    · intro i hi
      exact ⟨M0 C m i, by rw [List.getElem?_map, List.getElem?_range hi]; rfl, by rw [if_neg (by omega)]⟩
  obtain ⟨d, o, e, t, L, l', h1, h2, rfl, rfl⟩ := key
  exact ⟨t, L, l', h1, h2, e⟩
end K30
namespace K30
open PySem L2 VL
variable {K : W.Frag} {C : Addr} [ClsI K C]
noncomputable def nD (k : Nat) : D := iD k
theorem n_plain : ∀ (ss : List Nat), VL.plainL (ss.map nD) = true
  | [] => rfl
  | s :: ss => by rw [List.map_cons, VL.plainL, n_plain ss]; rfl
theorem er_map {α β : Type} (f : α → β) : ∀ (l : List α) (i : Nat), (l.map f).eraseIdx i = (l.eraseIdx i).map f
  | [], _ => rfl
  | _ :: _, 0 => rfl
  | a :: l, i + 1 => by rw [List.map_cons, List.eraseIdx_cons_succ, List.eraseIdx_cons_succ, List.map_cons, er_map f l i]
noncomputable def eS (m : Nat) (ps ss : List Nat) (mo : Int) (x5 : Option B) (l : List D) : En := [some (.ali 6 []), some (.ro (iD m)), some (.own (.nd .lst (ps.map nD))), some (.own (.nd .lst (ss.map nD))), some (.own (iD mo)), x5, some (.own (.nd .lst l))]
theorem ix3 (mo : Int) (d : Int) (h0 : 0 ≤ d) (h3 : d < 3) : ixPl ixU ixS (.nd .lst [iD 1, iD mo, iD mo]) (iD d) = some (iD (if d = 0 then 1 else mo)) := by
  have : d = 0 ∨ d = 1 ∨ d = 2 := by omega
  rcases this with rfl | rfl | rfl <;> simp [ixD, ixN, ixPl, ixU, ixV, kidD, VL.plain]
noncomputable def someBody (K : W.Frag) (C : Addr) [ClsI K C] : En → Option Fl := dropF
                (appM (plVar 3)
                  (popAtM (plVar 2) fun ρ =>
                    (Option.map (fun a => (a, ρ))
                          (cIo (plVar 0)
                            (cTm (fun ρ => (consA (dVar 2) (fun x => some []) ρ).bind lenD) fun x => some []) ρ)).bind
                      fun a => callR (G_Lpick K C) a.fst a.snd))
theorem pop_at (ps : List Nat) (d : Nat) (hd : d < ps.length) (hz : ps.length ≤ 100) : popAtD (iD d) (ps.map nD) = some (nD ps[d], (ps.eraseIdx d).map nD) := by
  unfold popAtD
  dsimp only
  have e1 : (seqIndex? (d : Int) (ps.map nD).length) = some d := by
    unfold seqIndex?
    rw [List.length_map]
    have h0 : ¬ (d : Int) < 0 := by omega
    simp [h0, hd]
  rw [if_pos ⟨by omega, by omega⟩, e1]
  simp [List.getElem?_eq_getElem hd, nD, VL.plain, er_map]
theorem some_pick {m : Nat} {pd sd : List D} {mo z dd : D} {x5 : Option B} {l l' : List D} {GP : List D → Option (D × List D)} {fl : En → Option D} (h5 : NA x5) (hf : fl [some (.ali 6 []), some (.ro (iD m)), some (.own (.nd .lst pd)), some (.own (.nd .lst sd)), some (.own mo), x5, some (.own (.nd .lst l))] = some z) (e : GP [.nd .lst l, z] = some (dd, [.nd .lst l'])) :
    ((Option.map (fun a => (a, [some (.ali 6 []), some (.ro (iD m)), some (.own (.nd .lst pd)), some (.own (.nd .lst sd)), some (.own mo), x5, some (.own (.nd .lst l))])) (cIo (plVar 0) (cTm fl fun x => some []) [some (.ali 6 []), some (.ro (iD m)), some (.own (.nd .lst pd)), some (.own (.nd .lst sd)), some (.own mo), x5, some (.own (.nd .lst l))])).bind fun a => callR GP a.fst a.snd) = some (dd, [some (.ali 6 []), some (.ro (iD m)), some (.own (.nd .lst pd)), some (.own (.nd .lst sd)), some (.own mo), x5, some (.own (.nd .lst l'))]) := by
  have hg : ∀ (M : D), getP M [] = some M := fun M => by cases M <;> rfl
  simp [e, hf, pruneB_na h5, pB_ali, apartP, arD, arDs, arIos, cIo, cTm, callR, finE, getP, holeE, plVar, prune, pB_own, pB_ro, putE, rootD, rootsApart, rvOk, setP]
theorem some_pop {m : Nat} {pd pd' sd : List D} {mo dd x : D} {x5 : Option B} {l l' : List D} {fe : En → Option (D × En)} (h5 : NA x5) (hp : popAtD dd pd = some (x, pd')) (hf : fe [some (.ali 6 []), some (.ro (iD m)), some (.own (.nd .lst pd)), some (.own (.nd .lst sd)), some (.own mo), x5, some (.own (.nd .lst l))] = some (dd, [some (.ali 6 []), some (.ro (iD m)), some (.own (.nd .lst pd)), some (.own (.nd .lst sd)), some (.own mo), x5, some (.own (.nd .lst l'))])) :
    popAtM (plVar 2) fe [some (.ali 6 []), some (.ro (iD m)), some (.own (.nd .lst pd)), some (.own (.nd .lst sd)), some (.own mo), x5, some (.own (.nd .lst l))] = some (x, [some (.ali 6 []), some (.ro (iD m)), some (.own (.nd .lst pd')), some (.own (.nd .lst sd)), some (.own mo), x5, some (.own (.nd .lst l'))]) := by
  simp [popAtM, hf, hp, pruneB_na h5, pB_ali, editE, getP, nodeAt, plVar, prune, pB_own, pB_ro, rootD, setP]
theorem some_app {m : Nat} {pd pd' sd sd' : List D} {mo x : D} {x5 : Option B} {l l' : List D} {fe : En → Option (D × En)} (h5 : NA x5) (ha : appD x sd = some sd') (hf : fe [some (.ali 6 []), some (.ro (iD m)), some (.own (.nd .lst pd)), some (.own (.nd .lst sd)), some (.own mo), x5, some (.own (.nd .lst l))] = some (x, [some (.ali 6 []), some (.ro (iD m)), some (.own (.nd .lst pd')), some (.own (.nd .lst sd)), some (.own mo), x5, some (.own (.nd .lst l'))])) :
    dropF (appM (plVar 3) fe) [some (.ali 6 []), some (.ro (iD m)), some (.own (.nd .lst pd)), some (.own (.nd .lst sd)), some (.own mo), x5, some (.own (.nd .lst l))] = some (.nx [some (.ali 6 []), some (.ro (iD m)), some (.own (.nd .lst pd')), some (.own (.nd .lst sd')), some (.own mo), x5, some (.own (.nd .lst l'))]) := by
  simp [hf, ha, pruneB_na h5, pB_ali, appM, dropF, editE, getP, lstEd, nodeAt, plVar, prune, pB_own, pB_ro, rootD, setP]
theorem len_n (ps : List Nat) : lenD [.nd .lst (ps.map nD)] = some (iD ps.length) := by simp [lenD]
theorem app_n (ss : List Nat) (x : Nat) (hs : ss.length ≤ 100) : appD (nD x) (ss.map nD) = some ((ss ++ [x]).map nD) := by
  have h9 : ss.length < sizeLine := Nat.lt_of_le_of_lt hs (by decide)
  simp [appD, h9]
theorem some_body {m : Nat} {ps ss : List Nat} {mo : Int} {x5 : Option B} {l l' : List D} {d : Nat} (h5 : NA x5) (hd : d < ps.length) (hz : ps.length ≤ 100) (hs : ss.length ≤ 100) (e : G_Lpick K C [.nd .lst l, iD ps.length] = some (iD d, [.nd .lst l'])) :
    someBody K C (eS m ps ss mo x5 l) = some (.nx (eS m (ps.eraseIdx d) (ss ++ [ps[d]]) mo x5 l')) := by
  have hl1 := len_n ps
  refine some_app h5 (app_n ss ps[d] hs) (some_pop h5 (pop_at ps d hd hz) (some_pick h5 ?_ e))
  generalize ps.map nD = pd at *
  simp [hl1, bD, consA, dVar]
theorem ix_n (ss : List Nat) (d : Nat) (hd : d < ss.length) : ixPl ixU ixS (.nd .lst (ss.map nD)) (iD d) = some (nD ss[d]) := by
  have e1 : ixD (.nd .lst (ss.map nD)) (iD d) = some d := by
    simp only [ixD, ixN, List.length_map]
    have h0 : ¬ (d : Int) < 0 := by omega
    simp [hd]
  have e2 : kidD (.nd .lst (ss.map nD)) d = some (nD ss[d]) := by simp [kidD, List.getElem?_eq_getElem hd]
  unfold ixPl ixV ixU
  simp [e1, e2, nD, VL.plain]
noncomputable def someIf (K : W.Frag) (C : Addr) [ClsI K C] : En → Option Fl := ifF
                (tstM
                  (op2M (eqP id)
                    (fun ρ =>
                      (Option.map (fun a => (a, ρ))
                            (cIo (plVar 0) (cTm (fun x => some (D.sc (V.int 3))) fun x => some []) ρ)).bind
                        fun a => callR (G_Lpick K C) a.fst a.snd)
                    fun ρ => Option.map (fun d => (d, ρ)) (some (D.sc (V.int 0)))))
                (dropF
                  (appM (plVar 3)
                    (ixVarM 3 (ixPl ixU ixS) fun ρ =>
                      (Option.map (fun a => (a, ρ))
                            (cIo (plVar 0)
                              (cTm (fun ρ => (consA (dVar 3) (fun x => some []) ρ).bind lenD) fun x => some []) ρ)).bind
                        fun a => callR (G_Lpick K C) a.fst a.snd)))
                fun ρ => some (Fl.nx ρ)
theorem some_if {m : Nat} {ps ss : List Nat} {mo : Int} {x5 : Option B} {l : List D} (h5 : NA x5) (hl : Lp l) (hs : ss.length ≤ 50) (hs0 : 0 < ss.length) (hb : ∀ s ∈ ss, s < m) : ∃ (ss' : List Nat) (l' : List D), Lp l' ∧ 0 < ss'.length ∧ ss'.length ≤ ss.length + 1 ∧ (∀ s ∈ ss', s < m) ∧ someIf K C (eS m ps ss mo x5 l) = some (.nx (eS m ps ss' mo x5 l')) := by
  obtain ⟨d, l1, a1, b1, hl1, e1⟩ := pick_ok (K := K) (C := C) l hl 3 (by decide) (by decide)
  have p1 := some_pick (m := m) (pd := ps.map nD) (sd := ss.map nD) (mo := iD mo) (GP := G_Lpick K C) (fl := fun x => some (D.sc (V.int 3))) h5 rfl e1
  have c0 := eq0 d 0
  have hc : tstM (op2M (eqP id) (fun ρ => (Option.map (fun a => (a, ρ)) (cIo (plVar 0) (cTm (fun x => some (D.sc (V.int 3))) fun x => some []) ρ)).bind fun a => callR (G_Lpick K C) a.fst a.snd) fun ρ => Option.map (fun d => (d, ρ)) (some (D.sc (V.int 0)))) (eS m ps ss mo x5 l) = some (decide (d = 0), eS m ps ss mo x5 l1) := by
    exact tst_of (op2M_of p1 rfl c0)
  by_cases c : d = 0
  · obtain ⟨q, l2, a2, b2, hl2, e2⟩ := pick_ok (K := K) (C := C) l1 hl1 (ss.length : Int) (by omega) (Int.lt_of_le_of_lt (b := 50) (by omega) (by decide))
    obtain ⟨k, rfl⟩ : ∃ k : Nat, q = k := ⟨q.toNat, by omega⟩
    have hk : k < ss.length := by omega
    refine ⟨ss ++ [ss[k]], l2, hl2, by simp, by simp, fun s h => ?_, ?_⟩
    · rcases List.mem_append.mp h with h | h
      · exact hb s h
      · rw [List.mem_singleton.mp h]; exact hb _ (List.getElem_mem hk)
    · refine ifF_of hc ?_
      rw [if_pos (by simp [c])]
      refine some_app h5 (app_n ss ss[k] (by omega)) (ixVar_of (x0 := .nd .lst (ss.map nD)) (xs := .nd .lst (ss.map nD)) rfl (some_pick h5 ?_ e2) rfl (ix_n ss k hk))
      have hln := len_n ss
      generalize ss.map nD = sd at *
      simp [hln, bD, consA, dVar]
  · refine ⟨ss, l1, hl1, hs0, by omega, hb, ifF_of hc ?_⟩
    rw [if_neg (by simp [c])]
theorem some_ok (l : List D) (hl : Lp l) (m : Nat) (hm : 0 < m) (hm2 : m < 40) : ∃ (ss : List Nat) (l' : List D), Lp l' ∧ 0 < ss.length ∧ ss.length ≤ 50 ∧ (∀ s ∈ ss, s < m) ∧ G_Lsome K C [.nd .lst l, iD m] = some (.nd .lst (ss.map nD), [.nd .lst l']) := by
  have key : ∃ d o, G_Lsome K C [.nd .lst l, iD m] = some (d, o) ∧ ∃ (ss : List Nat) (l' : List D), Lp l' ∧ 0 < ss.length ∧ ss.length ≤ 50 ∧ (∀ s ∈ ss, s < m) ∧ d = .nd .lst (ss.map nD) ∧ o = [.nd .lst l'] := by
    unfold G_Lsome f_Lsome b_Lsome
    dsimp only
    have e0 : envI 6 [true, false] [.nd .lst l, iD m] = [some (.ali 6 []), some (.ro (iD m)), none, none, none, none, some (.own (.nd .lst l))] := by simp [List.replicate, envI, ioL, owns, parB]
    refine bodyI_ev ?_
    rw [e0]
    have er : rngL [iD m] = some (.nd .lst ((List.range m).map nD)) := by
      unfold rngL
      dsimp only
      rw [if_pos ⟨by omega, by omega⟩, Int.toNat_natCast, rngD_eq]
      rfl
    refine Ev.nx (ρ' := [some (.ali 6 []), some (.ro (iD m)), some (.own (.nd .lst ((List.range m).map nD))), none, none, none, some (.own (.nd .lst l))]) (asgM_ok (map_ok (Option.bind_eq_some_iff.mpr ⟨[iD m], rfl, er⟩)) (by simp [bindE, unroot_nil, unroot_own, unroot_ro, unroot_none, unroot_ali])) ?_
    refine Ev.nx (ρ' := [some (.ali 6 []), some (.ro (iD m)), some (.own (.nd .lst ((List.range m).map nD))), some (.own (.nd .lst [])), none, none, some (.own (.nd .lst l))]) (by simp [asgM, bindE, lstM, unroot_nil, unroot_own, unroot_ro, unroot_none, unroot_ali]) ?_
    obtain ⟨d, l1, a1, b1, hl1, e1⟩ := pick_ok (K := K) (C := C) l hl ((m : Int) - (m : Int) / 2) (by omega) (Int.lt_of_le_of_lt (b := 50) (by omega) (by decide))
    obtain ⟨mo, hmo⟩ : ∃ mo : Nat, (m : Int) / 2 + 1 + d = mo := ⟨((m : Int) / 2 + 1 + d).toNat, by omega⟩
    have p1 : (op2M addD (fun ρ => Option.map (fun d => (d, ρ)) (op2 addD (op2 (intD CDivL fun i j => V.int (i / j)) (dVar 1) fun x => some (D.sc (V.int 2))) (fun x => some (D.sc (V.int 1))) ρ)) fun ρ => (Option.map (fun a => (a, ρ)) (cIo (plVar 0) (cTm (op2 (int0 fun i j => V.int (i - j)) (dVar 1) (op2 (intD CDivL fun i j => V.int (i / j)) (dVar 1) fun x => some (D.sc (V.int 2)))) fun x => some []) ρ)).bind fun a => callR (G_Lpick K C) a.fst a.snd) [some (.ali 6 []), some (.ro (iD m)), some (.own (.nd .lst ((List.range m).map nD))), some (.own (.nd .lst [])), none, none, some (.own (.nd .lst l))] = some (iD mo, [some (.ali 6 []), some (.ro (iD m)), some (.own (.nd .lst ((List.range m).map nD))), some (.own (.nd .lst [])), none, none, some (.own (.nd .lst l1))]) := by
      have hg : ∀ (M : D), getP M [] = some M := fun M => by cases M <;> rfl
      generalize (List.range m).map nD = pd
      generalize G_Lpick K C = GP at *
      refine op2M_of (a := iD ((m : Int) / 2 + 1)) (b := iD d) ?_ (ρ1 := [some (.ali 6 []), some (.ro (iD m)), some (.own (.nd .lst pd)), some (.own (.nd .lst [])), none, none, some (.own (.nd .lst l))]) ?_ ?_
      · simp [addD, bD, dVar, intD, op2, CDivL]
      · simp [e1, apartP, arD, arDs, arIos, bD, cIo, cTm, callR, dVar, finE, getP, holeE, int0, intD, op2, plVar, prune, pruneB, putE, rootD, rootsApart, rvOk, setP, CDivL]
      · rw [← hmo]
        simp [addD]
    refine Ev.nx (ρ' := eS m (List.range m) [] mo none l1) (asgM_ok p1 (by simp [eS, bindE, unroot_nil, unroot_own, unroot_ro, unroot_none, unroot_ali])) (Ev.seq ?_)
    obtain ⟨d2, l2, a2, b2, hl2, e2⟩ := pick_ok (K := K) (C := C) l1 hl1 3 (by decide) (by decide)
    obtain ⟨q, hq, hq0, hq1⟩ : ∃ q : Nat, (if d2 = 0 then (1 : Int) else mo) = q ∧ 0 < q ∧ q ≤ m := by
      by_cases c : d2 = 0
      · exact ⟨1, by rw [if_pos c]; rfl, by omega, by omega⟩
      · exact ⟨mo, by rw [if_neg c], by omega, by omega⟩
    have p2 := some_pick (m := m) (pd := (List.range m).map nD) (sd := [].map nD) (mo := iD mo) (x5 := none) (GP := G_Lpick K C) (fl := fun x => some (D.sc (V.int 3))) na_none rfl e2
    have p3 := ix3 mo d2 a2 b2
    rw [hq] at p3
    refine Ev.forM1J (as := [iD q]) (m := q) (ρ0 := eS m (List.range m) [] mo none l2) (Option.bind_eq_some_iff.mpr ⟨(iD q, eS m (List.range m) [] mo none l2), op2M_of (ρ1 := eS m (List.range m) [] mo none l1) (a := .nd .lst [iD 1, iD mo, iD mo]) (by simp [eS, bD, consA, dVar, ndQ, VL.plain, plainQ, sl3]) p2 p3, rfl⟩) (rng1_ok q (by omega)) (fun j ρ => ∃ (ps ss : List Nat) (x5 : Option B) (l : List D), NA x5 ∧ Lp l ∧ ps.length + j = m ∧ ss.length = j ∧ (∀ p ∈ ps, p < m) ∧ (∀ p ∈ ss, p < m) ∧ ρ = eS m ps ss mo x5 l) ⟨List.range m, [], none, l2, na_none, hl2, by simp, rfl, fun p hp => List.mem_range.mp hp, fun _ h => (nomatch h), rfl⟩ ?_ ?_
    · rintro j hj ρ ⟨ps, ss, x5, l, h5, hl, hp, hs, hb, hb2, rfl⟩
      obtain ⟨k, l', a3, b3, hl', e3⟩ := pick_ok (K := K) (C := C) l hl (ps.length : Int) (by omega) (Int.lt_of_le_of_lt (b := 50) (by omega) (by decide))
      obtain ⟨k, rfl⟩ : ∃ k' : Nat, k = k' := ⟨k.toNat, by omega⟩
      have hk : k < ps.length := by omega
      refine ⟨eS m ps ss mo (some (.ro (iD j))) l, by simp [eS, unroot_na h5, bindE, unroot_nil, unroot_own, unroot_ro, unroot_ali], _, some_body na_ro hk (by omega) (by omega) e3, ps.eraseIdx k, ss ++ [ps[k]], _, l', na_ro, hl', ?_, by simp [hs], fun p hp => hb p (List.mem_of_mem_eraseIdx hp), fun p hp => ?_, rfl⟩
      · rw [List.length_eraseIdx_of_lt hk]; omega
      · rcases List.mem_append.mp hp with h | h
        · exact hb2 p h
        · rw [List.mem_singleton.mp h]; exact hb _ (List.getElem_mem hk)
    · rintro ρ ⟨ps, ss, x5, l, h5, hl, hp, hs, hb, hb2, rfl⟩
      obtain ⟨ss', l', hl', z0, z1, hb3, e4⟩ := some_if (K := K) (C := C) (ps := ps) (mo := mo) h5 hl (by omega) (by omega) hb2
      refine Ev.nx e4 ⟨.rt (.nd .lst (ss'.map nD)) [some (.ali 6 []), some (.ro (iD m)), some (.own (.nd .lst (ps.map nD))), none, some (.own (iD mo)), x5, some (.own (.nd .lst l'))], by simp [eS, bD, dVar, mvVar, VL.plain, retF], [.nd .lst l'], by simp [allOwn], ss', l', hl', z0, by omega, hb3, rfl, rfl⟩
  obtain ⟨d, o, e, ss, l', h1, h2, h3, h4, rfl, rfl⟩ := key
  exact ⟨ss, l', h1, h2, h3, h4, e⟩
end K30
namespace K30
open PySem L2 VL
variable {K : W.Frag} {C : Addr} [ClsI K C]
noncomputable def bst (t : Nat → Int) (L : Nat → List D) (b : Int × Int × List D) (p : Nat) : Int × Int × List D := if gt2 (t p) (L p).length b.1 b.2.1 = true then (t p, ((L p).length : Int), L p) else b
noncomputable def bD3 (b : Int × Int × List D) : D := .nd .tup [iD b.1, iD b.2.1, .nd .lst b.2.2]
theorem ms_get (m : Nat) (t : Nat → Int) (L : Nat → List D) {p : Nat} (hp : p < m) : ixU (.nd .lst ((List.range m).map (Ms C m t L))) (nD p) = some p ∧ kidD (.nd .lst ((List.range m).map (Ms C m t L))) p = some (Ms C m t L p) := by
  have e1 : ixD (.nd .lst ((List.range m).map (Ms C m t L))) (nD p) = some p := by
    have h0 : ¬ (p : Int) < 0 := by omega
    simp [ixD, ixN, nD, hp]
  refine ⟨by unfold ixU; rw [e1], ?_⟩
  simp [kidD, List.getElem?_range hp]
theorem cut3 (b : Int × Int × List D) : slV (bD3 b) none (some 2) = some (.nd .tup [iD b.1, iD b.2.1]) := by
  simp [slV, bD3, cutD, HT.sIx]
noncomputable def eD (M S : D) (b : Int × Int × List D) (x3 x4 : Option B) : En := [some (.ro M), some (.ro S), some (.own (bD3 b)), x3, x4]
noncomputable def dueIf : En → Option Fl := ifF
              (fun ρ =>
                Option.map (fun b => (b, ρ))
                  ((op2 gtD
                        (ndQ Kd.tup
                          (consA (fun ρ => (dVar 4 ρ).bind (fldD (Str.ofString "of")))
                            (consA
                              (fun ρ =>
                                (consA (fun ρ => (dVar 4 ρ).bind (fldD (Str.ofString "log"))) (fun x => some []) ρ).bind
                                  lenD)
                              fun x => some [])))
                        (slVF (dVar 2) (fun x => some none) fun ρ => (some (D.sc (V.int 2))).bind toInt) ρ).bind
                    fun x =>
                    match x with
                    | D.sc (V.bl b) => some b
                    | x => none))
              (asgM 2
                (tupM
                  (consM (plainM fun ρ => (dVar 4 ρ).bind (fldD (Str.ofString "of")))
                    (consM
                      (fun ρ =>
                        Option.map (fun d => (d, ρ))
                          ((consA (fun ρ => (dVar 4 ρ).bind (fldD (Str.ofString "log"))) (fun x => some []) ρ).bind
                            lenD))
                      (consM
                        (fun ρ =>
                          Option.map (fun d => (d, ρ))
                            ((consA (fun ρ => (dVar 4 ρ).bind (fldD (Str.ofString "log"))) (fun x => some []) ρ).bind
                              listD))
                        fun ρ => some ([], ρ))))))
              fun ρ => some (Fl.nx ρ)
theorem due_if {M S O : D} {b : Int × Int × List D} {x3 : Option B} {o : Int} {R : List D} (h3 : NA x3) (ho : fldD "of" O = some (iD o)) (hl : fldD "log" O = some (.nd .lst R)) (hR : VL.plainL R = true) (hz : R.length ≤ 100) :
    dueIf (eD M S b x3 (some (.ro O))) = some (.nx (eD M S (if gt2 o R.length b.1 b.2.1 = true then (o, (R.length : Int), R) else b) x3 (some (.ro O)))) := by
  have hc := cut3 b
  have hll : lenD [.nd .lst R] = some (iD R.length) := by simp [lenD]
  have h9 : R.length ≤ sizeLine := Nat.le_trans hz (by decide)
  have hli : listD [.nd .lst R] = some (.nd .lst R) := by simp [listD, hR]
  unfold eD dueIf
  refine ifF_of (c := gt2 o R.length b.1 b.2.1) (ρ1 := [some (.ro M), some (.ro S), some (.own (bD3 b)), x3, some (.ro O)]) ?_ ?_
  · generalize bD3 b = B3 at *
    simp [ho, hl, hll, hc, gtD, slVF, bD, consA, dVar, pairI, ndQ, op2, toInt, sl2]
  · by_cases c : gt2 o R.length b.1 b.2.1 = true
    · rw [if_pos c, if_pos c]
      generalize bD3 b = B3 at *
      simp [ho, hl, hll, hli, unroot_na h3, bD3, asgM, bD, bindE, consA, consM, dVar, VL.plain, plainM, tupM, unroot_nil, unroot_own, unroot_ro, sl3]
    · rw [if_neg c, if_neg c]
theorem forL_foldN {fg : D → En → Option En} {fb : En → Option Fl} {β : Type} {mk : β → Option B → Option B → En} (g : β → Nat → β) (P : Nat → Prop)
    (step : ∀ (z : Nat) (f : β) (x y : Option B), P z → NA x → NA y → ∃ (ρ1 : En) (x' y' : Option B), NA x' ∧ NA y' ∧ fg (nD z) (mk f x y) = some ρ1 ∧ fb ρ1 = some (.nx (mk (g f z) x' y'))) :
    ∀ (l : List Nat) (f : β) (x y : Option B), (∀ z ∈ l, P z) → NA x → NA y → ∃ (x' y' : Option B), NA x' ∧ NA y' ∧ forL fg fb (l.map nD) (mk f x y) = some (.nx (mk (l.foldl g f) x' y'))
  | [], f, x, y, _, hx, hy => ⟨x, y, hx, hy, rfl⟩
  | z :: l, f, x, y, hp, hx, hy => by
    obtain ⟨ρ1, x1, y1, h1, h2, e1, e2⟩ := step z f x y (hp z (.head _)) hx hy
    obtain ⟨x2, y2, h3, h4, e3⟩ := forL_foldN g P step l (g f z) x1 y1 (fun w hw => hp w (.tail _ hw)) h1 h2
    refine ⟨x2, y2, h3, h4, ?_⟩
    rw [List.map_cons, forL, e1]
    show (fb ρ1).bind _ = _
    rw [e2]
    exact e3
theorem due_ok (m : Nat) (t : Nat → Int) (L : Nat → List D) (hL : ∀ i, 0 ≤ t i ∧ Rws (L i) ∧ (L i).length ≤ 13) (ss : List Nat) (hs : ∀ s ∈ ss, s < m) : G_Ldue K C [.nd .lst ((List.range m).map (Ms C m t L)), .nd .lst (ss.map nD)] = some (.nd .lst (ss.foldl (bst t L) (-1, -1, [])).2.2) := by
  unfold G_Ldue f_Ldue b_Ldue
  dsimp only
  obtain ⟨x, y, hx, hy, e⟩ := forL_foldN (fg := fun d ρ => some (bindE 3 (.ro d) ρ)) (mk := fun b x y => eD (.nd .lst ((List.range m).map (Ms C m t L))) (.nd .lst (ss.map nD)) b x y) (fb := seqF (asgP 4 (ixP ixU (plVar 0) (dVar 3))) dueIf) (bst t L) (fun p => p < m) (fun z f x y hz hx hy => by
    obtain ⟨i1, i2⟩ := ms_get (C := C) m t L hz
    have hp : VL.plain (Ms C m t L z) = false := m_plain _ _ _ _ _ _ _ _ _
    have ho : fldD "of" (Ms C m t L z) = some (iD (t z)) := fl_of _ _ _ _ _ _ _ _ _
    have hl : fldD "log" (Ms C m t L z) = some (.nd .lst (L z)) := fl_log _ _ _ _ _ _ _ _ _
    obtain ⟨_, h2, h3⟩ := hL z
    have hd := due_if (M := .nd .lst ((List.range m).map (Ms C m t L))) (S := .nd .lst (ss.map nD)) (b := f) (x3 := some (.ro (nD z))) na_ro ho hl h2.plain (by omega)
    refine ⟨eD (.nd .lst ((List.range m).map (Ms C m t L))) (.nd .lst (ss.map nD)) f (some (.ro (nD z))) y, some (.ro (nD z)), some (.ro (Ms C m t L z)), na_ro, na_ro, by simp [eD, unroot_na hx, unroot_na hy, bindE, unroot_nil, unroot_own, unroot_ro], ?_⟩
    refine seqF_nx (ρ' := eD (.nd .lst ((List.range m).map (Ms C m t L))) (.nd .lst (ss.map nD)) f (some (.ro (nD z))) (some (.ro (Ms C m t L z)))) ?_ hd
    clear hd
    generalize Ms C m t L z = O at *
    generalize D.nd Kd.lst ((List.range m).map (Ms C m t L)) = MM at *
    unfold eD
    simp [i1, i2, hp, unroot_na hy, asgP, bD, bindE, dVar, ixP, plD, plKid, plVar, rootD, unroot_nil, unroot_own, unroot_ro]) ss (-1, -1, []) none none hs na_none na_none
  refine bodyP_rt (ρ' := [some (.ro (.nd .lst ((List.range m).map (Ms C m t L)))), some (.ro (.nd .lst (ss.map nD))), none, x, y]) (seqF_nx (ρ' := eD (.nd .lst ((List.range m).map (Ms C m t L))) (.nd .lst (ss.map nD)) (-1, -1, []) none none) ?_ (seqF_nx (ρ' := eD (.nd .lst ((List.range m).map (Ms C m t L))) (.nd .lst (ss.map nD)) (ss.foldl (bst t L) (-1, -1, [])) x y) ?_ ?_))
  · simp [List.replicate, eD, bD3, asgM, bindE, consM, int1, lstM, tupM, unroot_nil, unroot_ro, unroot_none, sl3]
  · exact e
  · generalize ss.foldl (bst t L) (-1, -1, []) = b
    unfold eD bD3
    simp [retPl, dkPos, getP, imm, ixD, ixN, ixP, ixU, keyOf, kidD, plD, plKid, plVar, VL.plain, plainL, rootD]
theorem rank_ok (m : Nat) (t : Nat → Int) (L : Nat → List D) (p : Nat) : G_rank_of_log K C [Ms C m t L p] = some (.nd .tup [iD (t p), iD (L p).length]) := by
  have ho : fldD "of" (Ms C m t L p) = some (iD (t p)) := fl_of _ _ _ _ _ _ _ _ _
  have hl : fldD "log" (Ms C m t L p) = some (.nd .lst (L p)) := fl_log _ _ _ _ _ _ _ _ _
  have hll : lenD [.nd .lst (L p)] = some (iD (L p).length) := by simp [lenD]
  simp [G_rank_of_log, f_rank_of_log, b_rank_of_log, ho, hl, hll, bD, bodyP, consA, consM, dVar, VL.plain, plainM, retF, tupM, sl2]
theorem max_go (m : Nat) (t : Nat → Int) (L : Nat → List D) : ∀ (ss : List Nat) (p : Nat), ∃ q, maxGoD (G_rank_of_log K C) (ss.map (Ms C m t L)) (Ms C m t L p) (t p, ((L p).length : Int)) = some (Ms C m t L q) ∧ (L q) = (ss.foldl (bst t L) (t p, ((L p).length : Int), L p)).2.2
  | [], p => ⟨p, rfl, rfl⟩
  | s :: ss, p => by
    rw [List.map_cons, maxGoD, rank_ok]
    show ∃ q, (if gt2 (t s) (L s).length (t p) (L p).length = true then _ else _) = _ ∧ _
    rw [List.foldl_cons]
    unfold bst
    by_cases c : gt2 (t s) (L s).length (t p) (L p).length = true
    · rw [if_pos c, if_pos c]
      exact max_go m t L ss s
    · rw [if_neg c, if_neg c]
      exact max_go m t L ss p
theorem compP_map {fe : En → Option Pl} {ρ0 : En} (h : Nat → D) (P : Nat → Prop) (st : ∀ s, P s → fe (bindE 0 (B.ro (nD s)) ρ0) = some (.ro (h s))) : ∀ (ss : List Nat), (∀ s ∈ ss, P s) → compP (fun d ρ => some (bindE 0 (B.ro d) ρ)) (fun x => some true) fe ρ0 (ss.map nD) = some (ss.map h)
  | [], _ => rfl
  | s :: ss, hp => by
    rw [List.map_cons, compP]
    show (fe (bindE 0 (B.ro (nD s)) ρ0)).bind _ = _
    rw [st s (hp s (.head _))]
    show Option.map _ (compP _ _ _ _ _) = _
    rw [compP_map h P st ss fun w hw => hp w (.tail _ hw)]
    rfl
theorem next_ok (m : Nat) (t : Nat → Int) (L : Nat → List D) (hL : ∀ i, 0 ≤ t i ∧ Rws (L i) ∧ (L i).length ≤ 13) (ss : List Nat) (hs : ∀ s ∈ ss, s < m) (h0 : 0 < ss.length) (hz : ss.length ≤ 100) : ∃ q, (ss.foldl (bst t L) (-1, -1, [])).2.2 = L q ∧ G_next_log K C [.nd .lst ((List.range m).map (Ms C m t L)), .nd .lst (ss.map nD)] = some (.nd .lst (L q)) := by
  have hlc : lcP 3 [none, some 0] [0] (fun ρ => (dVar 1 ρ).bind itemsD) (fun d ρ => some (bindE 0 (B.ro d) ρ)) (fun x => some true) (ixP ixU (plVar 1) (dVar 0)) [some (.ro (.nd .lst ((List.range m).map (Ms C m t L)))), some (.ro (.nd .lst (ss.map nD))), none] = some (.ro (.nd .lst (ss.map (Ms C m t L)))) := by
    have hc : compP (fun d ρ => some (bindE 0 (B.ro d) ρ)) (fun x => some true) (ixP ixU (plVar 1) (dVar 0)) [none, some (.ro (.nd .lst ((List.range m).map (Ms C m t L))))] (ss.map nD) = some (ss.map (Ms C m t L)) := compP_map (Ms C m t L) (fun s => s < m) (fun s hs => by
      obtain ⟨i1, i2⟩ := ms_get (C := C) m t L hs
      generalize Ms C m t L s = O at *
      generalize D.nd Kd.lst ((List.range m).map (Ms C m t L)) = MM at *
      simp [i1, i2, bD, bindE, dVar, ixP, plD, plKid, plVar, rootD, unroot_nil, unroot_ro, unroot_none]) ss hs
    have hz' : (ss.map nD).length ≤ sizeLine := by rw [List.length_map]; exact Nat.le_trans hz (by decide)
    have hp := n_plain ss
    unfold lcP
    refine Option.bind_eq_some_iff.mpr ⟨ss.map nD, ?_, ?_⟩
    · generalize ss.map nD = sd
      simp [bD, dVar, itemsD]
    · rw [if_pos ⟨hz', rfl, hp⟩]
      have ec : capR 3 [none, some 0] [some (.ro (.nd .lst ((List.range m).map (Ms C m t L)))), some (.ro (.nd .lst (ss.map nD))), none] = [none, some (.ro (.nd .lst ((List.range m).map (Ms C m t L))))] := rfl
      rw [ec, hc]
      rfl
  cases ss with
  | nil => exact absurd h0 (Nat.lt_irrefl _)
  | cons p ss =>
    obtain ⟨q, e1, e2⟩ := max_go (K := K) (C := C) m t L ss p
    have hf : (p :: ss).foldl (bst t L) (-1, -1, []) = ss.foldl (bst t L) (t p, ((L p).length : Int), L p) := by
      rw [List.foldl_cons]
      have hg : gt2 (t p) (L p).length (-1) (-1) = true := by
        unfold gt2
        have := (hL p).1
        rw [if_neg (by omega)]
        exact decide_eq_true (by omega)
      unfold bst
      rw [if_pos hg]
    refine ⟨q, by rw [hf, e2], ?_⟩
    have hmax : maxKP (G_rank_of_log K C) (.ro (.nd .lst ((p :: ss).map (Ms C m t L)))) = some (.ro (Ms C m t L q)) := by
      rw [List.map_cons]
      unfold maxKP
      dsimp only
      rw [rank_ok]
      show (maxGoD (G_rank_of_log K C) (ss.map (Ms C m t L)) (Ms C m t L p) (t p, ((L p).length : Int))).map _ = _
      rw [e1]
      rfl
    have hp : VL.plain (Ms C m t L q) = false := m_plain _ _ _ _ _ _ _ _ _
    have hl : fldD "log" (Ms C m t L q) = some (.nd .lst (L q)) := fl_log _ _ _ _ _ _ _ _ _
    have hco := copy_ok (K := K) (C := C) (L q) (hL q).2.1 (by have := (hL q).2.2; omega)
    unfold G_next_log f_next_log b_next_log
    dsimp only
    refine bodyP_rt (ρ' := [some (.ro (.nd .lst ((List.range m).map (Ms C m t L)))), some (.ro (.nd .lst ((p :: ss).map nD))), some (.ro (Ms C m t L q))]) (seqF_nx (ρ' := [some (.ro (.nd .lst ((List.range m).map (Ms C m t L)))), some (.ro (.nd .lst ((p :: ss).map nD))), some (.ro (Ms C m t L q))]) ?_ (retF_ok (map_ok ?_)))
    · unfold asgP
      refine Option.bind_eq_some_iff.mpr ⟨.ro (Ms C m t L q), Option.bind_eq_some_iff.mpr ⟨_, hlc, hmax⟩, ?_⟩
      generalize Ms C m t L q = O at *
      generalize D.nd Kd.lst ((List.range m).map (Ms C m t L)) = MM at *
      generalize D.nd Kd.lst ((p :: ss).map nD) = SS at *
      simp [hp, bindE, plD, unroot_nil, unroot_ro, unroot_none]
    · generalize Ms C m t L q = O at *
      generalize D.nd Kd.lst ((List.range m).map (Ms C m t L)) = MM at *
      generalize D.nd Kd.lst ((p :: ss).map nD) = SS at *
      generalize G_own_copy K C = GC at *
      simp [hl, hco, bD, consA, dVar]
end K30
namespace K30
open PySem L2 VL
variable {K : W.Frag} {C : Addr} [ClsI K C]
theorem rows_gd {R : List D} (h : Rws R) : Gd 60 (.nd .lst R) := h.gd.lst.mono (by decide)
theorem n_gd (ss : List Nat) : Gd 60 (.nd .lst (ss.map nD)) := (GdL.all (n := 0) fun d hd => by
  obtain ⟨k, _, rfl⟩ := List.mem_map.mp hd
  exact Gd.int k).lst.mono (by decide)
noncomputable def fM (m : Nat) (t : Nat → Int) (L : Nat → List D) (i : Nat) : D := fD i m (t i) (t i) (L i) 0 "hears"
theorem hearsOk : PyData.strOk "hears" = true := by decide +kernel
theorem f_gd0 (nu ma te o : Int) (L : List D) (dn : Int) (role : Str) (hL : Rws L) (h : PyData.strOk role = true) : Gd 3 (fD nu ma te o L dn role) :=
  (GdL.cons ((Gd.int _).mono (by decide)) (.cons ((Gd.int _).mono (by decide)) (.cons ((Gd.int _).mono (by decide)) (.cons ((Gd.int _).mono (by decide)) (.cons (hL.gd.lst.mono (by decide)) (.cons ((Gd.int _).mono (by decide)) (.cons ((Gd.str _ h).mono (by decide)) .nil))))))).tup
theorem fm_gd (m : Nat) (t : Nat → Int) (L : Nat → List D) (hL : ∀ i, Rws (L i)) : Gd 60 (.nd .lst ((List.range m).map (fM m t L))) := (GdL.all (n := 3) fun d hd => by
  obtain ⟨k, _, rfl⟩ := List.mem_map.mp hd
  exact f_gd0 k m (t k) (t k) (L k) 0 "hears" (hL k) hearsOk).lst.mono (by decide)
theorem ahead_ok (m : Nat) (hm : m < 100) (t : Nat → Int) (L : Nat → List D) (hL : ∀ i, Rws (L i)) {ρ : En} (h : dVar 4 ρ = some (.nd .lst ((List.range m).map (Ms C m t L)))) : lcF 11 [none] [0] (fun ρ => (dVar 4 ρ).bind itemsD) (fun d ρ => some (bindE 0 (B.ro d) ρ)) (fun x => some true) (fun ρ => (consA (dVar 0) (fun x => some []) ρ).bind fun ds => if ds.length = 1 then G_Lfields K C ds else none) ρ = some (.nd .lst ((List.range m).map (fM m t L))) := by
  have e := lcF_map (n := 11) (js := [none]) (is := [0]) (fi := fun ρ => (dVar 4 ρ).bind itemsD) (fg := fun d ρ => some (bindE 0 (B.ro d) ρ)) (ft := fun x => some true) (fe := fun ρ => (consA (dVar 0) (fun x => some []) ρ).bind fun ds => if ds.length = 1 then G_Lfields K C ds else none) (ρ := ρ) (List.range m) (Ms C m t L) (fun _ => true) (fM m t L) ?_ (by rw [List.length_range]; exact Nat.le_trans (by omega : m ≤ 100) (by decide)) rfl ?_
  · rw [List.filter_eq_self.mpr (fun _ _ => rfl)] at e
    exact e
  · rw [h]
    rfl
  · intro i _
    have hf : G_Lfields K C [Ms C m t L i] = some (fM m t L i) := fields_ok (K := K) (C := C) i m (t i) (t i) (L i) 0 "hears" noD noD (hL i)
    generalize G_Lfields K C = GF at *
    generalize Ms C m t L i = O at *
    simp [hf, bD, bindE, capE, consA, dVar, unroot_nil, unroot_none]
noncomputable def eL (cs : List Int) (k : Nat) (l : List D) (m : Nat) (MM A : D) (x6 x7 x8 x9 x10 : Option B) : En := [some (.ro (scr cs)), some (.ro (iD k)), some (.own (.nd .lst l)), some (.own (iD m)), some (.own MM), some (.own A), x6, x7, x8, x9, x10]
theorem law_turn (cs : List Int) (k m : Nat) (hm : 0 < m) (hm2 : m < 40) (t : Nat → Int) (L : Nat → List D) (hL : ∀ i, 0 ≤ t i ∧ Rws (L i) ∧ (L i).length ≤ 13) (A : D) (l : List D) (hl : Lp l) (x6 x7 x8 x9 x10 : Option B) (hx6 : NA x6) (hx7 : NA x7) (hx8 : NA x8) (hx9 : NA x9) (hx10 : NA x10) (Q : Fl → Prop)
    (hQ : ∀ (l : List D) (x6 x7 x8 x9 x10 : Option B), Lp l → NA x6 → NA x7 → NA x8 → NA x9 → NA x10 → Q (.nx (eL cs k l m (.nd .lst ((List.range m).map (Ms C m t L))) A x6 x7 x8 x9 x10))) : Ev (seqF (asgM 7 fun ρ => (Option.map (fun a => (a, ρ)) (cIo (plVar 2) (cRv (plVar 3) fun x => some []) ρ)).bind fun a => callR (G_Lsome K C) a.fst a.snd) (seqF (asgM 8 fun ρ => Option.map (fun d => (d, ρ)) ((consA (dVar 7) (fun x => some []) ρ).bind listD)) (seqF (asgM 9 fun ρ => Option.map (fun d => (d, ρ)) ((consA (dVar 4) (consA (dVar 7) fun x => some []) ρ).bind fun ds => if ds.length = 2 then G_Ldue K C ds else none)) (seqF (asgM 10 fun ρ => Option.map (fun d => (d, ρ)) ((consA (dVar 4) (consA (dVar 8) fun x => some []) ρ).bind fun ds => if ds.length = 2 then G_next_log K C ds else none)) (seqF (ifF (fun ρ => Option.map (fun b => (b, ρ)) (orT (fun ρ => Option.map (fun x => !x) (((consA (dVar 10) (consA (fun x => some (D.sc (V.ty "list"))) fun x => some []) ρ).bind (isiD "list")).bind fun x => match x with | D.sc (V.bl b) => some b | x => none)) (orT (fun ρ => (op2 (eqP fun x => !x) (dVar 10) (dVar 9) ρ).bind fun x => match x with | D.sc (V.bl b) => some b | x => none) fun ρ => (op2 (eqP fun x => !x) (dVar 8) (dVar 7) ρ).bind fun x => match x with | D.sc (V.bl b) => some b | x => none) ρ)) (retF fun ρ => Option.map (fun d => (d, ρ)) (some (D.sc (V.bl false)))) fun ρ => some (Fl.nx ρ)) (seqF (dropF (appF (plVar 10) (ndQ Kd.tup (consA (fun x => some (D.sc (V.str (Str.ofString "row")))) (consA (fun x => some (D.sc (V.int 99))) fun x => some []))))) (ifF (fun ρ => Option.map (fun b => (b, ρ)) ((op2 (eqP fun x => !x) (fun ρ => (consA (dVar 4) (consA (dVar 8) fun x => some []) ρ).bind fun ds => if ds.length = 2 then G_next_log K C ds else none) (dVar 9) ρ).bind fun x => match x with | D.sc (V.bl b) => some b | x => none)) (retF fun ρ => Option.map (fun d => (d, ρ)) (some (D.sc (V.bl false)))) fun ρ => some (Fl.nx ρ)))))))) (eL cs k l m (.nd .lst ((List.range m).map (Ms C m t L))) A x6 x7 x8 x9 x10) Q := by
  have hg : ∀ (M : D), getP M [] = some M := fun M => by cases M <;> rfl
  have hse : ∀ (M e : D), setP M [] e = e := fun M e => by cases M <;> rfl
  obtain ⟨ss, l', hl', h0, hz, hs, es⟩ := some_ok (K := K) (C := C) l hl m hm hm2
  have hd := due_ok (K := K) (C := C) m t L hL ss hs
  obtain ⟨q, eq1, en⟩ := next_ok (K := K) (C := C) m t L hL ss hs h0 (by omega)
  rw [eq1] at hd
  have pM : VL.plain (.nd .lst ((List.range m).map (Ms C m t L))) = false := by simp [VL.plain]
  have hli : listD [.nd .lst (ss.map nD)] = some (.nd .lst (ss.map nD)) := by
    have hp := n_plain ss
    have h9 : ss.length ≤ sizeLine := Nat.le_trans (by omega : ss.length ≤ 100) (by decide)
    simp [listD, hp]
  have n1 := ne_same (rows_gd (hL q).2.1)
  have n2 := ne_same (n_gd ss)
  have hap : appD (.nd .tup [sD "row", iD 99]) (L q) = some (L q ++ [.nd .tup [sD "row", iD 99]]) := by
    have h9 : (L q).length < sizeLine := Nat.lt_of_le_of_lt (by have := (hL q).2.2; omega : (L q).length ≤ 100) (by decide)
    simp [appD, h9]
  have pS : VL.plain (.nd .lst (ss.map nD)) = false := by simp [VL.plain]
  have iL : isiD "list" [.nd .lst (L q), .sc (.ty "list")] = some (tD true) := by simp [isiB, isiB, isiD, tyN, clNames]
  generalize L q ++ [.nd .tup [sD "row", iD 99]] = R2 at *
  have pR : VL.plain (.nd .lst (L q)) = false := by simp [VL.plain]
  clear hL hs eq1 h0 hz
  generalize L q = R at *
  generalize D.nd .lst ((List.range m).map (Ms C m t L)) = MM at *
  generalize D.nd .lst (ss.map nD) = SS at *
  refine Ev.nx (ρ' := eL cs k l' m MM A x6 (some (.own SS)) x8 x9 x10) ?_ ?_
  · unfold eL
    generalize G_Lsome K C = GS at *
    simp [es, unroot_na hx6, pruneB_na hx6, unroot_na hx7, pruneB_na hx7, unroot_na hx8, pruneB_na hx8, unroot_na hx9, pruneB_na hx9, unroot_na hx10, pruneB_na hx10, apartP, arD, arDs, arIos, asgM, bindE, cIo, cRv, callR, finE, getP, holeE, plD, plVar, VL.plain, prune, pB_own, pB_ro, putE, rootD, rootsApart, rvOk, setP, unroot_nil, unroot_own, unroot_ro]
  refine Ev.nx (ρ' := eL cs k l' m MM A x6 (some (.own SS)) (some (.own SS)) x9 x10) ?_ ?_
  · unfold eL
    simp [hli, unroot_na hx6, unroot_na hx8, unroot_na hx9, unroot_na hx10, asgM, bD, bindE, consA, dVar, unroot_nil, unroot_own, unroot_ro]
  refine Ev.nx (ρ' := eL cs k l' m MM A x6 (some (.own SS)) (some (.own SS)) (some (.own (.nd .lst R))) x10) ?_ ?_
  · unfold eL
    generalize G_Ldue K C = GD at *
    simp [hd, unroot_na hx6, unroot_na hx9, unroot_na hx10, asgM, bD, bindE, consA, dVar, unroot_nil, unroot_own, unroot_ro]
  refine Ev.nx (ρ' := eL cs k l' m MM A x6 (some (.own SS)) (some (.own SS)) (some (.own (.nd .lst R))) (some (.own (.nd .lst R)))) ?_ ?_
  · unfold eL
    generalize G_next_log K C = GN at *
    simp [en, unroot_na hx6, unroot_na hx10, asgM, bD, bindE, consA, dVar, unroot_nil, unroot_own, unroot_ro]
  refine Ev.nx (ρ' := eL cs k l' m MM A x6 (some (.own SS)) (some (.own SS)) (some (.own (.nd .lst R))) (some (.own (.nd .lst R)))) ?_ ?_
  · unfold eL
    simp [iL, n1, n2, bD, consA, dVar, ifF, op2, orT, retF]
  refine Ev.nx (ρ' := eL cs k l' m MM A x6 (some (.own SS)) (some (.own SS)) (some (.own (.nd .lst R))) (some (.own (.nd .lst R2)))) ?_ ?_
  · unfold eL
    simp [hap, pruneB_na hx6, appF, consA, dropF, editE, getP, lstEd, ndQ, nodeAt, plVar, prune, pB_own, pB_ro, rootD, setP, sl2]
  refine ⟨.nx (eL cs k l' m MM A x6 (some (.own SS)) (some (.own SS)) (some (.own (.nd .lst R))) (some (.own (.nd .lst R2)))), ?_, hQ l' _ _ _ _ _ hl' hx6 na_own na_own na_own na_own⟩
  unfold eL
  generalize G_next_log K C = GN at *
  simp [en, n1, bD, consA, dVar, ifF, op2, retF]
end K30
namespace K30
open PySem L2 VL
variable {K : W.Frag} {C : Addr} [ClsI K C]
theorem map_ok2 {x : Option Bool} {ρ : En} {b : Bool} (h : x = some b) : x.map (fun b => (b, ρ)) = some (b, ρ) := by rw [h]; rfl
theorem Ev.ifN {fc : En → Option (Bool × En)} {a b : En → Option Fl} {ρ ρ1 : En} {Q : Fl → Prop} (h : fc ρ = some (false, ρ1)) (hb : Ev b ρ1 Q) : Ev (ifF fc a b) ρ Q := by
  obtain ⟨fl, e, q⟩ := hb
  refine ⟨fl, ?_, q⟩
  unfold ifF
  rw [h]
  exact e
theorem made_call {GM : List D → Option (D × List D)} {c0 c1 : D} {l1 l2 : List D} {m : Nat} {MM : D} {x4 x5 x6 x7 x8 x9 x10 : Option B} (hx4 : NA x4) (hx5 : NA x5) (hx6 : NA x6) (hx7 : NA x7) (hx8 : NA x8) (hx9 : NA x9) (hx10 : NA x10) (e3 : GM [.nd .lst l1, iD m] = some (MM, [.nd .lst l2])) : (asgM 4 fun ρ => (Option.map (fun a => (a, ρ)) (cIo (plVar 2) (cRv (plVar 3) fun x => some []) ρ)).bind fun a => callR GM a.fst a.snd) [some (.ro c0), some (.ro c1), some (.own (.nd .lst l1)), some (.own (iD m)), x4, x5, x6, x7, x8, x9, x10] = some (.nx [some (.ro c0), some (.ro c1), some (.own (.nd .lst l2)), some (.own (iD m)), some (.own MM), x5, x6, x7, x8, x9, x10]) := by
  have hg : ∀ (M : D), getP M [] = some M := fun M => by cases M <;> rfl
  have hse : ∀ (M e : D), setP M [] e = e := fun M e => by cases M <;> rfl
  simp [e3, unroot_na hx4, pruneB_na hx4, unroot_na hx5, pruneB_na hx5, unroot_na hx6, pruneB_na hx6, unroot_na hx7, pruneB_na hx7, unroot_na hx8, pruneB_na hx8, unroot_na hx9, pruneB_na hx9, unroot_na hx10, pruneB_na hx10, apartP, arD, arDs, arIos, asgM, bindE, cIo, cRv, callR, finE, getP, holeE, plD, plVar, VL.plain, prune, pB_own, pB_ro, putE, rootD, rootsApart, rvOk, setP, unroot_nil, unroot_own, unroot_ro]
theorem law_ok (cs : List Int) (hn : ∀ f ∈ fns, NoAttr K C f) : G_law K C [scr cs] = some (tD true) := by
  have hg : ∀ (M : D), getP M [] = some M := fun M => by cases M <;> rfl
  have hse : ∀ (M e : D), setP M [] e = e := fun M e => by cases M <;> rfl
  obtain ⟨nk, hnk, hlen⟩ : ∃ nk : Nat, nk ≤ 10 ∧ (if (if (10 : Int) < (cs.length : Int) then (10 : Int) else (cs.length : Int)) > 1 then (if (10 : Int) < (cs.length : Int) then (10 : Int) else (cs.length : Int)) else 1) = (nk : Int) := by
    by_cases h8 : (10 : Int) < (cs.length : Int)
    · exact ⟨10, by decide, by rw [if_pos h8]; rfl⟩
    · rw [if_neg h8]
      by_cases h1 : (cs.length : Int) > 1
      · exact ⟨cs.length, by omega, by rw [if_pos h1]⟩
      · exact ⟨1, by decide, by rw [if_neg h1]; rfl⟩
  have key : ∃ d, G_law K C [scr cs] = some d ∧ d = tD true := by
    unfold G_law f_law b_law
    dsimp only
    refine bodyP_ev (Ev.seq (Ev.for (ds := rngD 0 nk) ?_ (fun ρ => ∃ x1 x2 x3 x4 x5 x6 x7 x8 x9 x10 : Option B, NA x1 ∧ NA x2 ∧ NA x3 ∧ NA x4 ∧ NA x5 ∧ NA x6 ∧ NA x7 ∧ NA x8 ∧ NA x9 ∧ NA x10 ∧ ρ = [some (.ro (scr cs)), x1, x2, x3, x4, x5, x6, x7, x8, x9, x10]) ⟨none, none, none, none, none, none, none, none, none, none, na_none, na_none, na_none, na_none, na_none, na_none, na_none, na_none, na_none, na_none, rfl⟩ ?_ ?_))
    · refine Option.bind_eq_some_iff.mpr ⟨[iD nk], ?_, rng1_ok nk (by omega)⟩
      rw [← hlen]
      simp [scr, bD, consA, dVar, int2D, lenD]
    · rintro dd hd ρ ⟨x1, x2, x3, x4, x5, x6, x7, x8, x9, x10, hx1, hx2, hx3, hx4, hx5, hx6, hx7, hx8, hx9, hx10, rfl⟩
      obtain ⟨k, hk, rfl⟩ := mem_rng hd
      rw [show (0 : Int) + (k : Int) = k from Int.zero_add _]
      obtain ⟨l, hl, e1⟩ := left_ok (K := K) (C := C) cs k (by omega)
      obtain ⟨d1, l1, a1, b1, hl1, e2⟩ := pick_ok (K := K) (C := C) l hl 7 (by decide) (by decide)
      obtain ⟨m, hm⟩ : ∃ m : Nat, 1 + d1 = (m : Int) := ⟨(1 + d1).toNat, by omega⟩
      obtain ⟨t, L, l2, hL, hl2, e3⟩ := made_ok (K := K) (C := C) l1 hl1 m (by omega) (by omega) hn
      have pM : VL.plain (.nd .lst ((List.range m).map (Ms C m t L))) = false := by simp [VL.plain]
      refine ⟨[some (.ro (scr cs)), some (.ro (iD k)), x2, x3, x4, x5, x6, x7, x8, x9, x10], (by simp [unroot_na hx1, unroot_na hx2, unroot_na hx3, unroot_na hx4, unroot_na hx5, unroot_na hx6, unroot_na hx7, unroot_na hx8, unroot_na hx9, unroot_na hx10, bindE, unroot_nil, unroot_ro]), ?_⟩
      refine Ev.nx (ρ' := [some (.ro (scr cs)), some (.ro (iD k)), some (.own (.nd .lst l)), x3, x4, x5, x6, x7, x8, x9, x10]) (by
        generalize G_Lleft K C = GL at *
        simp [e1, unroot_na hx2, unroot_na hx3, unroot_na hx4, unroot_na hx5, unroot_na hx6, unroot_na hx7, unroot_na hx8, unroot_na hx9, unroot_na hx10, asgM, bD, bindE, consA, dVar, unroot_nil, unroot_ro]) ?_
      refine Ev.nx (ρ' := [some (.ro (scr cs)), some (.ro (iD k)), some (.own (.nd .lst l1)), some (.own (iD m)), x4, x5, x6, x7, x8, x9, x10]) (by
        generalize G_Lpick K C = GP at *
        simp [e2, hm, unroot_na hx3, pruneB_na hx3, unroot_na hx4, pruneB_na hx4, unroot_na hx5, pruneB_na hx5, unroot_na hx6, pruneB_na hx6, unroot_na hx7, pruneB_na hx7, unroot_na hx8, pruneB_na hx8, unroot_na hx9, pruneB_na hx9, unroot_na hx10, pruneB_na hx10, addD, apartP, arD, arDs, arIos, asgM, bindE, cIo, cTm, callR, finE, getP, holeE, op2M, plVar, prune, pB_own, pB_ro, putE, rootD, rootsApart, rvOk, setP, unroot_nil, unroot_own, unroot_ro]) ?_
      refine Ev.nx (ρ' := [some (.ro (scr cs)), some (.ro (iD k)), some (.own (.nd .lst l2)), some (.own (iD m)), some (.own (.nd .lst ((List.range m).map (Ms C m t L)))), x5, x6, x7, x8, x9, x10]) (by
        exact made_call hx4 hx5 hx6 hx7 hx8 hx9 hx10 e3) ?_
      refine Ev.nx (ρ' := eL cs k l2 m (.nd .lst ((List.range m).map (Ms C m t L))) (.nd .lst ((List.range m).map (fM m t L))) x6 x7 x8 x9 x10) (asgM_ok (map_ok (ahead_ok m (by omega) t L (fun i => (hL i).2.1) rfl)) (by
        generalize D.nd .lst ((List.range m).map (Ms C m t L)) = MM at *
        generalize D.nd .lst ((List.range m).map (fM m t L)) = AA at *
        simp [eL, unroot_na hx5, unroot_na hx6, unroot_na hx7, unroot_na hx8, unroot_na hx9, unroot_na hx10, bindE, unroot_nil, unroot_own, unroot_ro])) (Ev.seq ?_)
      refine Ev.for (ds := rngD 0 3) (Option.bind_eq_some_iff.mpr ⟨[iD 3], rfl, rng1_ok 3 (by decide)⟩) (fun ρ => ∃ (l : List D) (x6 x7 x8 x9 x10 : Option B), Lp l ∧ NA x6 ∧ NA x7 ∧ NA x8 ∧ NA x9 ∧ NA x10 ∧ ρ = eL cs k l m (.nd .lst ((List.range m).map (Ms C m t L))) (.nd .lst ((List.range m).map (fM m t L))) x6 x7 x8 x9 x10) ⟨l2, x6, x7, x8, x9, x10, hl2, hx6, hx7, hx8, hx9, hx10, rfl⟩ ?_ ?_
      · rintro dj hj ρ ⟨l, x6, x7, x8, x9, x10, hl, hx6, hx7, hx8, hx9, hx10, rfl⟩
        refine ⟨eL cs k l m (.nd .lst ((List.range m).map (Ms C m t L))) (.nd .lst ((List.range m).map (fM m t L))) (some (.ro dj)) x7 x8 x9 x10, (by
          generalize D.nd .lst ((List.range m).map (Ms C m t L)) = MM at *
          generalize D.nd .lst ((List.range m).map (fM m t L)) = AA at *
          simp [eL, unroot_na hx6, unroot_na hx7, unroot_na hx8, unroot_na hx9, unroot_na hx10, bindE, unroot_nil, unroot_own, unroot_ro]), ?_⟩
        exact law_turn cs k m (by omega) (by omega) t L hL _ l hl _ _ _ _ _ na_ro hx7 hx8 hx9 hx10 _ fun l x6 x7 x8 x9 x10 hl h6 h7 h8 h9 h10 => ⟨l, x6, x7, x8, x9, x10, hl, h6, h7, h8, h9, h10, rfl⟩
      · rintro ρ ⟨l, x6, x7, x8, x9, x10, hl, hx6, hx7, hx8, hx9, hx10, rfl⟩
        have ha := ahead_ok (K := K) (C := C) m (by omega) t L (fun i => (hL i).2.1) (ρ := eL cs k l m (.nd .lst ((List.range m).map (Ms C m t L))) (.nd .lst ((List.range m).map (fM m t L))) x6 x7 x8 x9 x10) rfl
        have hne := ne_same (fm_gd m t L fun i => (hL i).2.1)
        refine Ev.ifN (ρ1 := eL cs k l m (.nd .lst ((List.range m).map (Ms C m t L))) (.nd .lst ((List.range m).map (fM m t L))) x6 x7 x8 x9 x10) (map_ok2 (Option.bind_eq_some_iff.mpr ⟨_, Option.bind_eq_some_iff.mpr ⟨_, ha, Option.bind_eq_some_iff.mpr ⟨_, rfl, hne⟩⟩, rfl⟩)) ⟨_, rfl, _, _, _, _, _, _, _, _, _, _, na_ro, na_own, na_own, na_own, na_own, hx6, hx7, hx8, hx9, hx10, rfl⟩
    · rintro ρ ⟨x1, x2, x3, x4, x5, x6, x7, x8, x9, x10, hx1, hx2, hx3, hx4, hx5, hx6, hx7, hx8, hx9, hx10, rfl⟩
      simp [Ev, retF]
  obtain ⟨d, e, rfl⟩ := key
  exact e
end K30
namespace K30
open PySem L2 VL
noncomputable def spLawF (K : W.Frag) : Sp := fun vs H Q _ => ∃ (a : Addr) (ns : List Int), vs = [.ref a] ∧ FrL K H a (ns.map V.int) ∧ ns.length ≤ 63 ∧ ∀ H', Q (.bl true) H'
theorem frl_of {K : W.Frag} {H : Hp} {a : Addr} {vs : List V} (hO : Only H) (hS : SqL K H a vs) : FrL K H a vs := by
  rcases hS with (e | ⟨o, e⟩) | h
  · rcases hO a with z | ⟨o, xs, z⟩
    · rw [z] at e; cases e
    · rw [z] at e; cases e
  · exact .inl ⟨o, e⟩
  · exact .inr h
theorem vw_scr {K : W.Frag} {H : Hp} {a : Addr} {ns : List Int} (h : FrL K H a (ns.map V.int)) : VwL K H T1 [.ref a] [scr ns] := by
  refine ⟨rfl, fun i v d hv hd => ?_⟩
  cases i with
  | succ i => simp at hv
  | zero =>
    cases hv
    cases hd
    refine .nd (fun z => by cases z) ⟨trivial, h⟩ (by simp) fun i v d hv hd => ?_
    rw [List.getElem?_map] at hv hd
    cases e : ns[i]? with
    | none => rw [e] at hv; cases hv
    | some x =>
      rw [e] at hv hd
      cases hv
      cases hd
      exact .sc _
theorem all_mk {l : W.OpenLaw} {w : World} {K : W.Frag} {h : Heap} {mg : Str → Option Value} {C fI fH : Addr} {odI anI odH anH : Option Addr} {slI slH : Array (Option Value)} {ocI kVI dcI pmI cdI ctI ocH kVH dcH pmH cdH ctH : Value} {fa f0 f1 f2 f3 f4 f5 f6 f7 f8 f9 f10 f11 f12 f13 f14 f15 f16 f17 : Addr} (X : K.In h) (G : h.Ns mainGlobals mg) (hfa : mg "law" = some (.ref fa))
    {od0 an0 od1 an1 od2 an2 od3 an3 od4 an4 od5 an5 od6 an6 od7 an7 od8 an8 od9 an9 od10 an10 od11 an11 od12 an12 od13 an13 od14 an14 od15 an15 od16 an16 od17 an17 : Option Addr} {sl0 sl1 sl2 sl3 sl4 sl5 sl6 sl7 sl8 sl9 sl10 sl11 sl12 sl13 sl14 sl15 sl16 sl17 : Array (Option Value)} {oc0 kV0 dc0 pm0 cd0 ct0 oc1 kV1 dc1 pm1 cd1 ct1 oc2 kV2 dc2 pm2 cd2 ct2 oc3 kV3 dc3 pm3 cd3 ct3 oc4 kV4 dc4 pm4 cd4 ct4 oc5 kV5 dc5 pm5 cd5 ct5 oc6 kV6 dc6 pm6 cd6 ct6 oc7 kV7 dc7 pm7 cd7 ct7 oc8 kV8 dc8 pm8 cd8 ct8 oc9 kV9 dc9 pm9 cd9 ct9 oc10 kV10 dc10 pm10 cd10 ct10 oc11 kV11 dc11 pm11 cd11 ct11 oc12 kV12 dc12 pm12 cd12 ct12 oc13 kV13 dc13 pm13 cd13 ct13 oc14 kV14 dc14 pm14 cd14 ct14 oc15 kV15 dc15 pm15 cd15 ct15 oc16 kV16 dc16 pm16 cd16 ct16 oc17 kV17 dc17 pm17 cd17 ct17 : Value}
    (a0 : W.nsIn K mainGlobals "_law_cell_at" = some (some (.ref f0))) (l0 : K.lookup f0 = some ⟨oc0, od0, .func (W.fnOf "_law_cell_at" "_law_cell_at" (defArgs s_Lcell_at) (defBody s_Lcell_at) (defScope s_Lcell_at) .none kV0 dc0 pm0 an0 cd0 ct0), sl0⟩) (c0 : W.codeIn K cd0 "_law_cell_at" = true) (k0 : W.keepIn K (.ref f0) = true)
    (a1 : W.nsIn K mainGlobals "_law_mix" = some (some (.ref f1))) (l1 : K.lookup f1 = some ⟨oc1, od1, .func (W.fnOf "_law_mix" "_law_mix" (defArgs s_Lmix) (defBody s_Lmix) (defScope s_Lmix) .none kV1 dc1 pm1 an1 cd1 ct1), sl1⟩) (c1 : W.codeIn K cd1 "_law_mix" = true) (k1 : W.keepIn K (.ref f1) = true)
    (a2 : W.nsIn K mainGlobals "_law_rich" = some (some (.ref f2))) (l2 : K.lookup f2 = some ⟨oc2, od2, .func (W.fnOf "_law_rich" "_law_rich" (defArgs s_Lrich) (defBody s_Lrich) (defScope s_Lrich) .none kV2 dc2 pm2 an2 cd2 ct2), sl2⟩) (c2 : W.codeIn K cd2 "_law_rich" = true) (k2 : W.keepIn K (.ref f2) = true)
    (a3 : W.nsIn K mainGlobals "_law_left" = some (some (.ref f3))) (l3 : K.lookup f3 = some ⟨oc3, od3, .func (W.fnOf "_law_left" "_law_left" (defArgs s_Lleft) (defBody s_Lleft) (defScope s_Lleft) .none kV3 dc3 pm3 an3 cd3 ct3), sl3⟩) (c3 : W.codeIn K cd3 "_law_left" = true) (k3 : W.keepIn K (.ref f3) = true)
    (a4 : W.nsIn K mainGlobals "_law_pick" = some (some (.ref f4))) (l4 : K.lookup f4 = some ⟨oc4, od4, .func (W.fnOf "_law_pick" "_law_pick" (defArgs s_Lpick) (defBody s_Lpick) (defScope s_Lpick) .none kV4 dc4 pm4 an4 cd4 ct4), sl4⟩) (c4 : W.codeIn K cd4 "_law_pick" = true) (k4 : W.keepIn K (.ref f4) = true)
    (a5 : W.nsIn K mainGlobals "is_fixed" = some (some (.ref f5))) (l5 : K.lookup f5 = some ⟨oc5, od5, .func (W.fnOf "is_fixed" "is_fixed" (defArgs s_is_fixed) (defBody s_is_fixed) (defScope s_is_fixed) .none kV5 dc5 pm5 an5 cd5 ct5), sl5⟩) (c5 : W.codeIn K cd5 "is_fixed" = true) (k5 : W.keepIn K (.ref f5) = true)
    (a6 : W.nsIn K mainGlobals "own_copy" = some (some (.ref f6))) (l6 : K.lookup f6 = some ⟨oc6, od6, .func (W.fnOf "own_copy" "own_copy" (defArgs s_own_copy) (defBody s_own_copy) (defScope s_own_copy) .none kV6 dc6 pm6 an6 cd6 ct6), sl6⟩) (c6 : W.codeIn K cd6 "own_copy" = true) (k6 : W.keepIn K (.ref f6) = true)
    (a7 : W.nsIn K mainGlobals "take_behind" = some (some (.ref f7))) (l7 : K.lookup f7 = some ⟨oc7, od7, .func (W.fnOf "take_behind" "take_behind" (defArgs s_take_behind) (defBody s_take_behind) (defScope s_take_behind) .none kV7 dc7 pm7 an7 cd7 ct7), sl7⟩) (c7 : W.codeIn K cd7 "take_behind" = true) (k7 : W.keepIn K (.ref f7) = true)
    (a8 : W.nsIn K mainGlobals "take_rows" = some (some (.ref f8))) (l8 : K.lookup f8 = some ⟨oc8, od8, .func (W.fnOf "take_rows" "take_rows" (defArgs s_take_rows) (defBody s_take_rows) (defScope s_take_rows) .none kV8 dc8 pm8 an8 cd8 ct8), sl8⟩) (c8 : W.codeIn K cd8 "take_rows" = true) (k8 : W.keepIn K (.ref f8) = true)
    (a9 : W.nsIn K mainGlobals "hear_keep" = some (some (.ref f9))) (l9 : K.lookup f9 = some ⟨oc9, od9, .func (W.fnOf "hear_keep" "hear_keep" (defArgs s_hear_keep) (defBody s_hear_keep) (defScope s_hear_keep) .none kV9 dc9 pm9 an9 cd9 ct9), sl9⟩) (c9 : W.codeIn K cd9 "hear_keep" = true) (k9 : W.keepIn K (.ref f9) = true)
    (a10 : W.nsIn K mainGlobals "_law_rows" = some (some (.ref f10))) (l10 : K.lookup f10 = some ⟨oc10, od10, .func (W.fnOf "_law_rows" "_law_rows" (defArgs s_Lrows) (defBody s_Lrows) (defScope s_Lrows) .none kV10 dc10 pm10 an10 cd10 ct10), sl10⟩) (c10 : W.codeIn K cd10 "_law_rows" = true) (k10 : W.keepIn K (.ref f10) = true)
    (a11 : W.nsIn K mainGlobals "_law_made" = some (some (.ref f11))) (l11 : K.lookup f11 = some ⟨oc11, od11, .func (W.fnOf "_law_made" "_law_made" (defArgs s_Lmade) (defBody s_Lmade) (defScope s_Lmade) .none kV11 dc11 pm11 an11 cd11 ct11), sl11⟩) (c11 : W.codeIn K cd11 "_law_made" = true) (k11 : W.keepIn K (.ref f11) = true)
    (a12 : W.nsIn K mainGlobals "_law_fields" = some (some (.ref f12))) (l12 : K.lookup f12 = some ⟨oc12, od12, .func (W.fnOf "_law_fields" "_law_fields" (defArgs s_Lfields) (defBody s_Lfields) (defScope s_Lfields) .none kV12 dc12 pm12 an12 cd12 ct12), sl12⟩) (c12 : W.codeIn K cd12 "_law_fields" = true) (k12 : W.keepIn K (.ref f12) = true)
    (a13 : W.nsIn K mainGlobals "_law_some" = some (some (.ref f13))) (l13 : K.lookup f13 = some ⟨oc13, od13, .func (W.fnOf "_law_some" "_law_some" (defArgs s_Lsome) (defBody s_Lsome) (defScope s_Lsome) .none kV13 dc13 pm13 an13 cd13 ct13), sl13⟩) (c13 : W.codeIn K cd13 "_law_some" = true) (k13 : W.keepIn K (.ref f13) = true)
    (a14 : W.nsIn K mainGlobals "_law_due" = some (some (.ref f14))) (l14 : K.lookup f14 = some ⟨oc14, od14, .func (W.fnOf "_law_due" "_law_due" (defArgs s_Ldue) (defBody s_Ldue) (defScope s_Ldue) .none kV14 dc14 pm14 an14 cd14 ct14), sl14⟩) (c14 : W.codeIn K cd14 "_law_due" = true) (k14 : W.keepIn K (.ref f14) = true)
    (a15 : W.nsIn K mainGlobals "rank_of_log" = some (some (.ref f15))) (l15 : K.lookup f15 = some ⟨oc15, od15, .func (W.fnOf "rank_of_log" "rank_of_log" (defArgs s_rank_of_log) (defBody s_rank_of_log) (defScope s_rank_of_log) .none kV15 dc15 pm15 an15 cd15 ct15), sl15⟩) (c15 : W.codeIn K cd15 "rank_of_log" = true) (k15 : W.keepIn K (.ref f15) = true)
    (a16 : W.nsIn K mainGlobals "next_log" = some (some (.ref f16))) (l16 : K.lookup f16 = some ⟨oc16, od16, .func (W.fnOf "next_log" "next_log" (defArgs s_next_log) (defBody s_next_log) (defScope s_next_log) .none kV16 dc16 pm16 an16 cd16 ct16), sl16⟩) (c16 : W.codeIn K cd16 "next_log" = true) (k16 : W.keepIn K (.ref f16) = true)
    (a17 : W.nsIn K mainGlobals "law" = some (some (.ref f17))) (l17 : K.lookup f17 = some ⟨oc17, od17, .func (W.fnOf "law" "law" (defArgs s_law) (defBody s_law) (defScope s_law) .none kV17 dc17 pm17 an17 cd17 ct17), sl17⟩) (c17 : W.codeIn K cd17 "law" = true) (k17 : W.keepIn K (.ref f17) = true)
    (z0 : W.nsIn K mainGlobals "len" = some none)
    (z1 : W.nsIn K mainGlobals "range" = some none)
    (z2 : W.nsIn K mainGlobals "list" = some none)
    (z3 : W.nsIn K mainGlobals "tuple" = some none)
    (z4 : W.nsIn K mainGlobals "int" = some none)
    (z5 : W.nsIn K mainGlobals "max" = some none)
    (z6 : W.nsIn K mainGlobals "min" = some none)
    (z7 : W.nsIn K mainGlobals "all" = some none)
    (z8 : W.nsIn K mainGlobals "any" = some none)
    (z9 : W.nsIn K mainGlobals "isinstance" = some none)
    (z10 : W.nsIn K mainGlobals "str" = some none)
    (z11 : W.nsIn K mainGlobals "bool" = some none)
    (z12 : W.nsIn K mainGlobals "dict" = some none)
    (z13 : W.nsIn K mainGlobals "sorted" = some none)
    (gSh : W.nsIn K mainGlobals "Master" = some (some (.ref C)))
    (aI : W.findIn K (.ref C) "__init__" = some (some (.ref fI)))
    (iI : W.isFn K (.ref fI) = true)
    (lI : K.lookup fI = some ⟨ocI, odI, .func (W.fnOf "__init__" "Master.__init__" (defArgs s_Master_init) (defBody s_Master_init) (defScope s_Master_init) .none kVI dcI pmI anI cdI ctI), slI⟩)
    (cI : W.codeIn K cdI "Master.__init__" = true)
    (kI : W.keepIn K (.ref fI) = true)
    (aH : W.findIn K (.ref C) "hear" = some (some (.ref fH)))
    (iH : W.isFn K (.ref fH) = true)
    (lH : K.lookup fH = some ⟨ocH, odH, .func (W.fnOf "hear" "Master.hear" (defArgs s_Master_hear) (defBody s_Master_hear) (defScope s_Master_hear) .none kVH dcH pmH anH cdH ctH), slH⟩)
    (cH : W.codeIn K cdH "Master.hear" = true)
    (kH : W.keepIn K (.ref fH) = true)
    (pg : W.plainGet K C Str.empty = true)
    (hd : W.hasDictIn K C = true)
    (po : W.plainOver K C = true)
    (sa : W.findIn K (.ref C) "__setattr__" = some (some (.builtin "object.__setattr__")))
    (mk : W.makesIn K C = true)
    (kc : W.keepIn K (.ref C) = true)
    (n0 : W.findIn K (.ref C) "number" = some none)
    (n1 : W.findIn K (.ref C) "many" = some none)
    (n2 : W.findIn K (.ref C) "term" = some none)
    (n3 : W.findIn K (.ref C) "of" = some none)
    (n4 : W.findIn K (.ref C) "log" = some none)
    (n5 : W.findIn K (.ref C) "done" = some none)
    (n6 : W.findIn K (.ref C) "role" = some none)
    (n7 : W.findIn K (.ref C) "voices" = some none)
    (n8 : W.findIn K (.ref C) "sizes" = some none)
    (n9 : W.findIn K (.ref C) "fixed" = some none)
    : ∃ fd : FuncData, (∀ (s : Shared) (v : Value), BindsTo s fd ⟨[v], []⟩ [("_law_script", v)]) ∧ ∀ base : Heap, K.In base → base.Ns mainGlobals mg → FnOk l.prog w K mg base CX0 13 fa fd ["_law_script"] (spLawF K) := by
  have e := hfa.symm.trans (W.mg_of X G a17)
  cases e
  have T : Txt mg := ⟨W.mg_none_of X G z0, W.mg_none_of X G z1, W.mg_none_of X G z2, W.mg_none_of X G z3, W.mg_none_of X G z4, W.mg_none_of X G z5, W.mg_none_of X G z6, W.mg_none_of X G z7, W.mg_none_of X G z8, W.mg_none_of X G z9, W.mg_none_of X G z10, W.mg_none_of X G z11, W.mg_none_of X G z12, W.mg_none_of X G z13⟩
  have F_Lcell_at := fun_mk (st := s_Lcell_at) l0 c0 k0
  have b_Lcell_at := F_Lcell_at.binds (ps := ["_law_script", "_law_k"]) fun _ _ _ _ _ _ us hl => match us, hl with | [_, _], _ => rfl
  have m_Lcell_at := W.mg_of X G a0
  have F_Lmix := fun_mk (st := s_Lmix) l1 c1 k1
  have b_Lmix := F_Lmix.binds (ps := ["_law_cell", "_law_k"]) fun _ _ _ _ _ _ us hl => match us, hl with | [_, _], _ => rfl
  have m_Lmix := W.mg_of X G a1
  have F_Lrich := fun_mk (st := s_Lrich) l2 c2 k2
  have b_Lrich := F_Lrich.binds (ps := ["_law_cell", "_law_k"]) fun _ _ _ _ _ _ us hl => match us, hl with | [_, _], _ => rfl
  have m_Lrich := W.mg_of X G a2
  have F_Lleft := fun_mk (st := s_Lleft) l3 c3 k3
  have b_Lleft := F_Lleft.binds (ps := ["_law_script", "_law_k"]) fun _ _ _ _ _ _ us hl => match us, hl with | [_, _], _ => rfl
  have m_Lleft := W.mg_of X G a3
  have F_Lpick := fun_mk (st := s_Lpick) l4 c4 k4
  have b_Lpick := F_Lpick.binds (ps := ["_law_left_here", "_law_many"]) fun _ _ _ _ _ _ us hl => match us, hl with | [_, _], _ => rfl
  have m_Lpick := W.mg_of X G a4
  have F_is_fixed := fun_mk (st := s_is_fixed) l5 c5 k5
  have b_is_fixed := F_is_fixed.binds (ps := ["value"]) fun _ _ _ _ _ _ us hl => match us, hl with | [_], _ => rfl
  have m_is_fixed := W.mg_of X G a5
  have F_own_copy := fun_mk (st := s_own_copy) l6 c6 k6
  have b_own_copy := F_own_copy.binds (ps := ["value"]) fun _ _ _ _ _ _ us hl => match us, hl with | [_], _ => rfl
  have m_own_copy := W.mg_of X G a6
  have F_take_behind := fun_mk (st := s_take_behind) l7 c7 k7
  have b_take_behind := F_take_behind.binds (ps := ["master", "rows"]) fun _ _ _ _ _ _ us hl => match us, hl with | [_, _], _ => rfl
  have m_take_behind := W.mg_of X G a7
  have F_take_rows := fun_mk (st := s_take_rows) l8 c8 k8
  have b_take_rows := F_take_rows.binds (ps := ["master", "rows"]) fun _ _ _ _ _ _ us hl => match us, hl with | [_, _], _ => rfl
  have m_take_rows := W.mg_of X G a8
  have F_hear_keep := fun_mk (st := s_hear_keep) l9 c9 k9
  have b_hear_keep := F_hear_keep.binds (ps := ["master", "sender", "term", "rows", "done"]) fun _ _ _ _ _ _ us hl => match us, hl with | [_, _, _, _, _], _ => rfl
  have m_hear_keep := W.mg_of X G a9
  have F_Lrows := fun_mk (st := s_Lrows) l10 c10 k10
  have b_Lrows := F_Lrows.binds (ps := ["_law_term", "_law_many"]) fun _ _ _ _ _ _ us hl => match us, hl with | [_, _], _ => rfl
  have m_Lrows := W.mg_of X G a10
  have F_Lmade := fun_mk (st := s_Lmade) l11 c11 k11
  have b_Lmade := F_Lmade.binds (ps := ["_law_left_here", "_law_many"]) fun _ _ _ _ _ _ us hl => match us, hl with | [_, _], _ => rfl
  have m_Lmade := W.mg_of X G a11
  have F_Lfields := fun_mk (st := s_Lfields) l12 c12 k12
  have b_Lfields := F_Lfields.binds (ps := ["_law_one"]) fun _ _ _ _ _ _ us hl => match us, hl with | [_], _ => rfl
  have m_Lfields := W.mg_of X G a12
  have F_Lsome := fun_mk (st := s_Lsome) l13 c13 k13
  have b_Lsome := F_Lsome.binds (ps := ["_law_left_here", "_law_many"]) fun _ _ _ _ _ _ us hl => match us, hl with | [_, _], _ => rfl
  have m_Lsome := W.mg_of X G a13
  have F_Ldue := fun_mk (st := s_Ldue) l14 c14 k14
  have b_Ldue := F_Ldue.binds (ps := ["_law_masters", "_law_some_here"]) fun _ _ _ _ _ _ us hl => match us, hl with | [_, _], _ => rfl
  have m_Ldue := W.mg_of X G a14
  have F_rank_of_log := fun_mk (st := s_rank_of_log) l15 c15 k15
  have b_rank_of_log := F_rank_of_log.binds (ps := ["master"]) fun _ _ _ _ _ _ us hl => match us, hl with | [_], _ => rfl
  have m_rank_of_log := W.mg_of X G a15
  have F_next_log := fun_mk (st := s_next_log) l16 c16 k16
  have b_next_log := F_next_log.binds (ps := ["masters", "some"]) fun _ _ _ _ _ _ us hl => match us, hl with | [_, _], _ => rfl
  have m_next_log := W.mg_of X G a16
  have F_law := fun_mk (st := s_law) l17 c17 k17
  refine ⟨W.fnOf "law" "law" (defArgs s_law) (defBody s_law) (defScope s_law) .none kV17 dc17 pm17 an17 cd17 ct17, fun s v => .of_eq rfl, fun base _ _ => ?_⟩
  have cls : Cls K C := ⟨pg, hd, po, sa⟩
  haveI : ClsI K C := ⟨cls⟩
  have C_Lcell_at : Cal l.prog w K mg base "_law_cell_at" ["_law_script", "_law_k"] 1 (spP K 2 (G_Lcell_at K C)) := Cal.of F_Lcell_at b_Lcell_at m_Lcell_at (ok_Lcell_at (Cm := C) F_Lcell_at T )
  have C_Lmix : Cal l.prog w K mg base "_law_mix" ["_law_cell", "_law_k"] 1 (spP K 2 (G_Lmix K C)) := Cal.of F_Lmix b_Lmix m_Lmix (ok_Lmix (Cm := C) F_Lmix T )
  have C_Lrich : Cal l.prog w K mg base "_law_rich" ["_law_cell", "_law_k"] 2 (spP K 2 (G_Lrich K C)) := Cal.of F_Lrich b_Lrich m_Lrich (ok_Lrich (Cm := C) F_Lrich T C_Lmix)
  have C_Lleft : Cal l.prog w K mg base "_law_left" ["_law_script", "_law_k"] 3 (spP K 2 (G_Lleft K C)) := Cal.of F_Lleft b_Lleft m_Lleft (ok_Lleft (Cm := C) F_Lleft T C_Lcell_at C_Lrich)
  have C_Lpick : Cal l.prog w K mg base "_law_pick" ["_law_left_here", "_law_many"] 1 (spI K [true, false] (G_Lpick K C)) := Cal.of F_Lpick b_Lpick m_Lpick (ok_Lpick (Cm := C) F_Lpick T )
  have F_I := fun_mk (st := s_Master_init) lI cI kI
  have b_I := F_I.binds (ps := ["self", "number", "many"]) fun _ _ _ _ _ _ us hl => match us, hl with | [_, _, _], _ => rfl
  have C_Master_init : CalC l.prog w K mg base "Master" C ["self", "number", "many"] 1 (spI K (true :: List.replicate 2 false) (G_Master_init K C)) := ⟨cls, fI, _, ok_Master_init (Cm := C) F_I T , b_I, ⟨mk, aI, iI, kc⟩, W.mg_of X G gSh⟩
  have C_is_fixed : Cal l.prog w K mg base "is_fixed" ["value"] 4 (spP K 1 (G_is_fixed K C)) := Cal.of F_is_fixed b_is_fixed m_is_fixed (ok_is_fixed (Cm := C) F_is_fixed T b_is_fixed m_is_fixed  3)
  have C_own_copy : Cal l.prog w K mg base "own_copy" ["value"] 4 (spP K 1 (G_own_copy K C)) := Cal.of F_own_copy b_own_copy m_own_copy (ok_own_copy (Cm := C) F_own_copy T b_own_copy m_own_copy  3)
  have C_take_behind : Cal l.prog w K mg base "take_behind" ["master", "rows"] 5 (spI K [true, false] (G_take_behind K C)) := Cal.of F_take_behind b_take_behind m_take_behind (ok_take_behind (Cm := C) F_take_behind T C_is_fixed C_own_copy)
  have C_take_rows : Cal l.prog w K mg base "take_rows" ["master", "rows"] 6 (spI K [true, false] (G_take_rows K C)) := Cal.of F_take_rows b_take_rows m_take_rows (ok_take_rows (Cm := C) F_take_rows T C_take_behind)
  have C_hear_keep : Cal l.prog w K mg base "hear_keep" ["master", "sender", "term", "rows", "done"] 8 (spI K [true, false, false, false, false] (G_hear_keep K C)) := Cal.of F_hear_keep b_hear_keep m_hear_keep (ok_hear_keep (Cm := C) F_hear_keep T C_take_rows)
  have F_H := fun_mk (st := s_Master_hear) lH cH kH
  have b_H := F_H.binds (ps := ["self", "message"]) fun _ _ _ _ _ _ us hl => match us, hl with | [_, _], _ => rfl
  have C_Master_hear : CalM l.prog w K mg base C "hear" ["self", "message"] 10 (spI K [true, false] (G_Master_hear K C)) := ⟨cls, fH, _, ok_Master_hear (Cm := C) F_H T C_hear_keep, b_H, ⟨aH, iH, kH⟩⟩
  have C_Lrows : Cal l.prog w K mg base "_law_rows" ["_law_term", "_law_many"] 1 (spP K 2 (G_Lrows K C)) := Cal.of F_Lrows b_Lrows m_Lrows (ok_Lrows (Cm := C) F_Lrows T )
  have C_Lmade : Cal l.prog w K mg base "_law_made" ["_law_left_here", "_law_many"] 11 (spI K [true, false] (G_Lmade K C)) := Cal.of F_Lmade b_Lmade m_Lmade (ok_Lmade (Cm := C) F_Lmade T C_Master_init C_Lpick C_Master_hear C_Lrows)
  have C_Lfields : Cal l.prog w K mg base "_law_fields" ["_law_one"] 1 (spP K 1 (G_Lfields K C)) := Cal.of F_Lfields b_Lfields m_Lfields (ok_Lfields (Cm := C) F_Lfields T )
  have C_Lsome : Cal l.prog w K mg base "_law_some" ["_law_left_here", "_law_many"] 2 (spI K [true, false] (G_Lsome K C)) := Cal.of F_Lsome b_Lsome m_Lsome (ok_Lsome (Cm := C) F_Lsome T C_Lpick)
  have C_Ldue : Cal l.prog w K mg base "_law_due" ["_law_masters", "_law_some_here"] 1 (spP K 2 (G_Ldue K C)) := Cal.of F_Ldue b_Ldue m_Ldue (ok_Ldue (Cm := C) F_Ldue T )
  have C_rank_of_log : Cal l.prog w K mg base "rank_of_log" ["master"] 1 (spP K 1 (G_rank_of_log K C)) := Cal.of F_rank_of_log b_rank_of_log m_rank_of_log (ok_rank_of_log (Cm := C) F_rank_of_log T )
  have C_next_log : Cal l.prog w K mg base "next_log" ["masters", "some"] 6 (spP K 2 (G_next_log K C)) := Cal.of F_next_log b_next_log m_next_log (ok_next_log (Cm := C) F_next_log T C_rank_of_log C_own_copy)
  have hn : ∀ f ∈ fns, NoAttr K C f := by
    intro f hf
    simp only [fns, List.mem_cons, List.not_mem_nil, or_false] at hf
    rcases hf with rfl | rfl | rfl | rfl | rfl | rfl | rfl | rfl | rfl | rfl
    all_goals assumption
  exact (ok_law (Cm := C) F_law T C_Lleft C_Lpick C_Lmade C_Lfields C_Lsome C_Ldue C_next_log).imp fun vs H Q E h => by
    obtain ⟨a, ns, rfl, hF, hl, qq⟩ := h
    exact ⟨[scr ns], tD true, rfl, vw_scr hF, law_ok ns hn, fun v H' _ o => by
      have e : v = .bl true := (Own.vw o).scal
      subst e
      exact qq H'⟩
theorem walk {l : W.OpenLaw} {q : Program} {loose : List Str} {XP : (Str → Option Value) → Heap → Prop} {YP : World → Heap → Prop} {d : DefRec} {K : Params → W.Frag} (hn : l.most = some 63) (hdf : d.params.defaults = [])
    (hY : ∀ (w : World) (h : Heap), YP w h → (K w.params).In h)
    (F : ∀ (w : World) (mg : Str → Option Value) (fa : Addr) (h : Heap), (K w.params).In h → h.Ns mainGlobals mg → mg d.name = some (.ref fa) →
      ∃ fd : FuncData, (∀ (s : Shared) (u : Value), BindsTo s fd ⟨[u], []⟩ [("_law_script", u)]) ∧ ∀ base : Heap, (K w.params).In base → base.Ns mainGlobals mg → FnOk l.prog w (K w.params) mg base CX0 13 fa fd ["_law_script"] (spLawF (K w.params))) :
    W.WalkO q loose XP YP l.row.toRowW d [] (fun f vs => PySem.call f vs) :=
  L2.walk_of (n := 63) (k := 13) (x := "_law_script") (CX := fun _ => CX0) (sp := fun w => spLawF (K w.params)) hn (by decide) hdf ⟨rfl, by decide, by decide, rfl⟩ hY F (fun _ _ a ns hl hO hS => ⟨a, ns, rfl, frl_of hO hS, hl, fun _ => rfl⟩) fun _ _ _ _ _ z => z
end K30
namespace PySem.W.Fast
def tw12210394283794142113 := ()
def tw10142952836466763459 := ()
def tw12870529788602938564 := ()
def tw7771487743615936996 := ()
def tw6891994915221819430 := ()
def tw376129878119603302 := ()
def tw16785094057593816712 := ()
def tw10722609816705668110 := ()
def tw936396354553884751 := ()
def tw13847259383691997168 := ()
def tw10946220607851636018 := ()
def tw6466099660761555443 := ()
def tw15306249183764016758 := ()
def tw12424679442107070680 := ()
def tw2812704717146243993 := ()
end PySem.W.Fast
open PySem PySem.W PyProof.Rows
set_option maxRecDepth 100000 in
set_option maxHeartbeats 0 in
theorem PySem.Challenge.cw_farshelf_k30_the_next_log_holds : PySem.Challenge.rw_farshelf_k30_the_next_log.Holds := by
  w_on; o_law; k_head; (case hw => w_witness2)
  k_fill
  refine K30.walk (l := PySem.Challenge.rw_farshelf_k30_the_next_log) rfl rfl (fun w h Y => W.kIn_of Y) ?F
  case F =>
    intro w mg fa h KX G hmg
    refine' K30.all_mk KX G hmg ?a0 ?l0 ?c0 ?k0 ?a1 ?l1 ?c1 ?k1 ?a2 ?l2 ?c2 ?k2 ?a3 ?l3 ?c3 ?k3 ?a4 ?l4 ?c4 ?k4 ?a5 ?l5 ?c5 ?k5 ?a6 ?l6 ?c6 ?k6 ?a7 ?l7 ?c7 ?k7 ?a8 ?l8 ?c8 ?k8 ?a9 ?l9 ?c9 ?k9 ?a10 ?l10 ?c10 ?k10 ?a11 ?l11 ?c11 ?k11 ?a12 ?l12 ?c12 ?k12 ?a13 ?l13 ?c13 ?k13 ?a14 ?l14 ?c14 ?k14 ?a15 ?l15 ?c15 ?k15 ?a16 ?l16 ?c16 ?k16 ?a17 ?l17 ?c17 ?k17 ?z0 ?z1 ?z2 ?z3 ?z4 ?z5 ?z6 ?z7 ?z8 ?z9 ?z10 ?z11 ?z12 ?z13 ?gSh ?aI ?iI ?lI ?cI ?kI ?aH ?iH ?lH ?cH ?kH ?pg ?hd ?po ?sa ?mk ?kc ?n0 ?n1 ?n2 ?n3 ?n4 ?n5 ?n6 ?n7 ?n8 ?n9
    (case a0 => k_is)
    (case l0 => k_is)
    (case c0 => k_is)
    (case k0 => k_is)
    (case a1 => k_is)
    (case l1 => k_is)
    (case c1 => k_is)
    (case k1 => k_is)
    (case a2 => k_is)
    (case l2 => k_is)
    (case c2 => k_is)
    (case k2 => k_is)
    (case a3 => k_is)
    (case l3 => k_is)
    (case c3 => k_is)
    (case k3 => k_is)
    (case a4 => k_is)
    (case l4 => k_is)
    (case c4 => k_is)
    (case k4 => k_is)
    (case a5 => k_is)
    (case l5 => k_is)
    (case c5 => k_is)
    (case k5 => k_is)
    (case a6 => k_is)
    (case l6 => k_is)
    (case c6 => k_is)
    (case k6 => k_is)
    (case a7 => k_is)
    (case l7 => k_is)
    (case c7 => k_is)
    (case k7 => k_is)
    (case a8 => k_is)
    (case l8 => k_is)
    (case c8 => k_is)
    (case k8 => k_is)
    (case a9 => k_is)
    (case l9 => k_is)
    (case c9 => k_is)
    (case k9 => k_is)
    (case a10 => k_is)
    (case l10 => k_is)
    (case c10 => k_is)
    (case k10 => k_is)
    (case a11 => k_is)
    (case l11 => k_is)
    (case c11 => k_is)
    (case k11 => k_is)
    (case a12 => k_is)
    (case l12 => k_is)
    (case c12 => k_is)
    (case k12 => k_is)
    (case a13 => k_is)
    (case l13 => k_is)
    (case c13 => k_is)
    (case k13 => k_is)
    (case a14 => k_is)
    (case l14 => k_is)
    (case c14 => k_is)
    (case k14 => k_is)
    (case a15 => k_is)
    (case l15 => k_is)
    (case c15 => k_is)
    (case k15 => k_is)
    (case a16 => k_is)
    (case l16 => k_is)
    (case c16 => k_is)
    (case k16 => k_is)
    (case a17 => k_is)
    (case l17 => k_is)
    (case c17 => k_is)
    (case k17 => k_is)
    (case z0 => k_is)
    (case z1 => k_is)
    (case z2 => k_is)
    (case z3 => k_is)
    (case z4 => k_is)
    (case z5 => k_is)
    (case z6 => k_is)
    (case z7 => k_is)
    (case z8 => k_is)
    (case z9 => k_is)
    (case z10 => k_is)
    (case z11 => k_is)
    (case z12 => k_is)
    (case z13 => k_is)
    (case gSh => k_is)
    (case aI => k_is)
    (case iI => k_is)
    (case lI => k_is)
    (case cI => k_is)
    (case kI => k_is)
    (case aH => k_is)
    (case iH => k_is)
    (case lH => k_is)
    (case cH => k_is)
    (case kH => k_is)
    (case pg => k_is)
    (case hd => k_is)
    (case po => k_is)
    (case sa => k_is)
    (case mk => k_is)
    (case kc => k_is)
    (case n0 => k_is)
    (case n1 => k_is)
    (case n2 => k_is)
    (case n3 => k_is)
    (case n4 => k_is)
    (case n5 => k_is)
    (case n6 => k_is)
    (case n7 => k_is)
    (case n8 => k_is)
    (case n9 => k_is)
