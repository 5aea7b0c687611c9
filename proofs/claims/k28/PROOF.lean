import PyProof.Rows.All
import Wide.All
import OpenK.AllK
import Wide.FinOn
import Lean
import PyProof.EqAt
import PyProof.EqKinds
import PyProof.TupleCall
import PyProof.WalksEnum
import PyProof.EnumMake
import PyProof.Rows.EnumRows
import PyProof.NeData
import PyProof.ReprRoads
import PyProof.SumWalkG
import PyProof.StrLawsTight
import PyProof.Rows.StrNews
import PyProof.Rows.StrJoin2
import PyProof.Rows.CatFin
import PyProof.ConsumeWalk
import PyProof.StrWalks
import KE.KItemsList
import KE.KSortTup
import PyProof.ZipIter
import PySem.Challenge.RW_farshelf_k28_how_much_is_written
set_option Elab.async false
set_option linter.all false
set_option maxRecDepth 100000
namespace L2
open PySem PySem.Spec PyProof.Rows
abbrev Key := Sum Int Str
def keyIs : Key → Value → Bool
  | .inl k, v => Value.isInt k v
  | .inr x, v => Value.isStrOf x v
def keyH (w : World) : Key → Int
  | .inl k => hashInt k
  | .inr x => hashStr w x
theorem keyIs_shape : ∀ {k : Key} {v : Value}, keyIs k v = true → (∃ i t, k = Sum.inl i ∧ v = Value.int i t) ∨ (∃ x t, k = Sum.inr x ∧ v = Value.str x t)
  | .inl i, v, h => by
    obtain ⟨t, e⟩ := Value.isInt_shape (k := i) (v := v) h
    exact .inl ⟨i, t, rfl, e⟩
  | .inr x, v, h => by
    obtain ⟨t, e⟩ := Value.isStrOf_shape (x := x) (v := v) h
    exact .inr ⟨x, t, rfl, e⟩
theorem keyIs_int (i : Int) (t : Tok) : keyIs (.inl i) (.int i t) = true := by simp [keyIs, Value.isInt]
theorem keyIs_str (x : Str) (t : Tok) : keyIs (.inr x) (.str x t) = true := by simp [keyIs, Value.isStrOf]
theorem key_ll (a b : Int) : decide ((Sum.inl a : Key) = Sum.inl b) = (a == b) := by
  by_cases e : a = b
  · subst e; simp
  · have h : ¬ (Sum.inl a : Key) = Sum.inl b := fun q => e (Sum.inl.inj q)
    rw [decide_eq_false h]
    exact (beq_eq_false_iff_ne.mpr e).symm
theorem key_rr (a b : Str) : decide ((Sum.inr a : Key) = Sum.inr b) = decide (a = b) := by
  by_cases e : a = b
  · subst e; simp
  · have h : ¬ (Sum.inr a : Key) = Sum.inr b := fun q => e (Sum.inr.inj q)
    rw [decide_eq_false h, decide_eq_false e]
theorem key_lr (a : Int) (b : Str) : decide ((Sum.inl a : Key) = Sum.inr b) = false := decide_eq_false (fun q => nomatch q)
theorem key_rl (a : Str) (b : Int) : decide ((Sum.inr a : Key) = Sum.inl b) = false := decide_eq_false (fun q => nomatch q)
def mixKind (prog : Program) (w : World) : PySem.KeyKind prog w Key where
  is := keyIs
  hash := keyH w
  inj := fun v a b ha hb => by
    rcases keyIs_shape ha with ⟨i, t, rfl, rfl⟩ | ⟨x, t, rfl, rfl⟩
    · rcases keyIs_shape hb with ⟨j, u, rfl, e⟩ | ⟨y, u, rfl, e⟩
      · injection e with e1 _; rw [e1]
      · exact nomatch e
    · rcases keyIs_shape hb with ⟨j, u, rfl, e⟩ | ⟨y, u, rfl, e⟩
      · exact nomatch e
      · injection e with e1 _; rw [e1]
  byValue := fun k v h => by
    rcases keyIs_shape h with ⟨i, t, rfl, rfl⟩ | ⟨x, t, rfl, rfl⟩ <;> rfl
  pyHash := fun hv h => by
    rcases keyIs_shape hv with ⟨i, t, rfl, rfl⟩ | ⟨x, t, rfl, rfl⟩
    · exact wpAny_pyHash_int h
    · exact wpAny_pyHash_str h
  eqBool := fun hu hv h => by
    rcases keyIs_shape hu with ⟨i, t, rfl, rfl⟩ | ⟨x, t, rfl, rfl⟩
    · rcases keyIs_shape hv with ⟨j, u, rfl, rfl⟩ | ⟨y, u, rfl, rfl⟩
      · rw [key_ll] at h; exact wpAny_eqBool_int h
      · rw [key_lr] at h; exact SeqAt.EqAt.int_str i t y u _ _ _ _ h
    · rcases keyIs_shape hv with ⟨j, u, rfl, rfl⟩ | ⟨y, u, rfl, rfl⟩
      · rw [key_rl] at h; exact SeqAt.EqAt.str_int x t j u _ _ _ _ h
      · rw [key_rr] at h; exact wpAny_eqBool_str h
  «strs» := fun k x t v h => by
    rcases keyIs_shape h with ⟨i, u, rfl, e⟩ | ⟨y, u, rfl, e⟩
    · exact nomatch e
    · injection e with e1 _
      subst e1
      cases v <;> rfl
theorem mixKind_int (prog : Program) (w : World) (i : Int) (t : Tok) : (mixKind prog w).is (.inl i) (.int i t) = true := keyIs_int i t
theorem mixKind_str (prog : Program) (w : World) (x : Str) (t : Tok) : (mixKind prog w).is (.inr x) (.str x t) = true := keyIs_str x t
end L2
namespace L2
open PySem PySem.Spec PyProof.Rows
inductive V where
  | non | bl (b : Bool) | int (i : Int) | str (x : Str) | byt (b : Array UInt8) | flt (b : UInt64) | ref (a : Addr) | ty (n : String)
  deriving DecidableEq
def RelV : V → Value → Prop
  | .non, u => u = Value.none
  | .bl b, u => u = Value.bool b
  | .int i, u => ∃ t, u = Value.int i t
  | .str x, u => ∃ t, u = Value.str x t
  | .byt b, u => ∃ t, u = Value.bytes b t
  | .flt b, u => ∃ t, u = Value.float b t
  | .ref a, u => u = Value.ref a
  | .ty n, u => u = Value.type n
abbrev Vals : List V → List Value → Prop := Paired RelV
theorem Vals.length {xs : List V} {us : List Value} (r : Vals xs us) : xs.length = us.length := Paired.length r
theorem Vals.get : ∀ {xs : List V} {us : List Value} {i : Nat} {x : V}, Vals xs us → xs[i]? = some x → ∃ u, us[i]? = some u ∧ RelV x u
  | _, _, _, _, .nil, e => by simp at e
  | _, _, 0, _, .cons r _, e => by simp at e; subst e; exact ⟨_, rfl, r⟩
  | _, _, i + 1, x, .cons _ t, e => by
    obtain ⟨u, h1, h2⟩ := Vals.get (i := i) (x := x) t (by simpa using e)
    exact ⟨u, by simpa using h1, h2⟩
theorem Vals.set {x : V} {u : Value} (r : RelV x u) : ∀ {xs : List V} {us : List Value} (i : Nat), Vals xs us → Vals (xs.set i x) (us.set i u)
  | _, _, _, .nil => .nil
  | _, _, 0, .cons _ t => .cons r t
  | _, _, i + 1, .cons q t => .cons q (Vals.set r i t)
theorem Vals.append : ∀ {xs ys : List V} {us ws : List Value}, Vals xs us → Vals ys ws → Vals (xs ++ ys) (us ++ ws)
  | _, _, _, _, .nil, s => s
  | _, _, _, _, .cons r t, s => .cons r (Vals.append t s)
theorem Vals.take : ∀ {xs : List V} {us : List Value} (n : Nat), Vals xs us → Vals (xs.take n) (us.take n)
  | _, _, 0, _ => .nil
  | _, _, _ + 1, .nil => .nil
  | _, _, n + 1, .cons r t => .cons r (Vals.take n t)
theorem Vals.drop : ∀ {xs : List V} {us : List Value} (n : Nat), Vals xs us → Vals (xs.drop n) (us.drop n)
  | _, _, 0, r => r
  | _, _, _ + 1, .nil => .nil
  | _, _, n + 1, .cons _ t => Vals.drop n t
def RelO : Option V → Option Value → Prop
  | some v, some u => RelV v u
  | none, none => True
  | _, _ => False
def KV {κ : Type} : List (κ × V) → List (κ × Value) → Prop := Paired fun (p : κ × V) (q : κ × Value) => p.1 = q.1 ∧ RelV p.2 q.2
def kV : Key → V
  | .inl i => .int i
  | .inr x => .str x
inductive HO where
    | lst (xs : List V)
    | tup (xs : List V)
    | dK (kvs : List (Key × V)) | dT (kvs : List (List Key × V))
    | set (S : Int → Bool) (n : Nat)
    | ins (C dx : Addr) (fs : List (Str × V))
    | own (x : Addr)
    | xd (fs : List (Str × V))
    | met (f x : Addr)
    | rng (lo hi : Int)
    | frz (o : Obj) (u : HO)
    | tbl (ps : Array Value)
    | ext (φ : Heap → Prop)
abbrev Hp := Addr → Option HO
def upd (H : Hp) (a : Addr) (o : HO) : Hp := fun b => if b = a then some o else H b
theorem upd_same {H : Hp} {a : Addr} {o : HO} : upd H a o a = some o := by unfold upd; rw [if_pos rfl]
theorem upd_ne {H : Hp} {a b : Addr} {o : HO} (h : b ≠ a) : upd H a o b = H b := by unfold upd; rw [if_neg h]
theorem ne_of {H : Hp} {a b : Addr} {o u : HO} (h : H a = some o) (h' : H b = some u) (d : o ≠ u) : a ≠ b := by
  intro e; subst e; rw [h] at h'; exact d (Option.some.inj h')
theorem ne_of_none {H : Hp} {a b : Addr} {o : HO} (h : H a = some o) (h' : H b = none) : a ≠ b := by
  intro e; subst e; rw [h] at h'; cases h'
section
variable (P : Program) (w : World)
def ObjOk (H : Hp) (h : Heap) (a : Addr) : HO → Prop
  | .lst xs => xs.length ≤ sizeLine ∧ ∃ (its : List Value) (n : Nat), Vals xs its ∧ h.get? a = some { cls := .type "list", data := .seq its.toArray n }
  | .tup xs => xs.length ≤ sizeLine ∧ ∃ its : List Value, Vals xs its ∧ IsTup h a its.toArray
  | .dK kvs => kvs.length ≤ sizeLine ∧ (a == sysModules) = false ∧ ∃ vs, KV kvs vs ∧ h.DictOf (mixKind P w) a vs
  | .dT kvs => kvs.length ≤ sizeLine ∧ (a == sysModules) = false ∧ ∃ xs : List (List Key × Addr × Value),
      Paired (fun (p : List Key × V) (q : List Key × Addr × Value) => p.1 = q.1 ∧ H q.2.1 = some (.tup (p.1.map kV)) ∧ RelV p.2 q.2.2) kvs xs ∧
      ∃ o es ep, h.get? a = some o ∧ o.ExactDict ∧ o.data = .dict es ep ∧ es.toList = xs.map (entryOfKey (tupleKind (mixKind P w))) ∧ (xs.map (·.1)).Nodup
  | .set S n => h.SetOf (intKind P w) a S n
  | .ins C dx fs => H dx = some (.own a) ∧ fs.length ≤ 1000 ∧ dx ≠ a ∧ h.get? a = some (W.instObj C dx) ∧
      ∃ mA, h.Ns1 dx mA ∧ (∀ f, RelO (fs.lookup f) (mA f)) ∧ PySem.Within mA (fs.map (·.1))
  | .own _ => ∃ o, h.get? a = some o
  | .xd fs => ∃ mA, h.Ns1 a mA ∧ ∀ f, RelO (fs.lookup f) (mA f)
  | .rng lo hi => ∃ t u v, h.get? a = some { cls := .type "range", data := .fields #[.int lo t, .int hi u, .int 1 v] }
  | .frz o u => h.get? a = some o ∧ ObjOk H h a u
  | .tbl ps => h.get? a = some { cls := .none, data := .fields ps }
  | .met f x => h.get? a = some (W.methodObj (.ref f) (.ref x))
  | .ext φ => φ h ∧ (∃ o, h.get? a = some o) ∧ ∀ h1 h2 : Heap, φ h1 → (∀ o, h1.get? a = some o → h2.get? a = some o) → φ h2
def HOk (H : Hp) (h : Heap) : Prop := ∀ a o, H a = some o → ObjOk P w H h a o
end
section
variable {P : Program} {w : World} {H H' : Hp} {h h' : Heap} {a : Addr} {o : HO}
theorem ObjOk.lt (x : ObjOk P w H h a o) : a < h.objs.size := by
  cases o with
  | lst xs => obtain ⟨_, _, _, _, e⟩ := x; exact Heap.lt_size e
  | tup xs => obtain ⟨_, _, _, p⟩ := x; exact p.lt
  | dK kvs => obtain ⟨_, _, _, _, o, _, _, e, _⟩ := x; exact Heap.lt_size e
  | dT kvs => obtain ⟨_, _, _, _, o, _, _, e, _⟩ := x; exact Heap.lt_size e
  | set S n => obtain ⟨o, _, _, _, e, _⟩ := x; exact Heap.lt_size e
  | ins C dx fs => obtain ⟨_, _, _, e, _⟩ := x; exact Heap.lt_size e
  | own y => obtain ⟨_, e⟩ := x; exact Heap.lt_size e
  | xd fs => obtain ⟨_, ⟨_, _, _, e, _⟩, _⟩ := x; exact Heap.lt_size e
  | rng lo hi => obtain ⟨_, _, _, e⟩ := x; exact Heap.lt_size e
  | frz ob u => obtain ⟨e, _⟩ := x; exact Heap.lt_size e
  | tbl ps => exact Heap.lt_size (show h.get? a = some _ from x)
  | met f y => exact Heap.lt_size (show h.get? a = some _ from x)
  | ext φ => obtain ⟨_, ⟨_, e⟩, _⟩ := x; exact Heap.lt_size e
theorem Paired.mapP {α β : Type} {F G : α → β → Prop} : ∀ {l₁ : List α} {l₂ : List β}, Paired F l₁ l₂ → (∀ a b, F a b → G a b) → Paired G l₁ l₂
  | _, _, .nil, _ => .nil
  | _, _, .cons r t, f => .cons (f _ _ r) (Paired.mapP t f)
theorem ObjOk.stay (x : ObjOk P w H h a o) (k : ∀ b u, (b = a ∨ H b = some (.own a)) → h.get? b = some u → h'.get? b = some u)
    (ho : ∀ b, H b = some (.own a) → H' b = some (.own a)) (ht : ∀ b xs, H b = some (.tup xs) → H' b = some (.tup xs)) : ObjOk P w H' h' a o := by
  induction o with
  | lst xs => obtain ⟨z, its, n, r, e⟩ := x; exact ⟨z, its, n, r, k _ _ (.inl rfl) e⟩
  | tup xs => obtain ⟨z, its, r, ob, e, c⟩ := x; exact ⟨z, its, r, ob, k _ _ (.inl rfl) e, c⟩
  | dK kvs => obtain ⟨z, y, vs, r, ob, es, ep, e, c⟩ := x; exact ⟨z, y, vs, r, ob, es, ep, k _ _ (.inl rfl) e, c⟩
  | dT kvs =>
    obtain ⟨z, y, xs, r, ob, es, ep, e, c⟩ := x
    exact ⟨z, y, xs, Paired.mapP r fun p q z => ⟨z.1, ht _ _ z.2.1, z.2.2⟩, ob, es, ep, k _ _ (.inl rfl) e, c⟩
  | set S n => obtain ⟨ob, es, ep, t, e, c⟩ := x; exact ⟨ob, es, ep, t, k _ _ (.inl rfl) e, c⟩
  | ins C dx fs =>
    obtain ⟨d, z, ne, e, mA, ⟨od, es, ep, e2, c⟩, r⟩ := x
    exact ⟨ho _ d, z, ne, k _ _ (.inl rfl) e, mA, ⟨od, es, ep, k _ _ (.inr d) e2, c⟩, r⟩
  | own y => obtain ⟨ob, e⟩ := x; exact ⟨ob, k _ _ (.inl rfl) e⟩
  | xd fs => obtain ⟨mA, ⟨od, es, ep, e, c⟩, r⟩ := x; exact ⟨mA, ⟨od, es, ep, k _ _ (.inl rfl) e, c⟩, r⟩
  | rng lo hi => obtain ⟨t, u, v, e⟩ := x; exact ⟨t, u, v, k _ _ (.inl rfl) e⟩
  | frz ob u ih => obtain ⟨e, q⟩ := x; exact ⟨k _ _ (.inl rfl) e, ih q⟩
  | tbl ps =>
    have e : h.get? a = some { cls := .none, data := .fields ps } := x
    show h'.get? a = some { cls := .none, data := .fields ps }
    exact k a _ (.inl rfl) e
  | met f y =>
    have e : h.get? a = some (W.methodObj (.ref f) (.ref y)) := x
    show h'.get? a = some (W.methodObj (.ref f) (.ref y))
    exact k a _ (.inl rfl) e
  | ext φ => obtain ⟨p, ⟨o, e⟩, st⟩ := x; exact ⟨st _ _ p fun o q => k _ _ (.inl rfl) q, ⟨o, k _ _ (.inl rfl) e⟩, st⟩
theorem HOk.lt (x : HOk P w H h) (e : H a = some o) : a < h.objs.size := (x a o e).lt
theorem HOk.fresh (x : HOk P w H h) (e : h.objs.size ≤ a) : H a = none := by
  cases q : H a with
  | none => rfl
  | some u => exact absurd (Nat.lt_of_lt_of_le (x.lt q) e) (Nat.lt_irrefl _)
theorem HOk.kept (x : HOk P w H h) (k : ∀ b u, h.get? b = some u → h'.get? b = some u) : HOk P w H h' := fun a o e =>
  (x a o e).stay (fun b u _ q => k b u q) (fun _ q => q) fun _ _ q => q
theorem HOk.laid (x : HOk P w H h) (k : ∀ b u, h.get? b = some u → h'.get? b = some u) (hp : h.objs.size ≤ a) (new : ObjOk P w (upd H a o) h' a o) : HOk P w (upd H a o) h' := fun b u e => by
  have hn := x.fresh hp
  by_cases hb : b = a
  · subst hb; rw [upd_same] at e; cases e; exact new
  · rw [upd_ne hb] at e
    exact (x b u e).stay (fun c v _ q => k c v q) (fun c q => by rw [upd_ne (ne_of_none q hn)]; exact q) fun c xs q => by rw [upd_ne (ne_of_none q hn)]; exact q
end
def Rd (H : Hp) (a : Addr) (u : HO) : Prop := H a = some u ∨ ∃ o, H a = some (.frz o u)
theorem Rd.ok {P : Program} {w : World} {H : Hp} {h : Heap} {a : Addr} {u : HO} (r : Rd H a u) (x : HOk P w H h) : ObjOk P w H h a u := by
  rcases r with r | ⟨o, r⟩
  · exact x a u r
  · obtain ⟨_, q⟩ := x a _ r
    exact q
def Mut : Option HO → Prop
  | some (.lst _) => True
  | some (.dK _) => True
  | some (.dT _) => True
  | some (.set _ _) => True
  | some (.ins _ _ _) => True
  | some (.ext _) => True
  | _ => False
section
variable {P : Program} {w : World} {H : Hp} {h h' : Heap} {x e : Addr} {o' : HO}
theorem HOk.write (ok : HOk P w H h) (mu : Mut (H x)) (he : e = x ∨ H e = some (.own x)) (k : ∀ b u, b ≠ e → h.get? b = some u → h'.get? b = some u) (heo : ∃ u, h'.get? e = some u)
    (new : ObjOk P w (upd H x o') h' x o') : HOk P w (upd H x o') h' := fun b u q => by
  have nown : ∀ c y, H c = some (.own y) → c ≠ x := fun c y r z => by subst z; rw [r] at mu; exact mu
  have ntup : ∀ c xs, H c = some (.tup xs) → c ≠ x := fun c xs r z => by subst z; rw [r] at mu; exact mu
  by_cases hb : b = x
  · subst hb; rw [upd_same] at q; cases q; exact new
  · rw [upd_ne hb] at q
    by_cases hbe : b = e
    · have q' : H b = some (.own x) := by
        rcases he with z | z
        · exact absurd (hbe.trans z) hb
        · rw [hbe]; exact z
      rw [q] at q'; cases q'
      obtain ⟨v, hv⟩ := heo
      exact ⟨v, by rw [hbe]; exact hv⟩
    · refine (ok b u q).stay (fun c v hc r => k c v ?_ r) (fun c r => by rw [upd_ne (nown c b r)]; exact r) fun c xs r => by rw [upd_ne (ntup c xs r)]; exact r
      rcases hc with rfl | hc
      · exact hbe
      · rintro rfl
        rcases he with z | z
        · exact nown c b hc z
        · rw [hc] at z; cases z; exact hb rfl
end
structure Un (fs ex : List Addr) (H H' : Hp) (h h' : Heap) : Prop where
  keep : ∀ b o, h.get? b = some o → H b = none → b ∉ fs → b ∉ ex → h'.get? b = some o
  slot : ∀ b o, h.get? b = some o → H b = none → b ∈ fs → b ∉ ex → ∃ sl, h'.get? b = some { o with slots := sl }
  free : ∀ b o, h.get? b = some o → H b = none → b ∉ ex → H' b = none
  there : ∀ b o, h.get? b = some o → b ∉ ex → ∃ o', h'.get? b = some o'
  tups : ∀ b xs, H b = some (.tup xs) → H' b = some (.tup xs)
  frzs : ∀ b o u, H b = some (.frz o u) → H' b = some (.frz o u)
  tbls : ∀ b ps, H b = some (.tbl ps) → ∃ more, H' b = some (.tbl (ps ++ more))
section
variable {fs fs' ex ex' : List Addr} {H H1 H2 : Hp} {h h1 h2 h' : Heap} {a x e : Addr} {o : HO}
theorem Un.any (u : Un fs ex H H1 h h1) {b : Addr} {ob : Obj} (q : h.get? b = some ob) (n : H b = none) (hx : b ∉ ex) : ∃ sl, h1.get? b = some { ob with slots := sl } := by
  by_cases hb : b ∈ fs
  · exact u.slot b ob q n hb hx
  · exact ⟨ob.slots, u.keep b ob q n hb hx⟩
theorem Un.kept (k : ∀ b u, h.get? b = some u → h'.get? b = some u) : Un fs ex H H h h' :=
  ⟨fun b ob q _ _ _ => k b ob q, fun b ob q _ _ _ => ⟨ob.slots, k b ob q⟩, fun _ _ _ n _ => n, fun b ob q _ => ⟨ob, k b ob q⟩, fun _ _ q => q, fun _ _ _ q => q, fun _ ps q => ⟨#[], by rw [q]; simp⟩⟩
theorem Un.refl : Un fs ex H H h h := Un.kept fun _ _ q => q
theorem Un.laid (k : ∀ b u, h.get? b = some u → h'.get? b = some u) (hp : h.objs.size ≤ a) (hn : H a = none) : Un fs ex H (upd H a o) h h' where
  keep := fun b u q _ _ _ => k b u q
  slot := fun b u q _ _ _ => ⟨u.slots, k b u q⟩
  free := fun b u q n _ => by rw [upd_ne (Nat.ne_of_lt (Nat.lt_of_lt_of_le (Heap.lt_size q) hp))]; exact n
  there := fun b u q _ => ⟨u, k b u q⟩
  tups := fun b xs q => by rw [upd_ne (ne_of_none q hn)]; exact q
  frzs := fun b u xs q => by rw [upd_ne (ne_of_none q hn)]; exact q
  tbls := fun b ps q => ⟨#[], by rw [upd_ne (ne_of_none q hn), q]; simp⟩
theorem Un.write (mu : Mut (H x)) (he : e = x ∨ H e = some (.own x)) (k : ∀ b u, b ≠ e → h.get? b = some u → h'.get? b = some u) (heo : ∃ u, h'.get? e = some u) : Un fs ex H (upd H x o) h h' := by
  have hx : ∀ b, H b = none → b ≠ x := fun b n z => by subst z; rw [n] at mu; exact mu
  have hb : ∀ b, H b = none → b ≠ e := fun b n z => by
    subst z
    rcases he with r | r
    · exact hx b n r
    · rw [n] at r; cases r
  have hm : ∀ b u, H b = some u → ¬ Mut (some u) → b ≠ x := fun b u q nm z => by subst z; rw [q] at mu; exact nm mu
  refine ⟨fun b u q n _ _ => k b u (hb b n) q, fun b u q n _ _ => ⟨u.slots, k b u (hb b n) q⟩, fun b u q n _ => by rw [upd_ne (hx b n)]; exact n, fun b u q _ => ?_,
    fun b xs q => by rw [upd_ne (hm b _ q fun z => z)]; exact q, fun b u xs q => by rw [upd_ne (hm b _ q fun z => z)]; exact q, fun b ps q => ⟨#[], by rw [upd_ne (hm b _ q fun z => z), q]; simp⟩⟩
  by_cases hbe : b = e
  · subst hbe; exact heo
  · exact ⟨u, k b u hbe q⟩
end
def trk (h : Heap) (H : Hp) : List Addr := (List.range h.objs.size).filter fun a => (H a).isSome
def hidT (h : Heap) (H : Hp) : Heap := W.hideAll h (trk h H)
theorem hidT_size (h : Heap) (H : Hp) : (hidT h H).objs.size = h.objs.size := W.hideAll_size _ _
theorem hidT_get {h : Heap} {H : Hp} {b : Addr} {o : Obj} (e : h.get? b = some o) (n : H b = none) : (hidT h H).get? b = some o :=
  W.hideAll_get _ e fun hm => by
    have q : (H b).isSome = true := (List.mem_filter.mp hm).2
    rw [n] at q; simp at q
theorem of_hidT {h : Heap} {H : Hp} {b : Addr} {o : Obj} (e : (hidT h H).get? b = some o) : h.get? b = some o ∧ H b = none := by
  have e' : h.get? b = some o := W.of_hideAll (trk h H) e
  refine ⟨e', ?_⟩
  cases q : H b with
  | none => rfl
  | some x =>
    have hm : b ∈ trk h H := List.mem_filter.mpr ⟨List.mem_range.mpr (Heap.lt_size e'), by simp [q]⟩
    have z : (hidT h H).get? b = none := W.hideAll_none (trk h H) hm
    rw [z] at e; cases e
end L2
namespace L2
open PySem PySem.Spec PyProof.Rows
structure Mod (K : W.Frag) (mg : Str → Option Value) (base : Heap) : Prop where
  kin : K.In base
  glob : base.Ns mainGlobals mg
  blt : ∃ mb, base.Ns builtinsNs mb ∧ ∀ x : Str, x ≠ "__name__" → mb x = bootBuiltins x
  nolimit : base.NoLimit
structure Cx where
  prog : Program
  w : World
  K : W.Frag
  mg : Str → Option Value
  base : Heap
  A : Around
  N : List Str
  s₀ : Shared
  H₀ : Hp
  env : Env
  outer : List Env
  stack : List Env
  ex : List Addr
  fn : Str → Bool
  calm : Bool
  pn : List (Addr × Obj)
  xe : Value → Shared → Prop
def frs (l : List Env) : List Addr := l.filterMap (·.frame)
abbrev Cx.fs (X : Cx) : List Addr := frs X.outer
def Vis (sc : Scope) (x : Str) : Prop := sc.names.lookup x = some .local ∨ sc.names.lookup x = some .cell ∨ sc.names.lookup x = some .free
def Loc (sc : Scope) (x : Str) : Prop := sc.names.lookup x = some .local ∨ sc.names.lookup x = some .cell
def Look (env : Env) (h : Heap) (m : Str → Option Value) (x : Str) (u : Value) : Prop :=
  (env.kindOf x = some .local ∧ m x = some u) ∨ ((env.kindOf x = some .cell ∨ env.kindOf x = some .free) ∧ ∃ c, env.cells.lookup x = some c ∧ h.IsCell c (some u))
structure Cx.Ok (X : Cx) : Prop where
  mod : Mod X.K X.mg X.base
  kind : X.env.scope.kind = .function
  glob : X.env.globals = mainGlobals
  blt : X.env.builtins = builtinsNs
  above : X.s₀.heap.objs.size ≤ X.env.locals
  inj : ∀ x y c, X.env.cells.lookup x = some c → X.env.cells.lookup y = some c → x = y
  has : ∀ x, (X.env.kindOf x = some .cell ∨ X.env.kindOf x = some .free) → ∃ c, X.env.cells.lookup x = some c
  cab : ∀ x c, X.fn x = true → X.env.cells.lookup x = some c → X.s₀.heap.objs.size ≤ c
  hd : X.calm = true → X.A.handled = none
  frames : X.A.frames = some X.stack
  stk : X.stack = X.outer ∨ (X.stack = X.env :: X.outer ∧ X.env.frame = some X.env.locals)
  exf : ∀ b ∈ X.ex, b ≠ X.env.locals ∧ ∀ x c, X.env.cells.lookup x = some c → c ≠ b
  bs : ∀ b o, X.base.get? b = some o → X.s₀.heap.get? b = some o ∧ X.H₀ b = none
  bsz : X.base.objs.size ≤ X.s₀.heap.objs.size
  noex : ∀ b o, X.base.get? b = some o → b ∉ X.ex
  exfs : ∀ b ∈ X.ex, b ∉ X.fs
  funs : X.s₀.heap.FunFrames X.base X.outer
  frf : ∀ b ∈ X.fs, X.H₀ b = none
structure Inv (X : Cx) (pins : List (Addr × Obj)) (σ : List (Option V)) (H : Hp) (s : Shared) : Prop where
  ok : X.Ok
  os : s.os = X.s₀.os
  bare : AllBare s.gens
  base : Un X.fs X.ex X.H₀ H X.s₀.heap s.heap
  loc : ∃ m, s.heap.Ns X.env.locals m ∧ ∀ (i : Nat) (x : Str) (v : V), X.N[i]? = some x → σ[i]? = some (some v) → Vis X.env.scope x → ∃ u, RelV v u ∧ Look X.env s.heap m x u
  cell : ∀ x c, X.env.cells.lookup x = some c → ∃ v, s.heap.IsCell c v
  free : H X.env.locals = none
  freeC : ∀ x c, X.env.cells.lookup x = some c → H c = none
  pin : ∀ p ∈ X.pn ++ pins, s.heap.get? p.1 = some p.2 ∧ H p.1 = none ∧ p.1 ≠ X.env.locals ∧ p.1 ∉ X.fs ∧ ∀ v, p.2.data ≠ .cell v
  hok : HOk X.prog X.w H s.heap
  len : σ.length = X.N.length
section
variable {X : Cx} {pins : List (Addr × Obj)} {σ : List (Option V)} {H H' : Hp} {s : Shared} {h' : Heap}
theorem Cx.Ok.nofr (ok : X.Ok) {b : Addr} {o : Obj} (e : X.base.get? b = some o) : b ∉ X.fs := fun hb => by
  have := (ok.funs.mem hb).1
  rw [e] at this; cases this
theorem Inv.bs (I : Inv X pins σ H s) : ∀ b o, X.base.get? b = some o → s.heap.get? b = some o ∧ H b = none := fun b o e =>
  ⟨I.base.keep b o (I.ok.bs b o e).1 (I.ok.bs b o e).2 (I.ok.nofr e) (I.ok.noex b o e), I.base.free b o (I.ok.bs b o e).1 (I.ok.bs b o e).2 (I.ok.noex b o e)⟩
theorem Inv.bk (I : Inv X pins σ H s) : ∀ b o, X.base.get? b = some o → s.heap.get? b = some o := fun b o e => (I.bs b o e).1
theorem Inv.mod (I : Inv X pins σ H s) : Mod X.K X.mg X.base := I.ok.mod
theorem Inv.kIn (I : Inv X pins σ H s) : X.K.In s.heap := I.ok.mod.kin.keeps I.bk
theorem Inv.lt (I : Inv X pins σ H s) : X.env.locals < s.heap.objs.size := let ⟨_, hn, _⟩ := I.loc; hn.lt
theorem Inv.sz (I : Inv X pins σ H s) : X.s₀.heap.objs.size ≤ s.heap.objs.size := Nat.le_trans I.ok.above (Nat.le_of_lt I.lt)
theorem Inv.nofs (I : Inv X pins σ H s) {a : Addr} (h : s.heap.objs.size ≤ a) : a ∉ X.fs := fun hb => by
  obtain ⟨_, o, ho, _⟩ := I.ok.funs.mem hb
  exact absurd (Nat.lt_of_lt_of_le (Heap.lt_size ho) (Nat.le_trans I.sz h)) (Nat.lt_irrefl _)
theorem Inv.cne (I : Inv X pins σ H s) : ∀ x c, X.env.cells.lookup x = some c → c ≠ X.env.locals := fun x c e z => by
  obtain ⟨v, o, ho, hd⟩ := I.cell x c e
  obtain ⟨m, ⟨o', es, ep, ho', hd', _⟩, _⟩ := I.loc
  rw [z, ho'] at ho; cases ho; rw [hd'] at hd; cases hd
theorem Inv.funs (I : Inv X pins σ H s) : s.heap.FunFrames X.base X.outer := by
  have all : ∀ (l : List Env), (∀ b ∈ frs l, b ∈ X.fs) → X.s₀.heap.FunFrames X.base l → s.heap.FunFrames X.base l := by
    intro l
    induction l with
    | nil => intro _ _; trivial
    | cons env r ih =>
      intro hs hl
      obtain ⟨hk, ⟨L, o, hf, hn, ho, hd⟩, hr⟩ := hl
      have hL : L ∈ X.fs := hs L (by unfold frs; rw [List.filterMap_cons, hf]; exact List.mem_cons_self)
      obtain ⟨sl, e⟩ := I.base.slot L o ho (I.ok.frf L hL) hL fun z => I.ok.exfs L z hL
      exact ⟨hk, ⟨L, _, hf, hn, e, hd⟩, ih (fun b hb => hs b (by unfold frs; rw [List.filterMap_cons, hf]; exact List.mem_cons_of_mem _ hb)) hr⟩
  exact all X.outer (fun _ hb => hb) I.ok.funs
theorem Inv.stack (I : Inv X pins σ H s) : s.heap.FunFrames X.base X.stack := by
  rcases I.ok.stk with e | ⟨e, hf⟩
  · rw [e]; exact I.funs
  · rw [e]
    obtain ⟨m, hn, _⟩ := I.loc
    refine .cons (by rw [I.ok.kind]; decide) hf hn ?_ I.funs
    exact Heap.get?_none_of_le (Nat.le_trans I.ok.bsz I.ok.above)
theorem Inv.stkSub (I : Inv X pins σ H s) : ∀ b ∈ frs X.stack, b ∈ X.env.locals :: X.fs := fun b hb => by
  rcases I.ok.stk with e | ⟨e, hf⟩
  · rw [e] at hb; exact List.mem_cons_of_mem _ hb
  · rw [e] at hb
    unfold frs at hb
    rw [List.filterMap_cons, hf] at hb
    exact hb
theorem Inv.stkFree (I : Inv X pins σ H s) : ∀ b ∈ frs X.stack, H b = none := fun b hb => by
  rcases List.mem_cons.mp (I.stkSub b hb) with e | hb
  · rw [e]; exact I.free
  · obtain ⟨_, o, ho, _⟩ := I.ok.funs.mem hb
    exact I.base.free b o ho (I.ok.frf b hb) fun z => I.ok.exfs b z hb
theorem Inv.step {g' : Array GenState} {t' : Nat} {d' : Drawn} {ch : List Addr} (I : Inv X pins σ H s)
    (hch : ∀ b ∈ ch, (b ∈ X.ex ∨ X.s₀.heap.objs.size ≤ b) ∧ b ≠ X.env.locals ∧ (∀ x c, X.env.cells.lookup x = some c → c ≠ b) ∧ ∀ p ∈ X.pn ++ pins, p.1 ≠ b)
    (keep : ∀ b o, b ≠ X.env.locals → b ∉ X.fs → b ∉ ch → s.heap.get? b = some o → H b = none → h'.get? b = some o)
    (slot : ∀ b o, b ≠ X.env.locals → b ∈ X.fs → b ∉ ch → s.heap.get? b = some o → H b = none → ∃ sl, h'.get? b = some { o with slots := sl }) (free : ∀ b o, b ∉ ch → s.heap.get? b = some o → H b = none → H' b = none)
    (there : ∀ b o, b ∉ ch → s.heap.get? b = some o → ∃ o', h'.get? b = some o')
    (tups : ∀ b xs, H b = some (.tup xs) → H' b = some (.tup xs)) (frzs : ∀ b o u, H b = some (.frz o u) → H' b = some (.frz o u)) (tbls : ∀ b ps, H b = some (.tbl ps) → ∃ more, H' b = some (.tbl (ps ++ more)))
    (ns : ∀ m, s.heap.Ns X.env.locals m → h'.Ns X.env.locals m) (hok : HOk X.prog X.w H' h') (hg : AllBare g') :
    Inv X pins σ H' { s with heap := h', gens := g', drawn := d', toks := t' } := by
  have neL : ∀ b o, X.s₀.heap.get? b = some o → b ≠ X.env.locals := fun b o e => Nat.ne_of_lt (Nat.lt_of_lt_of_le (Heap.lt_size e) I.ok.above)
  have neC : ∀ b o, X.s₀.heap.get? b = some o → b ∉ X.ex → b ∉ ch := fun b o e hx hb => by
    rcases (hch b hb).1 with z | z
    · exact hx z
    · exact absurd (Nat.lt_of_lt_of_le (Heap.lt_size e) z) (Nat.lt_irrefl _)
  have cellK : ∀ x c, X.env.cells.lookup x = some c → ∀ v, s.heap.IsCell c v → h'.IsCell c v := fun x c e v ⟨o, ho, hd⟩ => by
    have nch : c ∉ ch := fun z => (hch c z).2.2.1 x c e rfl
    by_cases hc : c ∈ X.fs
    · obtain ⟨sl, q⟩ := slot c o (I.cne x c e) hc nch ho (I.freeC x c e)
      exact ⟨_, q, hd⟩
    · exact ⟨o, keep c o (I.cne x c e) hc nch ho (I.freeC x c e), hd⟩
  refine ⟨I.ok, I.os, hg, ⟨fun b o e n hb hx => ?_, fun b o e n hb hx => ?_, fun b o e n hx => ?_, fun b o e hx => ?_, fun b xs e => tups b xs (I.base.tups b xs e), fun b o xs e => frzs b o xs (I.base.frzs b o xs e), fun b ps e => ?_⟩, ?_, fun x c e => ?_, ?_, fun x c e => ?_, fun p hp => ?_, hok, I.len⟩
  · exact keep b o (neL b o e) hb (neC b o e hx) (I.base.keep b o e n hb hx) (I.base.free b o e n hx)
  · obtain ⟨sl, e1⟩ := I.base.slot b o e n hb hx
    obtain ⟨sl', e2⟩ := slot b _ (neL b o e) hb (neC b o e hx) e1 (I.base.free b o e n hx)
    exact ⟨sl', e2⟩
  · obtain ⟨o', e1⟩ := I.base.there b o e hx
    exact free b o' (neC b o e hx) e1 (I.base.free b o e n hx)
  · obtain ⟨o', e1⟩ := I.base.there b o e hx
    exact there b o' (neC b o e hx) e1
  · obtain ⟨m1, e1⟩ := I.base.tbls b ps e
    obtain ⟨m2, e2⟩ := tbls b _ e1
    exact ⟨m1 ++ m2, by rw [e2, Array.append_assoc]⟩
  · obtain ⟨m, hn, hl⟩ := I.loc
    refine ⟨m, ns m hn, fun i x v e1 e2 e3 => ?_⟩
    obtain ⟨u, r, l⟩ := hl i x v e1 e2 e3
    refine ⟨u, r, ?_⟩
    rcases l with l | ⟨k, c, e, z⟩
    · exact .inl l
    · exact .inr ⟨k, c, e, cellK x c e _ z⟩
  · obtain ⟨v, z⟩ := I.cell x c e
    exact ⟨v, cellK x c e v z⟩
  · obtain ⟨m, ⟨o, _, _, ho, _⟩, _⟩ := I.loc
    exact free _ o (fun z => (hch _ z).2.1 rfl) ho I.free
  · obtain ⟨v, o, ho, hd⟩ := I.cell x c e
    exact free c o (fun z => (hch c z).2.2.1 x c e rfl) ho (I.freeC x c e)
  · obtain ⟨e, n, ne, nf, d⟩ := I.pin p hp
    have nch : p.1 ∉ ch := fun z => (hch p.1 z).2.2.2 p hp rfl
    exact ⟨keep p.1 p.2 ne nf nch e n, free p.1 p.2 nch e n, ne, nf, d⟩
theorem Inv.un {t' : Nat} (I : Inv X pins σ H s) (u : Un X.fs [] H H' s.heap h') (hok : HOk X.prog X.w H' h') : Inv X pins σ H' { s with heap := h', toks := t' } := by
  obtain ⟨m, ⟨o, es, ep, ho, r⟩, _⟩ := id I.loc
  obtain ⟨sl, hL⟩ := u.any ho I.free (by simp)
  exact I.step (g' := s.gens) (d' := s.drawn) (ch := []) (fun _ z => nomatch z) (fun b o _ hb _ e n => u.keep b o e n hb (by simp)) (fun b o _ hb _ e n => u.slot b o e n hb (by simp)) (fun b o _ e n => u.free b o e n (by simp)) (fun b o _ e => u.there b o e (by simp)) u.tups u.frzs u.tbls (fun m' hm => by
    obtain ⟨o', es', ep', ho', r'⟩ := hm
    rw [ho] at ho'; cases ho'
    exact ⟨_, es', ep', hL, r'⟩) hok I.bare
theorem Inv.call {g' : Array GenState} {t' : Nat} {d' : Drawn} {ch : List Addr} (I : Inv X pins σ H s) (u : Un (frs X.stack) ch H H' s.heap h') (hok : HOk X.prog X.w H' h') (hg : AllBare g')
    (hch : ∀ b ∈ ch, (b ∈ X.ex ∨ X.s₀.heap.objs.size ≤ b) ∧ b ≠ X.env.locals ∧ (∀ x c, X.env.cells.lookup x = some c → c ≠ b) ∧ ∀ p ∈ X.pn ++ pins, p.1 ≠ b) :
    Inv X pins σ H' { s with heap := h', gens := g', drawn := d', toks := t' } := by
  obtain ⟨m, ⟨o, es, ep, ho, r⟩, _⟩ := id I.loc
  obtain ⟨sl, hL⟩ := u.any ho I.free fun z => (hch _ z).2.1 rfl
  exact I.step (ch := ch) hch (fun b o hL hb hc e n => u.keep b o e n (fun z => (List.mem_cons.mp (I.stkSub b z)).elim hL hb) hc) (fun b o _ _ hc e n => u.any e n hc) (fun b o hc e n => u.free b o e n hc) (fun b o hc e => u.there b o e hc) u.tups u.frzs u.tbls (fun m' hm => by
    obtain ⟨o', es', ep', ho', r'⟩ := hm
    rw [ho] at ho'; cases ho'
    exact ⟨_, es', ep', hL, r'⟩) hok hg
theorem Inv.turned {t' : Nat} {it : Addr} (I : Inv X pins σ H s) (k : ∀ b o, b ≠ it → s.heap.get? b = some o → h'.get? b = some o) (hn : H it = none) (hL : it ≠ X.env.locals)
    (h1 : it ∈ X.ex ∨ X.s₀.heap.objs.size ≤ it) (h2 : ∀ x c, X.env.cells.lookup x = some c → c ≠ it) (h3 : ∀ p ∈ X.pn ++ pins, p.1 ≠ it) : Inv X pins σ H { s with heap := h', toks := t' } := by
  have nit : ∀ b u, H b = some u → b ≠ it := fun b u e z => by rw [z, hn] at e; cases e
  refine I.step (g' := s.gens) (d' := s.drawn) (ch := [it]) (fun b hb => ?_) (fun b o _ _ hc e _ => k b o (fun z => hc (by simp [z])) e) (fun b o _ _ hc e _ => ⟨o.slots, k b o (fun z => hc (by simp [z])) e⟩) (fun _ _ _ _ n => n)
    (fun b o hc e => ⟨o, k b o (fun z => hc (by simp [z])) e⟩) (fun _ _ e => e) (fun _ _ _ e => e) (fun b ps e => ⟨#[], by rw [e]; simp⟩) (fun m hm => ?_) (fun b u e => ?_) I.bare
  · have e : b = it := by simpa using hb
    subst e
    exact ⟨h1, hL, h2, h3⟩
  · obtain ⟨o, es, ep, ho, r⟩ := hm
    exact ⟨o, es, ep, k _ o (Ne.symm hL) ho, r⟩
  · refine (I.hok b u e).stay (fun c v hc q => k c v ?_ q) (fun _ q => q) fun _ _ q => q
    rcases hc with z | z
    · rw [z]; exact nit b u e
    · exact nit c _ z
theorem Inv.tok (I : Inv X pins σ H s) (t : Nat) : Inv X pins σ H { s with toks := t } := I.un (h' := s.heap) (t' := t) Un.refl I.hok
theorem Inv.kept {t' : Nat} (I : Inv X pins σ H s) (k : ∀ b u, s.heap.get? b = some u → h'.get? b = some u) : Inv X pins σ H { s with heap := h', toks := t' } := I.un (Un.kept k) (I.hok.kept k)
theorem Inv.laid {a : Addr} {o : HO} {t' : Nat} (I : Inv X pins σ H s) (k : ∀ b u, s.heap.get? b = some u → h'.get? b = some u) (hp : s.heap.objs.size ≤ a) (new : ObjOk X.prog X.w (upd H a o) h' a o) :
    Inv X pins σ (upd H a o) { s with heap := h', toks := t' } := I.un (Un.laid k hp (I.hok.fresh hp)) (I.hok.laid k hp new)
theorem Inv.write {x e : Addr} {o : HO} {t' : Nat} (I : Inv X pins σ H s) (mu : Mut (H x)) (he : e = x ∨ H e = some (.own x)) (k : ∀ b u, b ≠ e → s.heap.get? b = some u → h'.get? b = some u) (heo : ∃ u, h'.get? e = some u)
    (new : ObjOk X.prog X.w (upd H x o) h' x o) : Inv X pins σ (upd H x o) { s with heap := h', toks := t' } := I.un (Un.write mu he k heo) (I.hok.write mu he k heo new)
theorem Inv.pins_of {pins' : List (Addr × Obj)} (I : Inv X pins σ H s) (h : ∀ p ∈ pins', s.heap.get? p.1 = some p.2 ∧ H p.1 = none ∧ p.1 ≠ X.env.locals ∧ p.1 ∉ X.fs ∧ ∀ v, p.2.data ≠ .cell v) : Inv X pins' σ H s :=
  ⟨I.ok, I.os, I.bare, I.base, I.loc, I.cell, I.free, I.freeC, fun p hp => (List.mem_append.mp hp).elim (fun z => I.pin p (List.mem_append_left _ z)) (h p), I.hok, I.len⟩
theorem nodup_ix {N : List Str} (hN : N.Nodup) {i j : Nat} {x : Str} (a : N[i]? = some x) (b : N[j]? = some x) : i = j := by
  obtain ⟨h1, e1⟩ := List.getElem?_eq_some_iff.mp a
  obtain ⟨h2, e2⟩ := List.getElem?_eq_some_iff.mp b
  exact (List.getElem_inj hN).mp (e1.trans e2.symm)
theorem store_ok2 {M : Model} {A : Around} {E : Value → Shared → Prop} {i : Nat} {x : Str} {v : V} {u : Value} {Q : Unit → Shared → Prop} (I : Inv X pins σ H s) (hN : X.N.Nodup) (hi : X.N[i]? = some x) (hx : Loc X.env.scope x) (r : RelV v u)
    (h : ∀ s', Inv X pins (σ.set i (some v)) H s' → (∃ a, Heap.SameBut a s.heap s'.heap ∧ (a = X.env.locals ∨ X.env.cells.lookup x = some a)) → Q () s') (hf : X.fn x = true ∨ X.env.scope.names.lookup x = some .local := by first | exact .inl rfl | exact .inr rfl | assumption) : wpAny M A (storeName X.env x u) Q E s := by
  obtain ⟨m, hn, hl⟩ := id I.loc
  have hcls : (X.env.scope.kind == .class || (X.env.scope.kind == .module && X.env.locals != X.env.globals)) = false := by rw [I.ok.kind]; rfl
  have hiσ : i < σ.length := by rw [I.len]; exact (List.getElem?_eq_some_iff.mp hi).1
  have cne := I.cne
  have tracked : ∀ {a : Addr} {h' : Heap}, (∃ o, s.heap.get? a = some o ∧ H a = none) → Heap.SameBut a s.heap h' → HOk X.prog X.w H h' := fun {a h'} ha hs b ob e => by
    obtain ⟨_, _, hfree⟩ := ha
    refine (I.hok b ob e).stay (fun c w' hc q => (hs.2 c ?_).trans q) (fun _ q => q) fun _ _ q => q
    rintro rfl
    rcases hc with rfl | hc
    · rw [hfree] at e; cases e
    · rw [hfree] at hc; cases hc
  rcases hx with hk | hk
  · refine wpAny_storeName_local hk hn (fun h' hn' hs => ?_) hcls
    obtain ⟨oL, _, _, hoL, _⟩ := id hn
    refine h _ ⟨I.ok, I.os, I.bare, ⟨fun b o e n hb hx => ?_, fun b o e n hb hx => ?_, I.base.free, fun b o e hx => ?_, I.base.tups, I.base.frzs, I.base.tbls⟩, ⟨_, hn', fun j y v' e1 e2 e3 => ?_⟩, fun y c e => ?_, I.free, I.freeC, fun p hp => ?_, tracked ⟨oL, hoL, I.free⟩ hs, by simpa using I.len⟩ ⟨_, hs, .inl rfl⟩
    · exact (hs.2 b (Nat.ne_of_lt (Nat.lt_of_lt_of_le (Heap.lt_size e) I.ok.above))).trans (I.base.keep b o e n hb hx)
    · obtain ⟨sl, e1⟩ := I.base.slot b o e n hb hx
      exact ⟨sl, (hs.2 b (Nat.ne_of_lt (Nat.lt_of_lt_of_le (Heap.lt_size e) I.ok.above))).trans e1⟩
    · obtain ⟨o', e1⟩ := I.base.there b o e hx
      exact ⟨o', (hs.2 b (Nat.ne_of_lt (Nat.lt_of_lt_of_le (Heap.lt_size e) I.ok.above))).trans e1⟩
    · by_cases hj : j = i
      · subst hj
        rw [hi] at e1; cases e1
        rw [List.getElem?_set_self hiσ] at e2
        cases e2
        exact ⟨u, r, .inl ⟨hk, by simp⟩⟩
      · rw [List.getElem?_set_ne (Ne.symm hj)] at e2
        obtain ⟨u', r', q⟩ := hl j y v' e1 e2 e3
        refine ⟨u', r', ?_⟩
        rcases q with ⟨k, e⟩ | ⟨k, c, e, z⟩
        · refine .inl ⟨k, ?_⟩
          have : y ≠ x := fun e => hj (nodup_ix hN e1 (e ▸ hi))
          simp [this, e]
        · exact .inr ⟨k, c, e, z.sameBut hs (cne y c e)⟩
    · obtain ⟨w', z⟩ := I.cell y c e
      exact ⟨w', z.sameBut hs (cne y c e)⟩
    · obtain ⟨e, n, ne, nf, d⟩ := I.pin p hp
      exact ⟨(hs.2 p.1 ne).trans e, n, ne, nf, d⟩
  · have hfn : X.fn x = true := by
      rcases hf with z | z
      · exact z
      · rw [z] at hk; cases hk
    obtain ⟨c, hc⟩ := I.ok.has x (.inl hk)
    obtain ⟨w', z⟩ := I.cell x c hc
    refine wpAny_storeName_cell I.ok.kind hk hc z (fun h' hc' hs => ?_)
    obtain ⟨oc, hoc, hocd⟩ := id z
    refine h { s with heap := h' } ⟨I.ok, I.os, I.bare, ⟨fun b o e n hb hx => ?_, fun b o e n hb hx => ?_, I.base.free, fun b o e hx => ?_, I.base.tups, I.base.frzs, I.base.tbls⟩, ⟨m, hn.sameBut hs (Ne.symm (cne x c hc)), fun j y v' e1 e2 e3 => ?_⟩, fun y c' e => ?_, I.free, I.freeC, fun p hp => ?_, tracked ⟨oc, hoc, I.freeC x c hc⟩ hs, by simpa using I.len⟩ ⟨c, hs, .inr hc⟩
    · exact (hs.2 b (Nat.ne_of_lt (Nat.lt_of_lt_of_le (Heap.lt_size e) (I.ok.cab x c hfn hc)))).trans (I.base.keep b o e n hb hx)
    · obtain ⟨sl, e1⟩ := I.base.slot b o e n hb hx
      exact ⟨sl, (hs.2 b (Nat.ne_of_lt (Nat.lt_of_lt_of_le (Heap.lt_size e) (I.ok.cab x c hfn hc)))).trans e1⟩
    · obtain ⟨o', e1⟩ := I.base.there b o e hx
      exact ⟨o', (hs.2 b (Nat.ne_of_lt (Nat.lt_of_lt_of_le (Heap.lt_size e) (I.ok.cab x c hfn hc)))).trans e1⟩
    · by_cases hj : j = i
      · subst hj
        rw [hi] at e1; cases e1
        rw [List.getElem?_set_self hiσ] at e2
        cases e2
        exact ⟨u, r, .inr ⟨.inl hk, c, hc, hc'⟩⟩
      · rw [List.getElem?_set_ne (Ne.symm hj)] at e2
        obtain ⟨u', r', q⟩ := hl j y v' e1 e2 e3
        refine ⟨u', r', ?_⟩
        rcases q with q | ⟨k, c', e, z'⟩
        · exact .inl q
        · refine .inr ⟨k, c', e, z'.sameBut hs ?_⟩
          rintro rfl
          exact hj (nodup_ix hN e1 (I.ok.inj _ _ _ e hc ▸ hi))
    · by_cases hcc : c' = c
      · subst hcc; exact ⟨_, hc'⟩
      · obtain ⟨w2, z2⟩ := I.cell y c' e
        exact ⟨w2, z2.sameBut hs hcc⟩
    · obtain ⟨e, n, ne, nf, d⟩ := I.pin p hp
      refine ⟨(hs.2 p.1 ?_).trans e, n, ne, nf, d⟩
      intro q
      rw [q, hoc] at e
      have q' : oc = p.2 := Option.some.inj e
      exact d w' (by rw [← q']; exact hocd)
theorem store_ok {M : Model} {A : Around} {E : Value → Shared → Prop} {i : Nat} {x : Str} {v : V} {u : Value} {Q : Unit → Shared → Prop} (I : Inv X pins σ H s) (hN : X.N.Nodup) (hi : X.N[i]? = some x) (hx : Loc X.env.scope x) (r : RelV v u)
    (h : ∀ s', Inv X pins (σ.set i (some v)) H s' → Q () s') (hf : X.fn x = true ∨ X.env.scope.names.lookup x = some .local := by first | exact .inl rfl | exact .inr rfl | assumption) : wpAny M A (storeName X.env x u) Q E s :=
  store_ok2 I hN hi hx r (fun s' I' _ => h s' I') hf
end
abbrev XK := Value → Option Addr → Hp → Prop
abbrev St := List (Option V)
abbrev VK := V → Hp → Prop
abbrev TE := St → Hp → VK → Prop
abbrev TT := St → Hp → (Bool → Hp → Prop) → Prop
abbrev TA := St → Hp → (List V → Hp → Prop) → Prop
structure Ends where
  nx : St → Hp → Prop
  rt : VK
  bk : St → Hp → Prop := fun _ _ => False
  ct : St → Hp → Prop := fun _ _ => False
abbrev TS := Ends → St → Hp → Prop
def EP (X : Cx) (pins : List (Addr × Obj)) (σ : St) (Q : VK) (u : Value) (s' : Shared) : Prop := ∃ v H', Inv X pins σ H' s' ∧ RelV v u ∧ Q v H'
def TP (X : Cx) (pins : List (Addr × Obj)) (σ : St) (Q : Bool → Hp → Prop) (b : Bool) (s' : Shared) : Prop := ∃ H', Inv X pins σ H' s' ∧ Q b H'
def AP (X : Cx) (pins : List (Addr × Obj)) (σ : St) (Q : List V → Hp → Prop) (us : List Value) (s' : Shared) : Prop := ∃ vs H', Inv X pins σ H' s' ∧ Vals vs us ∧ Q vs H'
def SP (X : Cx) (pins : List (Addr × Obj)) (D : Ends) (f : Flow) (s' : Shared) : Prop :=
  match f with
  | .next => ∃ σ' H', Inv X pins σ' H' s' ∧ D.nx σ' H'
  | .brk => ∃ σ' H', Inv X pins σ' H' s' ∧ D.bk σ' H'
  | .cont => ∃ σ' H', Inv X pins σ' H' s' ∧ D.ct σ' H'
  | .ret u => ∃ v σ' H', Inv X pins σ' H' s' ∧ RelV v u ∧ D.rt v H'
def PE (X : Cx) (e : Expr) (t : TE) : Prop :=
  ∀ (pins : List (Addr × Obj)) (s : Shared) (σ : St) (H : Hp) (Q : VK), Inv X pins σ H s → t σ H Q → wpAny (model X.prog X.w) X.A (eval e X.env) (EP X pins σ Q) X.xe s
def PT (X : Cx) (e : Expr) (t : TT) : Prop :=
  ∀ (pins : List (Addr × Obj)) (s : Shared) (σ : St) (H : Hp) (Q : Bool → Hp → Prop), Inv X pins σ H s → t σ H Q → wpAny (model X.prog X.w) X.A (isTrue e X.env (eval e X.env)) (TP X pins σ Q) X.xe s
def PW (X : Cx) (e : Expr) (t : TT) : Prop :=
  ∀ (whole : Sem Value) (pins : List (Addr × Obj)) (s : Shared) (σ : St) (H : Hp) (Q : Bool → Hp → Prop), Inv X pins σ H s → t σ H Q → wpAny (model X.prog X.w) X.A (isTrue e X.env whole) (TP X pins σ Q) X.xe s
theorem PW.pt {X : Cx} {e : Expr} {t : TT} (h : PW X e t) : PT X e t := h _
def PA (X : Cx) (es : List Expr) (t : TA) : Prop :=
  ∀ (pos : Pos) (pins : List (Addr × Obj)) (s : Shared) (σ : St) (H : Hp) (Q : List V → Hp → Prop), Inv X pins σ H s → t σ H Q → wpAny (model X.prog X.w) X.A (spliced (backTo pos (starEach es X.env))) (AP X pins σ Q) X.xe s
def PS (X : Cx) (st : Stmt) (t : TS) : Prop :=
  ∀ (pins : List (Addr × Obj)) (s : Shared) (σ : St) (H : Hp) (D : Ends), Inv X pins σ H s → t D σ H → wpAny (model X.prog X.w) X.A (exec st X.env) (SP X pins D) X.xe s
def PSs (X : Cx) (st : List Stmt) (t : TS) : Prop :=
  ∀ (pins : List (Addr × Obj)) (s : Shared) (σ : St) (H : Hp) (D : Ends), Inv X pins σ H s → t D σ H → wpAny (model X.prog X.w) X.A (execs st X.env) (SP X pins D) X.xe s
theorem thn {α : Type} {t : Sem α} {Q Q' : α → Shared → Prop} {M : Model} {A : Around} {E : Value → Shared → Prop} {s : Shared} (h : wpAny M A t Q E s) (hQ : ∀ a s, Q a s → Q' a s) : wpAny M A t Q' E s := wpAny_mono h hQ fun _ _ x => x
end L2
namespace L2
open PySem PySem.Spec PyProof.Rows
section
variable {X : Cx}
def tVar (i : Nat) : TE := fun σ H Q => ∃ v, σ[i]? = some (some v) ∧ Q v H
def tC (v : V) : TE := fun _ H Q => Q v H
theorem pe_var {i : Nat} {x : Str} {pos : Pos} (hN : X.N[i]? = some x) (hv : Vis X.env.scope x) (hd : (x == ("__debug__" : Str)) = false := by decide) (hcd : (x == ("__classdict__" : Str)) = false := by decide) : PE X (.Name x pos) (tVar i) := by
  intro pins s σ H Q I h
  obtain ⟨v, e, h⟩ := h
  obtain ⟨m, hn, hl⟩ := I.loc
  obtain ⟨u, r, l⟩ := hl i x v hN e hv
  have fin : EP X pins σ Q u s := ⟨v, H, I, r, h⟩
  rcases l with ⟨hk, hm⟩ | ⟨hk, c, hc, hcell⟩
  · exact wpAny_Name (wpAny_loadName_local I.ok.kind hk hn hm fin) hd
  · rcases hk with hk | hk
    · exact wpAny_Name (wpAny_loadName_cell I.ok.kind hk hc hcell fin) hd
    · exact wpAny_Name (wpAny_loadName_free I.ok.kind hk hc hcell fin hcd) hd
theorem pe_int {i j pos} : PE X (.Constant (.int i) j pos) (tC (.int i)) := fun _ _ _ H _ I h => wpAny_Constant_int ⟨.int i, H, I.tok _, ⟨_, rfl⟩, h⟩
theorem pe_bl {b j pos} : PE X (.Constant (.bool b) j pos) (tC (.bl b)) := fun _ _ _ H _ I h => Constant_bool ⟨.bl b, H, I, rfl, h⟩
theorem pe_non {j pos} : PE X (.Constant .none j pos) (tC .non) := fun _ _ _ H _ I h => Constant_none ⟨.non, H, I, rfl, h⟩
theorem pe_str {x j pos} : PE X (.Constant (.str x) j pos) (tC (.str x)) := fun _ _ _ H _ I h => Calls.Constant_str ⟨.str x, H, I.tok _, ⟨_, rfl⟩, h⟩
def Gl (X : Cx) (x : Str) : Prop := X.env.kindOf x = some .globalImplicit
theorem ld_glob {E : Value → Shared → Prop} {pins : List (Addr × Obj)} {s : Shared} {σ : St} {H : Hp} {x : Str} {u : Value} {pos : Pos} {Q : Value → Shared → Prop} (I : Inv X pins σ H s) (hg : Gl X x) (hm : X.mg x = some u) (h : Q u s)
    (hd : (x == ("__debug__" : Str)) = false := by decide) : wpAny (model X.prog X.w) X.A (eval (.Name x pos) X.env) Q E s :=
  Calls.Name_function_global I.ok.kind hg (Calls.loadGlobal_global (by rw [I.ok.glob]; exact I.mod.glob.keeps I.bk) hm h) hd
theorem ld_blt {E : Value → Shared → Prop} {pins : List (Addr × Obj)} {s : Shared} {σ : St} {H : Hp} {x : Str} {u : Value} {pos : Pos} {Q : Value → Shared → Prop} (I : Inv X pins σ H s) (hg : Gl X x) (hm : X.mg x = none) (hv : bootBuiltins x = some u) (h : Q u s)
    (hn : x ≠ "__name__" := by decide) (hd : (x == ("__debug__" : Str)) = false := by decide) : wpAny (model X.prog X.w) X.A (eval (.Name x pos) X.env) Q E s := by
  obtain ⟨mb, h1, h2⟩ := I.mod.blt
  exact Calls.Name_function_global I.ok.kind hg (Calls.loadGlobal_builtin (by rw [I.ok.glob]; exact I.mod.glob.keeps I.bk) hm (by rw [I.ok.blt]; exact h1.keeps I.bk) ((h2 x hn).trans hv) h) hd
theorem pe_bltn {x : Str} {v : V} {u : Value} {pos : Pos} (hg : Gl X x) (hm : X.mg x = none) (hv : bootBuiltins x = some u) (r : RelV v u) (hn : x ≠ "__name__" := by decide) (hd : (x == ("__debug__" : Str)) = false := by decide) : PE X (.Name x pos) (tC v) :=
  fun _ _ _ H _ I h => ld_blt I hg hm hv ⟨v, H, I, r, h⟩ hn hd
variable {a b : Expr} {ta tb : TE} {pos : Pos}
def tB (t : TE) : TT := fun σ H Q => t σ H fun x H1 => ∃ c, x = .bl c ∧ Q c H1
theorem pt_val {e : Expr} {t : TE} (h : PE X e t) (he : ∀ whole, isTrue e X.env whole = (do let v ← whole; standAt e.pos; holding [v] (truthy v)) := by intro _; rfl) : PT X e (tB t) := by
  intro pins s σ H Q I hw
  refine isTrue_plain (thn (h pins s σ H _ I hw) fun v s1 ⟨x, H1, I1, r1, q1⟩ => ?_) (he _)
  obtain ⟨d, rfl, q⟩ := q1
  cases r1
  exact wpAny_truthy_bool ⟨H1, I1, q⟩
variable {tA tB' : TT} {rest : List Expr}
def tAnd (t u : TT) : TT := fun σ H Q => t σ H fun c H1 => if c = true then u σ H1 Q else Q false H1
def tOr (t u : TT) : TT := fun σ H Q => t σ H fun c H1 => if c = true then Q true H1 else u σ H1 Q
def tNot (t : TT) : TT := fun σ H Q => t σ H fun c H1 => Q (!c) H1
theorem pw_and1 (ha : PT X a tA) : PW X (.BoolOp .And [a] pos) tA := by
  intro wh pins s σ H Q I h
  refine isTrue_and (thn (ha pins s σ H Q I h) fun c s1 e => ?_)
  cases c with
  | true => exact isTrue_and_nil e
  | false => exact e
theorem pw_or1 (ha : PT X a tA) : PW X (.BoolOp .Or [a] pos) tA := by
  intro wh pins s σ H Q I h
  refine isTrue_or (thn (ha pins s σ H Q I h) fun c s1 e => ?_)
  cases c with
  | false => exact isTrue_or_nil e
  | true => exact e
theorem pw_and (ha : PT X a tA) (hb : PW X (.BoolOp .And (b :: rest) pos) tB') : PW X (.BoolOp .And (a :: b :: rest) pos) (tAnd tA tB') := by
  intro wh pins s σ H Q I h
  refine isTrue_and (thn (ha pins s σ H _ I h) fun c s1 ⟨H1, I1, q1⟩ => ?_)
  cases c with
  | true => exact hb wh pins s1 σ H1 Q I1 q1
  | false => exact ⟨H1, I1, q1⟩
theorem pw_or (ha : PT X a tA) (hb : PW X (.BoolOp .Or (b :: rest) pos) tB') : PW X (.BoolOp .Or (a :: b :: rest) pos) (tOr tA tB') := by
  intro wh pins s σ H Q I h
  refine isTrue_or (thn (ha pins s σ H _ I h) fun c s1 ⟨H1, I1, q1⟩ => ?_)
  cases c with
  | true => exact ⟨H1, I1, q1⟩
  | false => exact hb wh pins s1 σ H1 Q I1 q1
theorem pt_not (ha : PT X a tA) : PT X (.UnaryOp .Not a pos) (tNot tA) := by
  intro pins s σ H Q I h
  exact isTrue_not (ha pins s σ H (fun c H1 => Q (!c) H1) I h)
def tAndV (ta tb : TE) : TE := fun σ H Q => ta σ H fun x H1 => ∃ c, x = .bl c ∧ if c = true then tb σ H1 Q else Q (.bl false) H1
def tNotV (ta : TE) : TE := fun σ H Q => ta σ H fun x H1 => ∃ c, x = .bl c ∧ Q (.bl (!c)) H1
theorem pe_one {op} {t : TE} (h : PE X a t) : PE X (.BoolOp op [a] pos) t := fun pins s σ H Q I hw => BoolOp_one (h pins s σ H Q I hw)
theorem pe_and (ha : PE X a ta) (hb : PE X (.BoolOp .And (b :: rest) pos) tb) : PE X (.BoolOp .And (a :: b :: rest) pos) (tAndV ta tb) := by
  intro pins s σ H Q I h
  refine BoolOp_and (thn (ha pins s σ H _ I h) fun v s1 ⟨x, H1, I1, r1, q1⟩ => ?_)
  obtain ⟨c, rfl, q1⟩ := q1
  cases r1
  refine wpAny_truthy_bool ?_
  cases c with
  | true => exact hb pins s1 σ H1 Q I1 q1
  | false => exact ⟨.bl false, H1, I1, rfl, q1⟩
theorem pe_not (ha : PE X a ta) : PE X (.UnaryOp .Not a pos) (tNotV ta) := by
  intro pins s σ H Q I h
  refine UnaryOp_ (thn (ha pins s σ H _ I h) fun v s1 ⟨x, H1, I1, r1, q1⟩ => ?_)
  obtain ⟨c, rfl, q1⟩ := q1
  cases r1
  exact not_of (wpAny_truthy_bool ⟨.bl (!c), H1, I1, rfl, q1⟩)
def tIf (t : TT) (ta tb : TE) : TE := fun σ H Q => t σ H fun c H1 => if c = true then ta σ H1 Q else tb σ H1 Q
theorem pe_ifExp {c : Expr} (hc : PT X c tA) (ha : PE X a ta) (hb : PE X b tb) : PE X (.IfExp c a b pos) (tIf tA ta tb) := by
  intro pins s σ H Q I h
  refine wpAny_IfExp (thn (hc pins s σ H _ I h) fun d s1 ⟨H1, I1, q1⟩ => ?_)
  cases d with
  | true => exact ha pins s1 σ H1 Q I1 q1
  | false => exact hb pins s1 σ H1 Q I1 q1
end
end L2
namespace L2
open PySem PySem.Spec PyProof.Rows
def SqL (K : W.Frag) (H : Hp) (a : Addr) (xs : List V) : Prop :=
  Rd H a (.lst xs) ∨
    ∃ (o : Obj) (its : Array Value) (n : Nat), K.lookup a = some o ∧ o.cls = .type "list" ∧ o.dict = none ∧ o.data = .seq its n ∧ its.size ≤ sizeLine ∧ Vals xs its.toList
def SqT (K : W.Frag) (H : Hp) (a : Addr) (xs : List V) : Prop :=
  Rd H a (.tup xs) ∨
    ∃ (o : Obj) (its : Array Value) (n : Nat), K.lookup a = some o ∧ o.cls = .type "tuple" ∧ o.data = .seq its n ∧ its.size ≤ sizeLine ∧ Vals xs its.toList
def absV : Value → Option V
  | .none => some .non
  | .bool b => some (.bl b)
  | .int i _ => some (.int i)
  | .str x _ => some (.str x)
  | .bytes b _ => some (.byt b)
  | .float b _ => some (.flt b)
  | .ref a => some (.ref a)
  | .type n => some (.ty n)
  | _ => none
theorem RelV.abs {x : V} {u : Value} (r : RelV x u) : absV u = some x := by
  cases x with
  | non => cases r; rfl
  | bl _ => cases r; rfl
  | int _ => obtain ⟨t, rfl⟩ := r; rfl
  | str _ => obtain ⟨t, rfl⟩ := r; rfl
  | byt _ => obtain ⟨t, rfl⟩ := r; rfl
  | flt _ => obtain ⟨t, rfl⟩ := r; rfl
  | ref _ => cases r; rfl
  | ty _ => cases r; rfl
theorem RelV.inj {x y : V} {u : Value} (r : RelV x u) (q : RelV y u) : x = y := Option.some.inj (r.abs.symm.trans q.abs)
theorem Vals.inj : ∀ {xs ys : List V} {us : List Value}, Vals xs us → Vals ys us → xs = ys
  | _, _, _, .nil, .nil => rfl
  | _, _, _, .cons r t, .cons r' t' => by rw [r.inj r', Vals.inj t t']
section
variable {X : Cx} {pins : List (Addr × Obj)} {σ : St} {H : Hp} {s : Shared} {a : Addr} {xs ys : List V}
theorem SqL.of {K : W.Frag} (h : H a = some (.lst xs)) : SqL K H a xs := .inl (.inl h)
theorem SqT.of {K : W.Frag} (h : H a = some (.tup xs)) : SqT K H a xs := .inl (.inl h)
theorem Inv.list (I : Inv X pins σ H s) (h : SqL X.K H a xs) : ∃ its : List Value, Vals xs its ∧ PlainL s.heap a its.toArray ∧ xs.length ≤ sizeLine := by
  rcases h with h | ⟨o, its, n, hk, hc, hd, hs, hz, r⟩
  · obtain ⟨z, its, n, r, e⟩ := h.ok I.hok
    exact ⟨its, r, ⟨_, n, e, rfl, rfl, rfl⟩, z⟩
  · refine ⟨its.toList, r, ⟨o, n, I.kIn a o hk, hc, hd, by simpa using hs⟩, ?_⟩
    have e := r.length
    simp only [Array.length_toList] at e
    omega
theorem Inv.tuple (I : Inv X pins σ H s) (h : SqT X.K H a xs) : ∃ its : List Value, Vals xs its ∧ IsTup s.heap a its.toArray ∧ xs.length ≤ sizeLine := by
  rcases h with h | ⟨o, its, n, hk, hc, hs, hz, r⟩
  · obtain ⟨z, its, r, p⟩ := h.ok I.hok
    exact ⟨its, r, p, z⟩
  · refine ⟨its.toList, r, ⟨o, I.kIn a o hk, hc, n, by simpa using hs⟩, ?_⟩
    have e := r.length
    simp only [Array.length_toList] at e
    omega
theorem Inv.list_inj (I : Inv X pins σ H s) (h : SqL X.K H a xs) (h' : SqL X.K H a ys) : xs = ys := by
  obtain ⟨its, r, ⟨o, n, e, _, _, d⟩, _⟩ := I.list h
  obtain ⟨its', r', ⟨o', n', e', _, _, d'⟩, _⟩ := I.list h'
  rw [e] at e'; cases e'
  rw [d] at d'
  injection d' with d1 _
  have : its = its' := by simpa using congrArg Array.toList d1
  subst this
  exact r.inj r'
theorem Inv.tuple_inj (I : Inv X pins σ H s) (h : SqT X.K H a xs) (h' : SqT X.K H a ys) : xs = ys := by
  obtain ⟨its, r, ⟨o, e, _, n, d⟩, _⟩ := I.tuple h
  obtain ⟨its', r', ⟨o', e', _, n', d'⟩, _⟩ := I.tuple h'
  rw [e] at e'; cases e'
  rw [d] at d'
  injection d' with d1 _
  have : its = its' := by simpa using congrArg Array.toList d1
  subst this
  exact r.inj r'
end
abbrev Cx.wish (X : Cx) (E : Value → Shared → Prop) : Cx := { X with xe := E }
abbrev Cx.nox (X : Cx) : Cx := X.wish fun _ _ => False
theorem Cx.Ok.wish {X : Cx} (ok : X.Ok) (E : Value → Shared → Prop) : (X.wish E).Ok :=
  ⟨ok.mod, ok.kind, ok.glob, ok.blt, ok.above, ok.inj, ok.has, ok.cab, ok.hd, ok.frames, ok.stk, ok.exf, ok.bs, ok.bsz, ok.noex, ok.exfs, ok.funs, ok.frf⟩
theorem Cx.Ok.unwish {X : Cx} {E : Value → Shared → Prop} (ok : (X.wish E).Ok) : X.Ok :=
  ⟨ok.mod, ok.kind, ok.glob, ok.blt, ok.above, ok.inj, ok.has, ok.cab, ok.hd, ok.frames, ok.stk, ok.exf, ok.bs, ok.bsz, ok.noex, ok.exfs, ok.funs, ok.frf⟩
section
variable {X : Cx} {pins : List (Addr × Obj)} {σ : St} {H : Hp} {s : Shared} {E : Value → Shared → Prop}
theorem Inv.wish (I : Inv X pins σ H s) (E : Value → Shared → Prop) : Inv (X.wish E) pins σ H s := ⟨I.ok.wish E, I.os, I.bare, I.base, I.loc, I.cell, I.free, I.freeC, I.pin, I.hok, I.len⟩
theorem Inv.unwish (I : Inv (X.wish E) pins σ H s) : Inv X pins σ H s := ⟨I.ok.unwish, I.os, I.bare, I.base, I.loc, I.cell, I.free, I.freeC, I.pin, I.hok, I.len⟩
theorem SP.unwish {D : Ends} {f : Flow} {s' : Shared} (h : SP (X.wish E) pins D f s') : SP X pins D f s' := by
  cases f with
  | next => obtain ⟨σ', H', I, q⟩ := h; exact ⟨σ', H', I.unwish, q⟩
  | brk => obtain ⟨σ', H', I, q⟩ := h; exact ⟨σ', H', I.unwish, q⟩
  | cont => obtain ⟨σ', H', I, q⟩ := h; exact ⟨σ', H', I.unwish, q⟩
  | ret u => obtain ⟨v, σ', H', I, r, q⟩ := h; exact ⟨v, σ', H', I.unwish, r, q⟩
theorem PSs.nox {st : List Stmt} {t : TS} (h : PSs X.nox st t) : PSs X st t := fun pins s σ H D I hw =>
  wpAny_mono (h pins s σ H D (I.wish _) hw) (fun _ _ q => q.unwish) fun _ _ z => False.elim z
end
section
variable {X : Cx} {st : Stmt} {rest : List Stmt} {t u : TS} {e : Expr} {te : TE} {pos : Pos}
def tNext : TS := fun D σ H => D.nx σ H
def tSeq (t u : TS) : TS := fun D σ H => t { D with nx := u D } σ H
theorem pss_nil : PSs X [] tNext := fun _ _ σ H _ I h => wpAny_execs_nil ⟨σ, H, I, h⟩
theorem pss_cons (h1 : PS X st t) (h2 : PSs X rest u) : PSs X (st :: rest) (tSeq t u) := by
  intro pins s σ H D I h
  refine wpAny_execs_cons (thn (h1 pins s σ H { D with nx := u D } I h) fun f s1 q => ?_)
  cases f with
  | next =>
    obtain ⟨σ', H', I', q⟩ := q
    exact h2 pins s1 σ' H' D I' q
  | ret v => exact q
  | brk => exact q
  | cont => exact q
theorem pss_one (h1 : PS X st t) : PSs X [st] t := by
  intro pins s σ H D I h
  refine wpAny_execs_cons (thn (h1 pins s σ H D I h) fun f s1 q => ?_)
  cases f with
  | next => exact wpAny_execs_nil q
  | ret v => exact q
  | brk => exact q
  | cont => exact q
theorem Inv.quiet {pins : List (Addr × Obj)} {σ : St} {H : Hp} {s : Shared} (I : Inv X pins σ H s) : interactive X.env = false := by simp [interactive, I.ok.kind]
def tDrop (te : TE) : TS := fun D σ H => te σ H fun _ H1 => D.nx σ H1
theorem ps_expr (he : PE X e te) (hs : swapsWith e none pos.line X.env = pure false := by rfl) : PS X (.Expr e pos) (tDrop te) := by
  intro pins s σ H D I h
  exact wpAny_Expr_any (thn (he pins s σ H _ I h) fun v s1 ⟨x, H1, I1, r1, q1⟩ => ⟨σ, H1, I1, q1⟩) I.quiet hs
def tRet (te : TE) : TS := fun D σ H => te σ H D.rt
theorem ps_ret (he : PE X e te) : PS X (.Return (some e) pos) (tRet te) := by
  intro pins s σ H D I h
  exact wpAny_Return_some (thn (he pins s σ H _ I h) fun v s1 ⟨x, H1, I1, r1, q1⟩ => ⟨x, σ, H1, I1, r1, q1⟩)
def tRetN : TS := fun D _ H => D.rt .non H
theorem ps_retN : PS X (.Return none pos) tRetN := fun _ _ σ H _ I h => wpAny_Return_none ⟨.non, σ, H, I, rfl, h⟩
def tIfS (c : TT) (t u : TS) : TS := fun D σ H => c σ H fun b H1 => if b = true then t D σ H1 else u D σ H1
theorem ps_if {c : Expr} {a b : List Stmt} {tc : TT} (hc : PT X c tc) (ha : PSs X a t) (hb : PSs X b u) : PS X (.If c a b pos) (tIfS tc t u) := by
  intro pins s σ H D I h
  refine wpAny_If (thn (hc pins s σ H _ I h) fun d s1 ⟨H1, I1, q1⟩ => ?_)
  cases d with
  | true => exact ha pins s1 σ H1 D I1 q1
  | false => exact hb pins s1 σ H1 D I1 q1
def tNever : TS := fun _ _ _ => False
theorem pss_never {sts : List Stmt} : PSs X sts tNever := fun _ _ _ _ _ _ h => h.elim
end
abbrev TG := V → St → Hp → (St → Hp → Prop) → Prop
def PG (X : Cx) (target : Expr) (t : TG) : Prop :=
  ∀ (pins : List (Addr × Obj)) (s : Shared) (σ : St) (H : Hp) (v : V) (u : Value) (Q : St → Hp → Prop), Inv X pins σ H s → RelV v u → t v σ H Q →
    wpAny (model X.prog X.w) X.A (assign target X.env u) (fun _ s' => ∃ σ' H', Inv X pins σ' H' s' ∧ Q σ' H') X.xe s
abbrev TSet := V → V → V → Hp → (Hp → Prop) → Prop
def PSet (X : Cx) (t : TSet) : Prop :=
  ∀ (pins : List (Addr × Obj)) (s : Shared) (σ : St) (H : Hp) (o i v : V) (ov iv u : Value) (Q : Hp → Prop), Inv X pins σ H s → RelV o ov → RelV i iv → RelV v u → t o i v H Q →
    wpAny (model X.prog X.w) X.A (setItem ov iv u) (fun _ s' => ∃ H', Inv X pins σ H' s' ∧ Q H') X.xe s
section
variable {X : Cx} {pos : Pos}
def gName (i : Nat) : TG := fun v σ H Q => Q (σ.set i (some v)) H
theorem pg_name {i : Nat} {x : Str} (hN : X.N.Nodup) (hi : X.N[i]? = some x) (hx : Loc X.env.scope x) (hf : X.fn x = true ∨ X.env.scope.names.lookup x = some .local := by first | exact .inl rfl | exact .inr rfl | assumption) : PG X (.Name x pos) (gName i) := by
  intro pins s σ H v u Q I r h
  exact wpAny_assign_Name (store_ok I hN hi hx r (fun s' I' => ⟨_, H, I', h⟩) hf)
def gSub (to ti : TE) (t : TSet) : TG := fun v σ H Q => to σ H fun o H1 => ti σ H1 fun i H2 => t o i v H2 fun H3 => Q σ H3
theorem pg_sub {o i : Expr} {to ti : TE} {t : TSet} (ho : PE X o to) (hi : PE X i ti) (hs : PSet X t)
    (ha : ∀ v, assign (.Subscript o i pos) X.env v = (do
      let ov ← holding [v] (eval o X.env)
      let iv ← holding [v, ov] (eval i X.env)
      standAt pos
      holding [v, ov, iv] (setItem ov iv v)
      release [v, ov, iv] []) := by intro _; rfl) : PG X (.Subscript o i pos) (gSub to ti t) := by
  intro pins s σ H v u Q I r h
  rw [ha]
  refine wpAny_bind (wpAny_holding (thn (ho pins s σ H _ I h) fun ov s1 ⟨x, H1, I1, r1, q1⟩ => ?_))
  refine wpAny_bind (wpAny_holding (thn (hi pins s1 σ H1 _ I1 q1) fun iv s2 ⟨y, H2, I2, r2, q2⟩ => ?_))
  refine wpAny_bind (wpAny_standAt (wpAny_bind (wpAny_holding (thn (hs pins s2 σ H2 x y v ov iv u _ I2 r1 r2 r q2) fun _ s3 ⟨H3, I3, q3⟩ => ?_))))
  exact wpAny_release ⟨σ, H3, I3, q3⟩
def tAsg (te : TE) (g : TG) : TS := fun D σ H => te σ H fun x H1 => g x σ H1 D.nx
theorem ps_asg {tg e : Expr} {te : TE} {g : TG} (he : PE X e te) (hg : PG X tg g) (hs : swapsWithSole [tg] e pos.line X.env = pure false := by rfl) (hw : swappedStores [tg] e X.env = pure none := by rfl)
    (h1 : (assignEach [tg] X.env).map (·.2) = [assign tg X.env] := by rfl) : PS X (.Assign [tg] e pos) (tAsg te g) := by
  intro pins s σ H D I h
  refine wpAny_Assign_stores (thn (he pins s σ H _ I h) fun v s1 ⟨x, H1, I1, r1, q1⟩ => ?_) hs hw
  rw [h1]
  exact thn (hg pins s1 σ H1 x v _ I1 r1 q1) fun _ s2 q => q
theorem ps_set {i : Nat} {x : Str} {e : Expr} {te : TE} {pos' : Pos} (hN : X.N.Nodup) (hi : X.N[i]? = some x) (hx : Loc X.env.scope x) (he : PE X e te) (hs : swapsWith e (some (.Name x pos')) pos.line X.env = pure false := by rfl) (hf : X.fn x = true ∨ X.env.scope.names.lookup x = some .local := by first | exact .inl rfl | exact .inr rfl | assumption) :
    PS X (.Assign [.Name x pos'] e pos) (tAsg te (gName i)) := by
  intro pins s σ H D I h
  refine wpAny_Assign_Name (thn (he pins s σ H _ I h) fun v s1 ⟨y, H1, I1, r1, q1⟩ => ?_) hs
  exact store_ok I1 hN hi hx r1 (fun s2 I2 => ⟨_, H1, I2, q1⟩) hf
end
section
variable {X : Cx} {pos : Pos}
end
structure It where
  go : Nat → Hp → Prop
  yld : Nat → Hp → V → Hp → Prop
  stop : Nat → Hp → Prop
def FpOk (X : Cx) (pins : List (Addr × Obj)) (H : Hp) (b : Addr) : Prop :=
  H b = none ∧ b ≠ X.env.locals ∧ b ∉ X.fs ∧ (b ∈ X.ex ∨ X.s₀.heap.objs.size ≤ b) ∧ (∀ x c, X.env.cells.lookup x = some c → c ≠ b) ∧ ∀ p ∈ X.pn ++ pins, p.1 ≠ b
theorem Inv.fpOk {X : Cx} {pins : List (Addr × Obj)} {σ : St} {H H' : Hp} {s : Shared} {b : Addr} (I : Inv X pins σ H s) (hb : s.heap.objs.size ≤ b) (hn : H' b = none) : FpOk X pins H' b := by
  refine ⟨hn, Nat.ne_of_gt (Nat.lt_of_lt_of_le I.lt hb), I.nofs hb, .inr (Nat.le_trans I.sz hb), fun x c e z => ?_, fun p hp z => ?_⟩
  · obtain ⟨v, q⟩ := I.cell x c e
    exact absurd (Nat.lt_of_lt_of_le q.lt (by rw [z]; exact hb)) (Nat.lt_irrefl _)
  · exact absurd (Nat.lt_of_lt_of_le (Heap.lt_size (I.pin p hp).1) (by rw [z]; exact hb)) (Nat.lt_irrefl _)
structure Turn (P : Program) (w : World) (K : W.Frag) (tg : Expr) (J : It) (fp : List Addr) (it : Addr) (tn : Nat → Heap → Prop) : Prop where
  mem : it ∈ fp
  obj : ∀ i h, tn i h → ∀ b ∈ fp, ∃ o, h.get? b = some o ∧ ∀ v, o.data ≠ .cell v
  keep : ∀ i h h', tn i h → (∀ b ∈ fp, ∀ o, h.get? b = some o → h'.get? b = some o) → tn i h'
  item : ∀ (X : Cx), X.prog = P → X.w = w → X.K = K → X.calm = true → ∀ (i : Nat) (pins : List (Addr × Obj)) (s : Shared) (σ : St) (H : Hp) (E : Value → Shared → Prop), Inv X pins σ H s → (∀ b ∈ fp, FpOk X pins H b) → tn i s.heap → J.go i H →
    wpAny (model P w) X.A (pyNext (.ref it)) (fun r s1 => ∃ u, r = some u ∧
      wpAny (model P w) X.A (letOwnedTupleGo tg (.ref it) u) (fun _ s2 => ∃ x H', Inv X pins σ H' s2 ∧ RelV x u ∧ J.yld i H x H' ∧ tn (i + 1) s2.heap ∧ ∀ b ∈ fp, H' b = none) E s1) E s
  done : ∀ (X : Cx), X.prog = P → X.w = w → X.K = K → X.calm = true → ∀ (i : Nat) (pins : List (Addr × Obj)) (s : Shared) (σ : St) (H : Hp) (E : Value → Shared → Prop), Inv X pins σ H s → (∀ b ∈ fp, FpOk X pins H b) → tn i s.heap → J.stop i H →
    wpAny (model P w) X.A (pyNext (.ref it)) (fun r s1 => r = none ∧ Inv X pins σ H s1) E s
  self : ∀ (A : Around) (i : Nat) (s : Shared) (Q : Value → Shared → Prop) (E : Value → Shared → Prop), tn i s.heap → Q (.ref it) s → wpAny (model P w) A (pyIter (.ref it)) Q E s
abbrev TI := St → Hp → (It → Hp → Prop) → Prop
def PIE (X : Cx) (pins : List (Addr × Obj)) (σ : St) (tg : Expr) (R : It → Hp → Prop) (itv : Value) (s2 : Shared) : Prop :=
  ∃ (it : Addr) (fp : List Addr) (tn : Nat → Heap → Prop) (J : It) (H' : Hp), itv = .ref it ∧ Inv X pins σ H' s2 ∧ Turn X.prog X.w X.K tg J fp it tn ∧ tn 0 s2.heap ∧ (∀ b ∈ fp, FpOk X pins H' b) ∧ R J H'
def PI (X : Cx) (tg iter : Expr) (wi : TI) : Prop :=
  ∀ (pins : List (Addr × Obj)) (s : Shared) (σ : St) (H : Hp) (R : It → Hp → Prop), Inv X pins σ H s → wi σ H R →
    wpAny (model X.prog X.w) X.A (eval iter X.env) (fun v s1 => wpAny (model X.prog X.w) X.A (pyIter v) (PIE X pins σ tg R) X.xe s1) X.xe s
theorem go_of {M : Model} {A : Around} {E : Value → Shared → Prop} {s : Shared} {tg : Expr} {it : Addr} {u : Value} {o : Obj} {n : String} {vs : Array Value} {Q : Unit → Shared → Prop} (ho : s.heap.get? it = some o) (hc : o.cls = .type n) (hd : o.data = .fields vs)
    (hn : ["enumerate", "zip", "dict_itemiterator", "dict_reverseitemiterator", "odict_iterator", "itertools.zip_longest", "itertools.pairwise"].contains n = false) (hQ : Q () s) : wpAny M A (letOwnedTupleGo tg (.ref it) u) Q E s := by
  unfold letOwnedTupleGo
  cases tg <;> first
    | exact wpAny_pure hQ
    | (cases u <;> first
        | exact wpAny_pure hQ
        | (refine wpAny_bind (wpAny_load ho ?_)
           rw [hc, hd]
           show wpAny M A (if (["enumerate", "zip", "dict_itemiterator", "dict_reverseitemiterator", "odict_iterator", "itertools.zip_longest", "itertools.pairwise"].contains n && vs[0]? == some (rawInt _)) = true then _ else _) Q E s
           rw [if_neg (by intro h; rw [hn, Bool.false_and] at h; cases h)]
           exact wpAny_pure hQ))
def Itl (K : W.Frag) (a : Addr) : It :=
  ⟨fun i H => ∃ xs x, SqL K H a xs ∧ xs[i]? = some x, fun i H x H' => H' = H ∧ ∀ xs, SqL K H a xs → xs[i]? = some x, fun i H => ∃ xs, SqL K H a xs ∧ xs.length ≤ i⟩
def Itt (K : W.Frag) (a : Addr) : It :=
  ⟨fun i H => ∃ xs x, SqT K H a xs ∧ xs[i]? = some x, fun i H x H' => H' = H ∧ ∀ xs, SqT K H a xs → xs[i]? = some x, fun i H => ∃ xs, SqT K H a xs ∧ xs.length ≤ i⟩
def Itr (lo : Int) (n : Nat) : It := ⟨fun i _ => i < n, fun i H x H' => H' = H ∧ x = .int (lo + i), fun i _ => n ≤ i⟩
theorem turn_list {P : Program} {w : World} {K : W.Frag} {tg : Expr} (a it : Addr) : Turn P w K tg (Itl K a) [it] it (fun i h => h.IsListIter it a i) where
  mem := by simp
  obj := fun i h st b hb => by
    have e : b = it := by simpa using hb
    subst e
    obtain ⟨o, e, c, d⟩ := st
    exact ⟨o, e, fun v z => by rw [d] at z; cases z⟩
  keep := fun i h h' st k => st.at fun o e => k it (by simp) o e
  item := by
    intro X hP hw hK hc i pins s σ H E I hf st hg
    subst hP hw hK
    obtain ⟨xs, x, hq, hx⟩ := hg
    obtain ⟨its, rv, p, hz⟩ := I.list hq
    obtain ⟨u, hu, ru⟩ := rv.get hx
    obtain ⟨f0, f1, f2, f3, f4, f5⟩ := hf it (by simp)
    refine wpAny_pyNext_list_item st p.isList (x := u) (by simpa using hu) fun h' st' sb => ?_
    have I1 : Inv X pins σ H { s with heap := h' } := I.turned (t' := s.toks) (fun b o hb e => (sb.2 b hb).trans e) f0 f1 f3 f4 f5
    obtain ⟨o, e, c, d⟩ := id st'
    exact ⟨u, rfl, go_of (s := { s with heap := h' }) e c d (by decide) ⟨x, H, I1, ru, ⟨rfl, fun ys hy => by rw [I.list_inj hy hq]; exact hx⟩, st', fun b hb => (hf b hb).1⟩⟩
  done := by
    intro X hP hw hK hc i pins s σ H E I hf st hg
    subst hP hw hK
    obtain ⟨xs, hq, hx⟩ := hg
    obtain ⟨its, rv, p, hz⟩ := I.list hq
    obtain ⟨f0, f1, f2, f3, f4, f5⟩ := hf it (by simp)
    have hl := rv.length
    exact wpAny_pyNext_list_end (I.ok.hd hc) st p.isList (by simp; omega) fun h' eb => ⟨rfl, I.turned (t' := s.toks) (fun b o hb e => eb b o hb e) f0 f1 f3 f4 f5⟩
  self := fun _ _ _ _ _ st h => wpAny_pyIter_listiter st h
theorem turn_tuple {P : Program} {w : World} {K : W.Frag} {tg : Expr} (a it : Addr) : Turn P w K tg (Itt K a) [it] it (fun i h => h.IsTupleIter it a i) where
  mem := by simp
  obj := fun i h st b hb => by
    have e : b = it := by simpa using hb
    subst e
    obtain ⟨o, e, c, d⟩ := st
    exact ⟨o, e, fun v z => by rw [d] at z; cases z⟩
  keep := fun i h h' st k => st.at fun o e => k it (by simp) o e
  item := by
    intro X hP hw hK hc i pins s σ H E I hf st hg
    subst hP hw hK
    obtain ⟨xs, x, hq, hx⟩ := hg
    obtain ⟨its, rv, p, hz⟩ := I.tuple hq
    obtain ⟨u, hu, ru⟩ := rv.get hx
    obtain ⟨f0, f1, f2, f3, f4, f5⟩ := hf it (by simp)
    refine wpAny_pyNext_tuple_item st (show s.heap.IsTuple a its.toArray from p) (x := u) (by simpa using hu) fun h' st' sb => ?_
    have I1 : Inv X pins σ H { s with heap := h' } := I.turned (t' := s.toks) (fun b o hb e => (sb.2 b hb).trans e) f0 f1 f3 f4 f5
    obtain ⟨o, e, c, d⟩ := id st'
    exact ⟨u, rfl, go_of (s := { s with heap := h' }) e c d (by decide) ⟨x, H, I1, ru, ⟨rfl, fun ys hy => by rw [I.tuple_inj hy hq]; exact hx⟩, st', fun b hb => (hf b hb).1⟩⟩
  done := by
    intro X hP hw hK hc i pins s σ H E I hf st hg
    subst hP hw hK
    obtain ⟨xs, hq, hx⟩ := hg
    obtain ⟨its, rv, p, hz⟩ := I.tuple hq
    obtain ⟨f0, f1, f2, f3, f4, f5⟩ := hf it (by simp)
    have hl := rv.length
    exact wpAny_pyNext_tuple_end (I.ok.hd hc) st (show s.heap.IsTuple a its.toArray from p) (by simp; omega) fun h' eb => ⟨rfl, I.turned (t' := s.toks) (fun b o hb e => eb b o hb e) f0 f1 f3 f4 f5⟩
  self := fun _ _ _ _ _ st h => wpAny_pyIter_tupleiter st h
theorem turn_range {P : Program} {w : World} {K : W.Frag} {tg : Expr} (it : Addr) (lo : Int) (n : Nat) : Turn P w K tg (Itr lo n) [it] it (fun i h => IsRangeIter h it (lo + (i : Nat) * 1) ((n : Int) - (i : Nat)) 1) where
  mem := by simp
  obj := fun i h st b hb => by
    have e : b = it := by simpa using hb
    subst e
    exact ⟨_, st, fun v z => by
      have z' : Data.fields _ = Data.cell v := z
      cases z'⟩
  keep := fun i h h' st k => k it (by simp) _ st
  item := by
    intro X hP hw hK hc i pins s σ H E I hf st hg
    subst hP hw hK
    obtain ⟨f0, f1, f2, f3, f4, f5⟩ := hf it (by simp)
    have W := Walks.range (prog := X.prog) (w := X.w) (I.ok.hd hc) it lo 1 n
    refine W.item i s _ _ hg st fun v h' tk hv st' kk => ?_
    obtain ⟨t, rfl⟩ := hv
    have I1 : Inv X pins σ H { s with heap := h', toks := tk } := I.turned (fun b o hb e => kk b o (by simpa using hb) e) f0 f1 f3 f4 f5
    refine ⟨_, rfl, go_of (s := { s with heap := h', toks := tk }) (n := "range_iterator") st' rfl rfl (by decide) ⟨.int (lo + i), H, I1, ⟨t, ?_⟩, ⟨rfl, rfl⟩, st', fun b hb => (hf b hb).1⟩⟩
    rw [Int.mul_one]
  done := by
    intro X hP hw hK hc i pins s σ H E I hf st hg
    subst hP hw hK
    obtain ⟨f0, f1, f2, f3, f4, f5⟩ := hf it (by simp)
    exact wpAny_pyNext_range_end (I.ok.hd hc) st (by have : n ≤ i := hg; omega) fun h' eb => ⟨rfl, I.turned (t' := s.toks) (fun b o hb e => eb b o hb e) f0 f1 f3 f4 f5⟩
  self := fun _ _ _ _ _ st h => wpAny_pyIter_rangeiter st h
end L2
namespace L2
open PySem PySem.Spec PyProof.Rows
section
variable {X : Cx} {tg : Expr}
theorem range_it {pins : List (Addr × Obj)} {σ : St} {H : Hp} {s : Shared} {R : It → Hp → Prop} {E : Value → Shared → Prop} {lo hi : Int} {t u v : Tok} {tk : Nat} (I : Inv X pins σ H s) (h1 : -(2 ^ 62) ≤ lo) (h2 : lo < 2 ^ 62) (h3 : -(2 ^ 62) ≤ hi) (h4 : hi < 2 ^ 62)
    (q : R (Itr lo (hi - lo).toNat) H) : wpAny (model X.prog X.w) X.A (pyIter (.ref s.heap.objs.size)) (PIE X pins σ tg R) E { s with heap := s.heap.push { cls := .type "range", data := .fields #[.int lo t, .int hi u, .int 1 v] }, toks := tk } := by
  refine wpAny_pyIter_range (IsRange.new ..) (small_one h1 h2 h3 h4) ?_
  have I1 : Inv X pins σ H { s with heap := s.heap.push { cls := .type "range", data := .fields #[.int lo t, .int hi u, .int 1 v] }, toks := tk } := I.kept fun b o e => Heap.get?_push_of_some _ e
  refine ⟨(s.heap.push { cls := .type "range", data := .fields #[.int lo t, .int hi u, .int 1 v] }).objs.size, [(s.heap.push { cls := .type "range", data := .fields #[.int lo t, .int hi u, .int 1 v] }).objs.size], _, _, H, rfl,
    I1.kept (t' := tk) fun b o e => Heap.get?_push_of_some _ e, turn_range _ lo (hi - lo).toNat, ?_, fun b hb => ?_, q⟩
  · have e1 : lo + ((0 : Nat) : Int) * 1 = lo := by simp
    have e2 : (((hi - lo).toNat : Nat) : Int) - ((0 : Nat) : Int) = Builtin.Range.rangeSize lo hi 1 := by rw [rangeSize_one]; split <;> omega
    show IsRangeIter _ _ (lo + ((0 : Nat) : Int) * 1) ((((hi - lo).toNat : Nat) : Int) - ((0 : Nat) : Int)) 1
    rw [e1, e2]
    exact Heap.get?_push_size _ rfl
  · have e : b = (s.heap.push { cls := .type "range", data := .fields #[.int lo t, .int hi u, .int 1 v] }).objs.size := by simpa using hb
    subst e
    exact I1.fpOk (Nat.le_refl _) (I1.hok.fresh (Nat.le_refl _))
def iRng1 (ta : TA) : TI := fun σ H R => ta σ H fun vs H1 => ∃ j : Int, vs = [.int j] ∧ -(2 ^ 62) ≤ j ∧ j < 2 ^ 62 ∧ R (Itr 0 j.toNat) H1
def iRng2 (ta : TA) : TI := fun σ H R => ta σ H fun vs H1 => ∃ i j : Int, vs = [.int i, .int j] ∧ (-(2 ^ 62) ≤ i ∧ i < 2 ^ 62 ∧ -(2 ^ 62) ≤ j ∧ j < 2 ^ 62) ∧ R (Itr i (j - i).toNat) H1
theorem pi_range1 {a : Expr} {ta : TA} {p pos : Pos} (hg : Gl X "range") (hm : X.mg "range" = none) (ha : PA X [a] ta) (hs : starEach [a] X.env = [(false, eval a X.env)] := by rfl) : PI X tg (.Call (.Name "range" p) [a] [] pos) (iRng1 ta) := by
  intro pins s σ H R I h
  refine Call_ (ld_blt I hg hm boot_range (PyProof.Rows.callWith_type1 (thn (ha pos pins s σ H _ I h) fun us s1 ⟨vs, H1, I1, r1, q1⟩ => ?_) hs rfl))
  obtain ⟨j, e, q1, q2, q⟩ := q1
  subst e
  cases r1 with
  | cons r rr =>
    cases rr
    obtain ⟨t, rfl⟩ := r
    exact call_range_1 (range_it I1 (by omega) (by omega) q1 q2 (by simpa using q))
theorem pi_range2 {a b : Expr} {ta : TA} {p pos : Pos} (hg : Gl X "range") (hm : X.mg "range" = none) (ha : PA X [a, b] ta) (hs : starEach [a, b] X.env = [(false, eval a X.env), (false, eval b X.env)] := by rfl) (hs2 : starEach [b] X.env = [(false, eval b X.env)] := by rfl) :
    PI X tg (.Call (.Name "range" p) [a, b] [] pos) (iRng2 ta) := by
  intro pins s σ H R I h
  refine Call_ (ld_blt I hg hm boot_range (PyProof.Rows.callWith_type1 (thn (ha pos pins s σ H _ I h) fun us s1 ⟨vs, H1, I1, r1, q1⟩ => ?_) (by rw [hs, hs2]) (by rw [hs2]; rfl)))
  obtain ⟨i, j, e, ⟨q1, q2, q3, q4⟩, q⟩ := q1
  subst e
  cases r1 with
  | cons r rr =>
    cases rr with
    | cons r' rr =>
      cases rr
      obtain ⟨t, rfl⟩ := r
      obtain ⟨t', rfl⟩ := r'
      exact call_range_2 (range_it I1 q1 q2 q3 q4 q)
def tFor (wi : TI) (g : TG) (tb : TS) : TS := fun D σ H => wi σ H fun J H1 => ∃ W : Nat → Nat → St → Hp → Prop, (∃ m, W 0 m σ H1) ∧ ∀ i m σ H, W i m σ H →
  (J.stop i H ∧ D.nx σ H) ∨ (J.go i H ∧ ∃ N : St → Hp → Prop, (∀ σ' H', N σ' H' → ∃ m', m' < m ∧ W (i + 1) m' σ' H') ∧ ∀ x H', J.yld i H x H' → g x σ H' fun σ2 H2 => tb { D with nx := N, ct := N, bk := D.nx } σ2 H2)
def pinsAt (fp : List Addr) (h : Heap) : List (Addr × Obj) := fp.filterMap fun b => (h.get? b).map fun o => (b, o)
theorem mem_pinsAt {fp : List Addr} {h : Heap} {b : Addr} {o : Obj} (hb : b ∈ fp) (e : h.get? b = some o) : (b, o) ∈ pinsAt fp h := List.mem_filterMap.mpr ⟨b, hb, by rw [e]; rfl⟩
theorem of_pinsAt {fp : List Addr} {h : Heap} {p : Addr × Obj} (hp : p ∈ pinsAt fp h) : p.1 ∈ fp ∧ h.get? p.1 = some p.2 := by
  obtain ⟨b, hb, e⟩ := List.mem_filterMap.mp hp
  cases q : h.get? b with
  | none => rw [q] at e; cases e
  | some o =>
    rw [q] at e
    have e' : (b, o) = p := Option.some.inj e
    subst e'
    exact ⟨hb, q⟩
theorem Inv.pinned {pins : List (Addr × Obj)} {σ : St} {H : Hp} {s : Shared} {fp : List Addr} (I : Inv X pins σ H s) (hf : ∀ b ∈ fp, FpOk X pins H b) (ho : ∀ b ∈ fp, ∃ o, s.heap.get? b = some o ∧ ∀ v, o.data ≠ .cell v) : Inv X (pins ++ pinsAt fp s.heap) σ H s :=
  I.pins_of fun p hp => (List.mem_append.mp hp).elim (fun z => I.pin p (List.mem_append_right _ z)) fun z => by
    obtain ⟨hb, e⟩ := of_pinsAt z
    obtain ⟨f0, f1, f2, _⟩ := hf p.1 hb
    obtain ⟨o, e', d⟩ := ho p.1 hb
    rw [e] at e'; cases e'
    exact ⟨e, f0, f1, f2, d⟩
theorem Inv.unpinned {pins pl : List (Addr × Obj)} {σ : St} {H : Hp} {s : Shared} (I : Inv X (pins ++ pl) σ H s) : Inv X pins σ H s := I.pins_of fun p hp => I.pin p (List.mem_append_right _ (List.mem_append_left _ hp))
theorem ps_for {iter : Expr} {body : List Stmt} {wi : TI} {g : TG} {tb : TS} {pos : Pos} (hp : PassesOwn (model X.prog X.w) X.A X.env X.xe) (hc : X.calm = true) (hi : PI X tg iter wi) (hg : PG X tg g) (hb : PSs X body tb)
    (hs : ∀ x, foldedSetIterable iter X.env x = pure x := by intro _; rfl) : PS X (.For tg iter body [] pos) (tFor wi g tb) := by
  intro pins s σ H D I h
  refine wpAny_For (thn (hi pins s σ H _ I h) fun v s1 h1 => thn h1 fun itv s2 h2 => ?_) hs
  obtain ⟨it, fp, tn, J, H2, e, I2, T, st2, f2, W, ⟨m0, w0⟩, turn⟩ := h2
  subst e
  -- what stays true of the iterator's objects through the loop
  have stat : ∀ {H' : Hp}, (∀ b ∈ fp, H' b = none) → ∀ b ∈ fp, FpOk X pins H' b := fun hn b hb => ⟨hn b hb, (f2 b hb).2⟩
  refine codeAny_forLoop_any (fun n s' => ∃ i σ' H', Inv X pins σ' H' s' ∧ tn i s'.heap ∧ (∀ b ∈ fp, H' b = none) ∧ W i n σ' H') ?_ m0 ⟨0, σ, H2, I2, st2, fun b hb => (f2 b hb).1, w0⟩
  rintro n s3 ⟨i, σ3, H3, I3, st3, fr3, w3⟩
  rcases turn i n σ3 H3 w3 with ⟨stop, qn⟩ | ⟨go, N, hN, step⟩
  · refine wpAny_passesOwn hp (thn (T.done X rfl rfl rfl hc i pins s3 σ3 H3 X.xe I3 (stat fr3) st3 stop) fun r s4 ⟨hr, I4⟩ => ?_)
    subst hr
    exact wpAny_execs_nil ⟨σ3, H3, I4, qn⟩
  · refine wpAny_passesOwn hp (thn (T.item X rfl rfl rfl hc i pins s3 σ3 H3 X.xe I3 (stat fr3) st3 go) fun r s4 ⟨u, hr, h4⟩ => ?_)
    subst hr
    refine wpAny_passesOwn hp (thn h4 fun _ s5 ⟨x, H5, I5, r5, y5, st5, fr5⟩ => ?_)
    have I5' := I5.pinned (stat fr5) (T.obj _ _ st5)
    refine wpAny_passesOwn hp (thn (hg _ s5 σ3 H5 x u _ I5' r5 (step x H5 y5)) fun _ s6 ⟨σ6, H6, I6, q6⟩ => ?_)
    refine wpAny_passesOwn hp (thn (hb _ s6 σ6 H6 _ I6 q6) fun f s7 q7 => ?_)
    have again : ∀ {σ7 : St} {H7 : Hp}, Inv X (pins ++ pinsAt fp s5.heap) σ7 H7 s7 → N σ7 H7 → ∃ m, m < n ∧ ∃ i σ' H', Inv X pins σ' H' s7 ∧ tn i s7.heap ∧ (∀ b ∈ fp, H' b = none) ∧ W i m σ' H' := fun {σ7 H7} I7 n7 => by
      obtain ⟨m', hm, w7⟩ := hN σ7 H7 n7
      refine ⟨m', hm, i + 1, σ7, H7, I7.unpinned, T.keep _ _ _ st5 fun b hb o e => (I7.pin (b, o) (List.mem_append_right _ (List.mem_append_right _ (mem_pinsAt hb e)))).1, fun b hb => ?_, w7⟩
      obtain ⟨o, e, d⟩ := T.obj _ _ st5 b hb
      exact (I7.pin (b, o) (List.mem_append_right _ (List.mem_append_right _ (mem_pinsAt hb e)))).2.1
    cases f with
    | next => obtain ⟨σ7, H7, I7, n7⟩ := q7; exact again I7 n7
    | cont => obtain ⟨σ7, H7, I7, n7⟩ := q7; exact again I7 n7
    | brk => obtain ⟨σ7, H7, I7, q7⟩ := q7; exact ⟨σ7, H7, I7.unpinned, q7⟩
    | ret v => obtain ⟨x7, σ7, H7, I7, r7, q7⟩ := q7; exact ⟨x7, σ7, H7, I7.unpinned, r7, q7⟩
end
end L2
namespace L2
open PySem PySem.Spec PyProof.Rows
abbrev R2 := V → V → Hp → VK → Prop
def OpR (X : Cx) (f : Value → Value → Sem Value) (r : R2) : Prop :=
  ∀ (pins : List (Addr × Obj)) (s : Shared) (σ : St) (H : Hp) (x y : V) (v u : Value) (Q : VK), Inv X pins σ H s → RelV x v → RelV y u → r x y H Q →
    wpAny (model X.prog X.w) X.A (f v u) (EP X pins σ Q) X.xe s
def CallR (X : Cx) (f : Value) (r : List V → Hp → VK → Prop) : Prop :=
  ∀ (pins : List (Addr × Obj)) (s : Shared) (σ : St) (H : Hp) (xs : List V) (us : List Value) (Q : VK), Inv X pins σ H s → Vals xs us → r xs H Q →
    wpAny (model X.prog X.w) X.A (call f us) (EP X pins σ Q) X.xe s
def tOp (r : R2) (ta tb : TE) : TE := fun σ H Q => ta σ H fun x H1 => tb σ H1 fun y H2 => r x y H2 Q
def rI (C : Int → Int → Prop) (g : Int → Int → V) : R2 := fun x y H Q => ∃ i j, x = .int i ∧ y = .int j ∧ C i j ∧ Q (g i j) H
def rI0 (g : Int → Int → V) : R2 := fun x y H Q => ∃ i j, x = .int i ∧ y = .int j ∧ Q (g i j) H
section
variable {X : Cx} {a b c : Expr} {ta tb tc : TE} {pos : Pos}
theorem binT (ha : PE X a ta) (hb : PE X b tb) {pins : List (Addr × Obj)} {s : Shared} {σ : St} {H : Hp} {R : V → V → Hp → Prop} (I : Inv X pins σ H s)
    (h : ta σ H fun x H1 => tb σ H1 fun y H2 => R x y H2) {Q : Value → Shared → Prop} {f : Value → Value → Sem Value}
    (hf : ∀ v u s2 x y H2, Inv X pins σ H2 s2 → RelV x v → RelV y u → R x y H2 → wpAny (model X.prog X.w) X.A (f v u) Q X.xe s2) :
    wpAny (model X.prog X.w) X.A (eval a X.env) (fun v s₁ => wpAny (model X.prog X.w) X.A (eval b X.env) (fun u s₂ => wpAny (model X.prog X.w) X.A (f v u) Q X.xe s₂) X.xe s₁) X.xe s := by
  refine thn (ha pins s σ H _ I h) fun v s1 ⟨x, H1, I1, r1, q1⟩ => ?_
  refine thn (hb pins s1 σ H1 _ I1 q1) fun u s2 ⟨y, H2, I2, r2, q2⟩ => ?_
  exact hf v u s2 x y H2 I2 r1 r2 q2
theorem pe_op {op : Operator} {r : R2} (ho : OpR X (binaryOp op) r) (ha : PE X a ta) (hb : PE X b tb) : PE X (.BinOp a op b pos) (tOp r ta tb) := by
  intro pins s σ H Q I h
  exact wpAny_BinOp (binT ha hb I h fun v u s2 x y H2 I2 rx ry q => ho pins s2 σ H2 x y v u Q I2 rx ry q)
theorem opI {f : Value → Value → Sem Value} {C : Int → Int → Prop} {g : Int → Int → Int}
    (rule : ∀ (i j : Int) (t u : Tok) (s : Shared) (Q : Value → Shared → Prop) (E : Value → Shared → Prop), C i j → Q (.int (g i j) s.toks) { s with toks := s.toks + 1 } → wpAny (model X.prog X.w) X.A (f (.int i t) (.int j u)) Q E s) :
    OpR X f (rI C fun i j => .int (g i j)) := by
  intro pins s σ H x y v u Q I rx ry h
  obtain ⟨i, j, rfl, rfl, hc, q⟩ := h
  obtain ⟨t, rfl⟩ := rx
  obtain ⟨t', rfl⟩ := ry
  exact rule i j t t' s _ _ hc ⟨.int (g i j), H, I.tok _, ⟨_, rfl⟩, q⟩
theorem opI0 {f : Value → Value → Sem Value} {g : Int → Int → Int}
    (rule : ∀ (i j : Int) (t u : Tok) (s : Shared) (Q : Value → Shared → Prop) (E : Value → Shared → Prop), Q (.int (g i j) s.toks) { s with toks := s.toks + 1 } → wpAny (model X.prog X.w) X.A (f (.int i t) (.int j u)) Q E s) :
    OpR X f (rI0 fun i j => .int (g i j)) := by
  intro pins s σ H x y v u Q I rx ry h
  obtain ⟨i, j, rfl, rfl, q⟩ := h
  obtain ⟨t, rfl⟩ := rx
  obtain ⟨t', rfl⟩ := ry
  exact rule i j t t' s _ _ ⟨.int (g i j), H, I.tok _, ⟨_, rfl⟩, q⟩
theorem opB0 {f : Value → Value → Sem Value} {g : Int → Int → Bool}
    (rule : ∀ (i j : Int) (t u : Tok) (s : Shared) (Q : Value → Shared → Prop) (E : Value → Shared → Prop), Q (.bool (g i j)) s → wpAny (model X.prog X.w) X.A (f (.int i t) (.int j u)) Q E s) :
    OpR X f (rI0 fun i j => .bl (g i j)) := by
  intro pins s σ H x y v u Q I rx ry h
  obtain ⟨i, j, rfl, rfl, q⟩ := h
  obtain ⟨t, rfl⟩ := rx
  obtain ⟨t', rfl⟩ := ry
  exact rule i j t t' s _ _ ⟨.bl (g i j), H, I, rfl, q⟩
def CPow (i j : Int) : Prop := 0 ≤ j ∧ j ≤ 1000000 ∧ i.natAbs < 2 ^ 64
def CMul (i j : Int) : Prop := (-(2 ^ 64) < i ∧ i < 2 ^ 64) ∨ (-(2 ^ 64) < j ∧ j < 2 ^ 64)
theorem CMul.ok {i j : Int} (h : CMul i j) : IntMulOk i j := by
  rcases h with ⟨h1, h2⟩ | ⟨h1, h2⟩
  · exact .of_left (intBits_le_64 h1 h2)
  · exact .of_right (intBits_le_64 h1 h2)
theorem op_add : OpR X (binaryOp .Add) (rI0 fun i j => .int (i + j)) := opI0 fun _ _ _ _ _ _ _ q => add_int q
theorem op_sub : OpR X (binaryOp .Sub) (rI0 fun i j => .int (i - j)) := opI0 fun _ _ _ _ _ _ _ q => sub_int q
theorem op_mul : OpR X (binaryOp .Mult) (rI CMul fun i j => .int (i * j)) := opI fun _ _ _ _ _ _ _ hc q => mul_int q hc.ok
theorem op_mod : OpR X (binaryOp .Mod) (rI (fun _ j => 0 < j) fun i j => .int (i % j)) := opI fun i j _ _ _ _ _ hc q => by
  have h1 : (0 : Int) < j := hc
  exact mod_int' (by omega) (by rw [Int.fmod_eq_emod_of_nonneg i (by omega)]; exact q)
theorem op_pow : OpR X (binaryOp .Pow) (rI CPow fun i j => .int (i ^ j.toNat)) := opI fun _ _ _ _ _ _ _ hc q => pow_int_small hc.1 hc.2.1 hc.2.2 q
end
section
variable {X : Cx} {a b c : Expr} {ta tb tc : TE} {pos : Pos}
theorem fin_bl {pins : List (Addr × Obj)} {σ : St} {H : Hp} {s : Shared} {Q : VK} {k k' : Bool} (I : Inv X pins σ H s) (q : Q (.bl k) H) (e : k = k') : EP X pins σ Q (.bool k') s := by
  subst e
  exact ⟨.bl k, H, I, rfl, q⟩
theorem op_lt : OpR X (compareOp .Lt) (rI0 fun i j => .bl (decide (i < j))) := opB0 fun _ _ _ _ _ _ _ q => lt_int q
theorem op_gt : OpR X (compareOp .Gt) (rI0 fun i j => .bl (decide (j < i))) := opB0 fun _ _ _ _ _ _ _ q => gt_int q
theorem op_ge : OpR X (compareOp .GtE) (rI0 fun i j => .bl (decide (j ≤ i))) := opB0 fun _ _ _ _ _ _ _ q => ge_int q
theorem op_isN : OpR X (compareOp .Is) (fun x y H Q => y = .non ∧ Q (.bl (decide (x = .non))) H) := by
  intro pins s σ H x y v u Q I rx ry h
  obtain ⟨rfl, q⟩ := h
  cases ry
  refine is_none_gen (fin_bl I q ?_)
  cases x <;> first
    | (cases rx; rfl)
    | (obtain ⟨t, rfl⟩ := rx; rfl)
theorem nomark (b : Expr) {op : CmpOp} (h : op ≠ .In := by decide) (h2 : op ≠ .NotIn := by decide) : behindInMarks op b = false := by
  have e1 : (op == CmpOp.In) = false := by cases op <;> first | rfl | exact absurd rfl h
  have e2 : (op == CmpOp.NotIn) = false := by cases op <;> first | rfl | exact absurd rfl h2
  cases b <;> simp [behindInMarks, e1, e2]
theorem pe_cmpR {op : CmpOp} {r : R2} (ho : OpR X (compareOp op) r) (ha : PE X a ta) (hb : PE X b tb) (hm : behindInMarks op b = false) : PE X (.Compare a [op] [b] pos) (tOp r ta tb) := by
  intro pins s σ H Q I h
  exact wpAny_Compare1 (binT ha hb I h fun v u s2 x y H2 I2 rx ry q => ho pins s2 σ H2 x y v u Q I2 rx ry q) hm
def tTest (t : TE) : TT := fun σ H Q => t σ H fun x H' => ∃ k, x = .bl k ∧ Q k H'
theorem pt_cmpR {op : CmpOp} {r : R2} (ho : OpR X (compareOp op) r) (ha : PE X a ta) (hb : PE X b tb) (hm : behindInMarks op b = false) : PT X (.Compare a [op] [b] pos) (tTest (tOp r ta tb)) := by
  intro pins s σ H Q I h
  refine wpAny_isTrue_Compare1 (thn (ha pins s σ H _ I h) fun v s1 ⟨x, H1, I1, r1, q1⟩ => thn (hb pins s1 σ H1 _ I1 q1) fun u s2 ⟨y, H2, I2, r2, q2⟩ =>
    thn (ho pins s2 σ H2 x y v u _ I2 r1 r2 q2) fun c s3 ⟨z, H3, I3, r3, k, e, q3⟩ => ?_) hm
  subst e
  cases r3
  exact wpAny_truthy_bool ⟨H3, I3, q3⟩
theorem line63 : (sizeLine : Nat) < 2 ^ 63 := by rw [sizeLine_eq]; decide
theorem op_add_str : OpR X (binaryOp .Add) (fun x y H Q => ∃ i j, x = .str i ∧ y = .str j ∧ i.length + j.length ≤ sizeLine ∧ Q (.str (i ++ j)) H) := by
  intro pins s σ H x y v u Q I rx ry h
  obtain ⟨i, j, rfl, rfl, hz, q⟩ := h
  obtain ⟨t, rfl⟩ := rx
  obtain ⟨t', rfl⟩ := ry
  exact add_str (fun t' tk => ⟨.str (i ++ j), H, I.tok _, ⟨_, rfl⟩, q⟩) hz
theorem vals1 {x : V} {us : List Value} (r : Vals [x] us) : ∃ u, us = [u] ∧ RelV x u := by
  cases r with
  | cons r1 r2 => cases r2; exact ⟨_, rfl, r1⟩
theorem vals2 {x y : V} {us : List Value} (r : Vals [x, y] us) : ∃ u w', us = [u, w'] ∧ RelV x u ∧ RelV y w' := by
  cases r with
  | cons r1 r2 =>
    cases r2 with
    | cons r3 r4 => cases r4; exact ⟨_, _, rfl, r1, r3⟩
theorem call_max2 (hc : X.calm = true) : CallR X (.builtin "max") (fun xs H Q => ∃ i j, xs = [.int i, .int j] ∧ Q (.int (if j > i then j else i)) H) := by
  intro pins s σ H xs us Q I r h
  obtain ⟨i, j, rfl, q⟩ := h
  obtain ⟨u, w', rfl, ⟨t, rfl⟩, ⟨t', rfl⟩⟩ := vals2 r
  refine max_two_ints (I.ok.hd hc) fun h' tk k => ⟨_, H, I.kept k, ?_, q⟩
  by_cases hj : j > i
  · rw [if_pos hj, if_pos hj]; exact ⟨_, rfl⟩
  · rw [if_neg hj, if_neg hj]; exact ⟨_, rfl⟩
theorem call_min2 (hc : X.calm = true) : CallR X (.builtin "min") (fun xs H Q => ∃ i j, xs = [.int i, .int j] ∧ Q (.int (if j < i then j else i)) H) := by
  intro pins s σ H xs us Q I r h
  obtain ⟨i, j, rfl, q⟩ := h
  obtain ⟨u, w', rfl, ⟨t, rfl⟩, ⟨t', rfl⟩⟩ := vals2 r
  refine min_two_ints (I.ok.hd hc) fun h' tk k => ⟨_, H, I.kept k, ?_, q⟩
  by_cases hj : j < i
  · rw [if_pos hj, if_pos hj]; exact ⟨_, rfl⟩
  · rw [if_neg hj, if_neg hj]; exact ⟨_, rfl⟩
theorem call_int1 : CallR X (.type "int") (fun xs H Q => (∃ i, xs = [.int i] ∧ Q (.int i) H) ∨ ∃ k, xs = [.bl k] ∧ Q (.int (if k then 1 else 0)) H) := by
  intro pins s σ H xs us Q I r h
  rcases h with ⟨i, rfl, q⟩ | ⟨k, rfl, q⟩
  · obtain ⟨u, rfl, t, rfl⟩ := vals1 r
    exact call_int_int ⟨.int i, H, I, ⟨_, rfl⟩, q⟩
  · obtain ⟨u, rfl, r1⟩ := vals1 r
    cases r1
    exact call_int_bool ⟨.int (if k then 1 else 0), H, I.tok _, ⟨_, rfl⟩, q⟩
end
end L2
namespace L2
open PySem PySem.Spec PyProof.Rows
structure ObjM (h : Heap) (x dx C : Addr) (mA : Str → Option Value) : Prop where
  obj : h.get? x = some (W.instObj C dx)
  ns : h.Ns1 dx mA
  ne : dx ≠ x
theorem lookIn_ns {h : Heap} {dx : Addr} {mA : Str → Option Value} (n : h.Ns1 dx mA) : ∃ od, h.get? dx = some od ∧ ∀ name, W.lookIn name od = some (mA name) := by
  obtain ⟨o, es, ep, ho, hd, hk, _, hm⟩ := n
  refine ⟨o, ho, fun name => ?_⟩
  have e := hm name
  unfold nsFind findBy at e
  rw [← Array.find?_toList] at e
  unfold W.lookIn
  rw [hd]
  dsimp only
  split
  · rename_i y q
    rw [q] at e
    exact congrArg some e
  · rename_i q
    rw [q] at e
    have a : es.toList.any (·.refKey) = false := by
      rw [List.any_eq_false]
      intro y hy
      obtain ⟨z, t, hkey⟩ := hk y (Array.mem_toList_iff.mp hy)
      simp [DictEntry.refKey, hkey]
    have a' : ¬ es.toList.any (·.refKey) = true := by rw [a]; exact Bool.false_ne_true
    rw [if_neg a']
    exact congrArg some e
theorem ObjM.look {h : Heap} {x dx C : Addr} {mA : Str → Option Value} (I : ObjM h x dx C mA) : ∃ od, W.InstAt h x (W.instObj C dx) C (some od) ∧ ∀ name, W.lookIn name od = some (mA name) :=
  let ⟨od, ho, hl⟩ := lookIn_ns I.ns
  ⟨od, ⟨I.obj, rfl, rfl, ho⟩, hl⟩
section
variable {prog : Program} {w : World} {A : Around} {E : Value → Shared → Prop} {s : Shared} {K : W.Frag} {x dx C f : Addr} {mA : Str → Option Value} {name : Str} {v : Value}
theorem get_map {expr : Bool} {Q : Value → Shared → Prop} (X : K.In s.heap) (I : ObjM s.heap x dx C mA) (hg : W.plainGet K C name = true) (hh : W.hasDictIn K C = true)
    (ha : W.findIn K (.ref C) name = some none) (hv : mA name = some v) (hv' : W.handedIn v = true) (h : Q v { s with toks := s.toks + 1 }) :
    wpAny (model prog w) A (getAttr (.ref x) name expr) Q E s := by
  obtain ⟨od, J, hl⟩ := I.look
  exact W.get_value X J (W.plainGet_of hg).1 (W.findObj_own hh ha rfl (by rw [hl, hv])) hv' h
theorem get_meth {pl : Sem Bool} {Q : Value × List Value → Shared → Prop} (X : K.In s.heap) (I : ObjM s.heap x dx C mA) (hg : W.plainGet K C name = true)
    (hf : W.findIn K (.ref C) name = some (some (.ref f))) (ht : W.isFn K (.ref f) = true) (hv : mA name = none) (h : Q (.ref f, [.ref x]) s) :
    wpAny (model prog w) A (getMethod (.ref x) name pl) Q E s := by
  obtain ⟨od, J, hl⟩ := I.look
  exact W.method_fn X J (W.plainGet_of hg).1 (W.plainGet_of hg).2 hf (beq_iff_eq.mp ht) (by show (W.lookIn name od).map (·.isSome) = some false; rw [hl, hv]; rfl) h
theorem set_map {ns : List Str} {Q : Unit → Shared → Prop} (X : K.In s.heap) (I : ObjM s.heap x dx C mA)
    (hs : W.findIn K (.ref C) "__setattr__" = some (some (.builtin "object.__setattr__"))) (hp : W.plainOver K C = true) (ht : W.takerIn K C name = some none) (hh : W.hasDictIn K C = true)
    (hw : PySem.Within mA ns) (hsz : ns.length ≤ sizeLine)
    (h : ∀ h', ObjM h' x dx C (fun y => if y = name then some v else mA y) → Heap.SameBut dx s.heap h' → Q () { s with heap := h', toks := s.toks + 2 }) :
    wpAny (model prog w) A (setAttr (.ref x) name v) Q E s := by
  obtain ⟨od, J, hl⟩ := I.look
  refine W.set_plain X J hs (W.osa_open (s := { s with toks := s.toks + 1 }) (r := none) X J hp ht fun b => ?_)
  obtain ⟨cd, hc, hd'⟩ := W.any_some hh
  have hx : s.heap.get? x = some ⟨.ref C, some dx, .plain, #[]⟩ := I.obj
  refine wpAny_bind (wpAny_pure (wpAny_bind (wpAny_bind (wpAny_loadPart hx (wpAny_bind (W.Looks.here (s := { s with toks := s.toks + 1 }) (W.looks_clsIn X hc) ?_))))))
  rw [hd']
  refine wpAny_pure (a := some dx) (wpAny_bind (wpAny_pure (wpAny_bind ?_)))
  refine wpAny_nsSet1 (s := { s with toks := s.toks + 1 }) I.ns fun h' hn2 hs2 => ?_
  obtain ⟨oD, esD, epD, hoD, hdD, hcD⟩ := hn2.count (PySem.Within.cons name v hw)
  refine wpAny_bind (wpAny_lookBehind hoD (by rw [hdD]; exact pastItsLine_dict (Nat.le_trans hcD (by rw [List.length_cons]; omega))) ?_)
  exact wpAny_pure (h _ ⟨(hs2.2 _ (Ne.symm I.ne)).trans I.obj, hn2, I.ne⟩ hs2)
theorem make_map {R : Result → Shared → Prop} {vs : List Value} {kw : List (Str × Value)} (X : K.In s.heap) (hm : W.makesIn K C = true)
    (hi : W.findIn K (.ref C) "__init__" = some (some (.ref f))) (hf : W.typeIn K (.ref f) = some (.type "function"))
    (h : codeAny (model prog w) (A.under (.builtin "type.__call__" ⟨.ref C :: vs, kw⟩)) (.call (.ref f) ⟨.ref (s.heap.objs.size + 1) :: vs, kw⟩) (W.InitBack (s.heap.objs.size + 1) R)
      { s with heap := (s.heap.push W.emptyDict).push (W.instObj C s.heap.objs.size) }) :
    codeAny (model prog w) A (.call (.ref C) ⟨vs, kw⟩) R s := by
  obtain ⟨hh, g, d, t, os⟩ := s
  exact W.make_core (W.makes_of X hm) (W.looks_findIn X hi) (fun self => W.bind_fn X self hf) (.inl rfl) h
end
def putF (f : Str) (v : V) : List (Str × V) → List (Str × V)
  | [] => [(f, v)]
  | (g, x) :: r => if g = f then (g, v) :: r else (g, x) :: putF f v r
theorem lookup_putF (f g : Str) (v : V) : ∀ fs : List (Str × V), (putF f v fs).lookup g = if g = f then some v else fs.lookup g
  | [] => by
    show List.lookup g [(f, v)] = _
    by_cases h : g = f
    · have hb : (g == f) = true := beq_iff_eq.mpr h
      simp only [List.lookup, hb, if_pos h]
    · have hb : (g == f) = false := beq_eq_false_iff_ne.mpr h
      simp only [List.lookup, hb, if_neg h]
  | (k, x) :: r => by
    have ih := lookup_putF f g v r
    rw [show putF f v ((k, x) :: r) = (if k = f then (k, v) :: r else (k, x) :: putF f v r) from rfl]
    by_cases hk : k = f
    · rw [if_pos hk]
      by_cases h : g = k
      · have hb : (g == k) = true := beq_iff_eq.mpr h
        simp only [List.lookup, hb, if_pos (h.trans hk)]
      · have hb : (g == k) = false := beq_eq_false_iff_ne.mpr h
        simp only [List.lookup, hb, if_neg (fun e : g = f => h (e.trans hk.symm))]
    · rw [if_neg hk]
      by_cases h : g = k
      · have hb : (g == k) = true := beq_iff_eq.mpr h
        simp only [List.lookup, hb, if_neg (fun e : g = f => hk (h.symm.trans e))]
      · have hb : (g == k) = false := beq_eq_false_iff_ne.mpr h
        simp only [List.lookup, hb]
        exact ih
theorem keys_putF (f : Str) (v : V) : ∀ fs : List (Str × V), f ∈ (putF f v fs).map (·.1) ∧ ∀ g, g ∈ fs.map (·.1) → g ∈ (putF f v fs).map (·.1)
  | [] => ⟨by simp [putF], fun g h => by simp at h⟩
  | (k, x) :: r => by
    obtain ⟨i1, i2⟩ := keys_putF f v r
    rw [show putF f v ((k, x) :: r) = (if k = f then (k, v) :: r else (k, x) :: putF f v r) from rfl]
    by_cases hk : k = f
    · rw [if_pos hk]
      subst hk
      exact ⟨by simp, fun g h => by simpa using h⟩
    · rw [if_neg hk]
      refine ⟨?_, fun g h => ?_⟩
      · rw [List.map_cons]
        exact List.mem_cons_of_mem _ i1
      · rw [List.map_cons] at h ⊢
        rcases List.mem_cons.mp h with e | e
        · exact List.mem_cons.mpr (.inl e)
        · exact List.mem_cons_of_mem _ (i2 g e)
theorem length_putF (f : Str) (v : V) : ∀ fs : List (Str × V), (putF f v fs).length ≤ fs.length + 1
  | [] => by simp [putF]
  | (k, x) :: r => by
    have ih := length_putF f v r
    rw [show putF f v ((k, x) :: r) = (if k = f then (k, v) :: r else (k, x) :: putF f v r) from rfl]
    by_cases hk : k = f
    · rw [if_pos hk, List.length_cons, List.length_cons]; omega
    · rw [if_neg hk, List.length_cons, List.length_cons]; omega
theorem RelO.some_of {v : V} {o : Option Value} (r : RelO (some v) o) : ∃ u, o = some u ∧ RelV v u := by
  cases o with
  | none => exact (show False from r).elim
  | some u => exact ⟨u, rfl, r⟩
theorem RelO.none_of {o : Option Value} (r : RelO none o) : o = none := by
  cases o with
  | none => rfl
  | some u => exact (show False from r).elim
theorem handed_of {v : V} {u : Value} (r : RelV v u) : W.handedIn u = true := by
  cases v with
  | non => cases (show u = Value.none from r); rfl
  | bl b => cases (show u = Value.bool b from r); rfl
  | int i => obtain ⟨t, e⟩ := (show ∃ t, u = Value.int i t from r); cases e; rfl
  | str x => obtain ⟨t, e⟩ := (show ∃ t, u = Value.str x t from r); cases e; rfl
  | byt b => obtain ⟨t, e⟩ := (show ∃ t, u = Value.bytes b t from r); cases e; rfl
  | flt b => obtain ⟨t, e⟩ := (show ∃ t, u = Value.float b t from r); cases e; rfl
  | ref a => cases (show u = Value.ref a from r); rfl
  | ty n => cases (show u = Value.type n from r); rfl
section
variable {P : Program} {w : World} {H H' : Hp} {h h' : Heap} {a C dx : Addr} {fs fs' : List (Str × V)}
theorem ins_get (hok : HOk P w H h) (e : H a = some (.ins C dx fs)) : ∃ mA, ObjM h a dx C mA ∧ (∀ f, RelO (fs.lookup f) (mA f)) ∧ PySem.Within mA (fs.map (·.1)) ∧ fs.length ≤ 1000 ∧ H dx = some (.own a) := by
  obtain ⟨d, z, ne, ob, mA, n, r, q⟩ := (show ObjOk P w H h a (.ins C dx fs) from hok a _ e)
  exact ⟨mA, ⟨ob, n, ne⟩, r, q, z, d⟩
end
structure Cls (K : W.Frag) (C : Addr) : Prop where
  pg : W.plainGet K C Str.empty = true
  hd : W.hasDictIn K C = true
  po : W.plainOver K C = true
  sa : W.findIn K (.ref C) "__setattr__" = some (some (.builtin "object.__setattr__"))
theorem Cls.get {K : W.Frag} {C : Addr} (c : Cls K C) (f : Str) : W.plainGet K C f = true := c.pg
def NoAttr (K : W.Frag) (C : Addr) (f : Str) : Prop := W.findIn K (.ref C) f = some none
theorem NoAttr.taker {K : W.Frag} {C : Addr} {f : Str} (n : NoAttr K C f) : W.takerIn K C f = some none := by
  unfold W.takerIn
  rw [show W.findIn K (.ref C) f = some none from n]
  rfl
structure Meth (K : W.Frag) (C : Addr) (m : Str) (f : Addr) : Prop where
  at_ : W.findIn K (.ref C) m = some (some (.ref f))
  fn : W.isFn K (.ref f) = true
  kp : W.keepIn K (.ref f) = true
section
variable {X : Cx} {pins : List (Addr × Obj)} {σ : St} {H : Hp} {s : Shared} {a C dx : Addr} {fs : List (Str × V)} {f : Str} {v : V} {A : Around} {E : Value → Shared → Prop}
theorem getattr_ok {b : Bool} {Q : Value → Shared → Prop} (I : Inv X pins σ H s) (e : H a = some (.ins C dx fs)) (c : Cls X.K C) (n : NoAttr X.K C f) (l : fs.lookup f = some v)
    (h : ∀ u s', Inv X pins σ H s' → RelV v u → Q u s') : wpAny (model X.prog X.w) A (getAttr (.ref a) f b) Q E s := by
  obtain ⟨mA, O, r, _, _, _⟩ := ins_get I.hok e
  obtain ⟨u, hu, ru⟩ := RelO.some_of (v := v) (o := mA f) (by rw [← l]; exact r f)
  exact get_map I.kIn O (c.get f) c.hd n hu (handed_of ru) (h u _ (I.tok _) ru)
theorem getmeth_ok {m : Str} {g : Addr} {pl : Sem Bool} {Q : Value × List Value → Shared → Prop} (I : Inv X pins σ H s) (e : H a = some (.ins C dx fs)) (c : Cls X.K C) (k : Meth X.K C m g) (l : fs.lookup m = none)
    (h : Q (.ref g, [.ref a]) s) : wpAny (model X.prog X.w) A (getMethod (.ref a) m pl) Q E s := by
  obtain ⟨mA, O, r, _, _, _⟩ := ins_get I.hok e
  have hn : mA m = none := RelO.none_of (by rw [← l]; exact r m)
  exact get_meth I.kIn O (c.get m) k.at_ k.fn hn h
theorem setattr_ok {y : V} {u : Value} {Q : Unit → Shared → Prop} (I : Inv X pins σ H s) (e : H a = some (.ins C dx fs)) (c : Cls X.K C) (n : NoAttr X.K C f) (hl : fs.length < 1000) (ry : RelV y u)
    (h : ∀ s', Inv X pins σ (upd H a (.ins C dx (putF f y fs))) s' → Q () s') : wpAny (model X.prog X.w) A (setAttr (.ref a) f u) Q E s := by
  obtain ⟨mA, O, r, wi, _, ho⟩ := ins_get I.hok e
  have hz : (fs.map (·.1)).length ≤ sizeLine := by rw [List.length_map, sizeLine_eq]; omega
  refine set_map I.kIn O c.sa c.po n.taker c.hd wi hz fun h' O' sb => h _ ?_
  have hd : ∃ o, h'.get? dx = some o := let ⟨o, _, _, e', _⟩ := O'.ns; ⟨o, e'⟩
  refine I.write (x := a) (e := dx) (by rw [e]; exact True.intro) (.inr ho) (fun b q hb z => (sb.2 b hb).trans z) hd ?_
  refine ⟨by rw [upd_ne O.ne]; exact ho, ?_, O.ne, O'.obj, _, O'.ns, fun g => ?_, fun g hg => ?_⟩
  · have := length_putF f y fs; omega
  · show RelO ((putF f y fs).lookup g) (if g = f then some u else mA g)
    rw [lookup_putF]
    by_cases q : g = f
    · rw [if_pos q, if_pos q]; exact ry
    · rw [if_neg q, if_neg q]; exact r g
  · by_cases q : g = f
    · rw [q]; exact (keys_putF f y fs).1
    · refine (keys_putF f y fs).2 g (wi g fun z => hg ?_)
      show (if g = f then some u else mA g) = none
      rw [if_neg q]; exact z
theorem Inv.made (I : Inv X pins σ H s) : Inv X pins σ (upd (upd H s.heap.objs.size (.own (s.heap.objs.size + 1))) (s.heap.objs.size + 1) (.ins C s.heap.objs.size []))
    { s with heap := (s.heap.push W.emptyDict).push (W.instObj C s.heap.objs.size) } := by
  have e1 : (s.heap.push W.emptyDict).get? s.heap.objs.size = some W.emptyDict := Heap.get?_push_size s.heap rfl
  have e2 : ((s.heap.push W.emptyDict).push (W.instObj C s.heap.objs.size)).get? (s.heap.objs.size + 1) = some (W.instObj C s.heap.objs.size) := by
    have := Heap.get?_push_size (s.heap.push W.emptyDict) (o := W.instObj C s.heap.objs.size) rfl
    rwa [Heap.size_push] at this
  have e3 : (s.heap.push W.emptyDict).Ns s.heap.objs.size (fun _ => none) := ⟨W.emptyDict, #[], _, e1, rfl, (fun e he => absurd he (by simp)), fun _ => rfl⟩
  have I1 := I.laid (a := s.heap.objs.size) (o := .own (s.heap.objs.size + 1)) (h' := s.heap.push W.emptyDict) (t' := s.toks) (fun b u q => Heap.get?_push_of_some _ q) (Nat.le_refl _) ⟨_, e1⟩
  refine I1.laid (a := s.heap.objs.size + 1) (o := .ins C s.heap.objs.size []) (t' := s.toks) (fun b u q => Heap.get?_push_of_some _ q) (Nat.le_of_eq (Heap.size_push _ _)) ?_
  have ne : s.heap.objs.size ≠ s.heap.objs.size + 1 := Nat.ne_of_lt (Nat.lt_succ_self _)
  refine ⟨by rw [upd_ne ne, upd_same], Nat.zero_le _, ne, e2, fun _ => none, (Heap.Ns1.of_empty e3).at fun o q => Heap.get?_push_of_some _ q, fun _ => True.intro, fun y hy => absurd rfl hy⟩
theorem attr_of {prog : Program} {w : World} {env : Env} {e : Expr} {f : Str} {pos : Pos} {s : Shared} {Q : Value → Shared → Prop} (hb : attributeBase e f env (eval e env) = eval e env)
    (h : wpAny (model prog w) A (eval e env) (fun o s₁ => wpAny (model prog w) A (getAttr o f true) Q E s₁) E s) : wpAny (model prog w) A (eval (.Attribute e f pos) env) Q E s :=
  Attribute_any_ h (by rw [arm_eval_Attribute, hb])
end
def tFld (K : W.Frag) (ta : TE) (f : Str) : TE := fun σ H Q => ta σ H fun x H1 => ∃ a C dx fs v, x = .ref a ∧ H1 a = some (.ins C dx fs) ∧ Cls K C ∧ NoAttr K C f ∧ fs.lookup f = some v ∧ Q v H1
def sFld (K : W.Frag) (ta tv : TE) (f : Str) : TS := fun D σ H => tv σ H fun y H1 => ta σ H1 fun x H2 => ∃ a C dx fs, x = .ref a ∧ H2 a = some (.ins C dx fs) ∧ Cls K C ∧ NoAttr K C f ∧ fs.length < 1000 ∧
  D.nx σ (upd H2 a (.ins C dx (putF f y fs)))
section
variable {X : Cx} {o e value : Expr} {f : Str} {pos pos' tpos : Pos} {ta tv : TE}
theorem pe_fld (he : PE X e ta) (hb : attributeBase e f X.env (eval e X.env) = eval e X.env) : PE X (.Attribute e f pos) (tFld X.K ta f) := by
  intro pins s σ H Q I h
  refine attr_of hb (thn (he pins s σ H _ I h) fun u s1 ⟨x, H1, I1, rx, a, C, dx, fs, v, ex, ea, c, n, l, q⟩ => ?_)
  subst ex
  obtain rfl : u = Value.ref a := rx
  exact getattr_ok I1 ea c n l fun u' s2 I2 ru => ⟨v, H1, I2, ru, q⟩
theorem ps_fld (ha : PE X o ta) (hv : PE X value tv) (hs : swapsWith value (some (.Attribute o f pos')) pos.line X.env = pure false) : PS X (.Assign [.Attribute o f pos'] value pos) (sFld X.K ta tv f) := by
  intro pins s σ H D I h
  refine plainObj_wpAny_Assign_Attribute (thn (hv pins s σ H _ I h) fun u s1 ⟨y, H1, I1, ry, q⟩ => thn (ha pins s1 σ H1 _ I1 q) fun ov s2 ⟨x, H2, I2, rx, a, C, dx, fs, ex, ea, c, n, l, q2⟩ => ?_) hs
  subst ex
  obtain rfl : ov = Value.ref a := rx
  exact setattr_ok I2 ea c n l ry fun s3 I3 => ⟨σ, _, I3, q2⟩
end
section
variable {X : Cx} {pins : List (Addr × Obj)} {σ : St} {H : Hp} {s : Shared} {A : Around} {E : Value → Shared → Prop} {Q : Value → Shared → Prop} {c : Value} {b : Bool}
inductive TyOf (K : W.Frag) (H : Hp) : V → Value → Prop where
  | non : TyOf K H .non (.type "NoneType")
  | bl (x : Bool) : TyOf K H (.bl x) (.type "bool")
  | int (i : Int) : TyOf K H (.int i) (.type "int")
  | str (x : Str) : TyOf K H (.str x) (.type "str")
  | flt (x : UInt64) : TyOf K H (.flt x) (.type "float")
  | lst {a : Addr} {xs : List V} (e : H a = some (.lst xs)) : TyOf K H (.ref a) (.type "list")
  | frz {a : Addr} {o : Obj} {xs : List V} (e : H a = some (.frz o (.lst xs))) : TyOf K H (.ref a) (.type "list")
  | tup {a : Addr} {xs : List V} (e : H a = some (.tup xs)) : TyOf K H (.ref a) (.type "tuple")
  | dK {a : Addr} {kvs : List (Key × V)} (e : H a = some (.dK kvs)) : TyOf K H (.ref a) (.type "dict")
  | dT {a : Addr} {kvs : List (List Key × V)} (e : H a = some (.dT kvs)) : TyOf K H (.ref a) (.type "dict")
  | ins {a C dx : Addr} {fs : List (Str × V)} (e : H a = some (.ins C dx fs)) (cl : Cls K C) (ha : W.findIn K (.ref C) "__class__" = some (some (.builtin "object.__class__")))
      (hn : W.specialIn K (.builtin "object.__class__") "__get__" = some (some (.builtin "getset_descriptor.__get__"))) (htk : W.takesIn K (.builtin "object.__class__") = some true)
      (hm : W.mroIn K C (.type "object") = some true) : TyOf K H (.ref a) (.ref C)
theorem isinst_ok {x : V} {u t : Value} (I : Inv X pins σ H s) (rx : RelV x u) (ty : TyOf X.K H x t) (e : W.kitOne X.K t c = some b) (h : ∀ tk, Q (.bool b) { s with toks := tk }) :
    wpAny (model X.prog X.w) A (call (.builtin "isinstance") [u, c]) Q E s := by
  cases ty with
  | non => cases (show u = Value.none from rx); exact W.kia_one W.kitx_none I.kIn True.intro e (fun z => nomatch z) h
  | bl y => cases (show u = Value.bool y from rx); exact W.kia_one W.kitx_bool I.kIn True.intro e (fun z => nomatch z) h
  | int i => obtain ⟨t, q⟩ := (show ∃ t, u = Value.int i t from rx); cases q; exact W.kia_one W.kitx_int I.kIn True.intro e (fun z => nomatch z) h
  | str y => obtain ⟨t, q⟩ := (show ∃ t, u = Value.str y t from rx); cases q; exact W.kia_one W.kitx_str I.kIn True.intro e (fun z => nomatch z) h
  | flt y => obtain ⟨t, q⟩ := (show ∃ t, u = Value.float y t from rx); cases q; exact W.kia_one W.kitx_float I.kIn True.intro e (fun z => nomatch z) h
  | @lst a xs ea =>
    cases (show u = Value.ref a from rx)
    obtain ⟨_, _, n, _, h1⟩ := (show ObjOk X.prog X.w H s.heap a (.lst xs) from I.hok a _ ea)
    exact W.kia_one W.kitx_list I.kIn ⟨_, h1, rfl⟩ e (fun z => nomatch z) h
  | @frz a ob xs ea =>
    cases (show u = Value.ref a from rx)
    obtain ⟨_, _, _, n, _, h1⟩ := (show ObjOk X.prog X.w H s.heap a (.frz ob (.lst xs)) from I.hok a _ ea)
    exact W.kia_one W.kitx_list I.kIn ⟨_, h1, rfl⟩ e (fun z => nomatch z) h
  | @tup a xs ea =>
    cases (show u = Value.ref a from rx)
    obtain ⟨_, _, _, p⟩ := (show ObjOk X.prog X.w H s.heap a (.tup xs) from I.hok a _ ea)
    obtain ⟨o, h1, h2, _⟩ := p
    exact W.kia_one W.kitx_tuple I.kIn ⟨o, h1, h2⟩ e (fun z => nomatch z) h
  | @dK a kvs ea =>
    cases (show u = Value.ref a from rx)
    obtain ⟨_, _, vs, _, p⟩ := (show ObjOk X.prog X.w H s.heap a (.dK kvs) from I.hok a _ ea)
    obtain ⟨o, es, ep, h1, h2, _⟩ := p
    exact W.kia_one W.kitx_dict I.kIn ⟨o, h1, h2.1⟩ e (fun z => nomatch z) h
  | @dT a kvs ea =>
    cases (show u = Value.ref a from rx)
    obtain ⟨_, _, xs, _, o, es, ep, h1, h2, _⟩ := (show ObjOk X.prog X.w H s.heap a (.dT kvs) from I.hok a _ ea)
    exact W.kia_one W.kitx_dict I.kIn ⟨o, h1, h2.1⟩ e (fun z => nomatch z) h
  | @ins a C dx fs ea cl ha hn htk hm =>
    cases (show u = Value.ref a from rx)
    obtain ⟨mA, O, _⟩ := ins_get I.hok ea
    obtain ⟨od, J, _⟩ := O.look
    exact W.kia_one (W.kitx_own (cl.get _) cl.hd ha hn htk hm) I.kIn J e (fun z => nomatch z) h
end
end L2
namespace L2
open PySem PySem.Spec PyProof.Rows
structure Room (k : Nat) (A : Around) : Prop where
  hd : A.handled = none
  dp : A.depth + 3 * k + 5 < recursionLimit
  un : A.units + 16 * k + 200 < cLine
  gd : A.guards = some []
theorem Room.mono {j k : Nat} {A : Around} (r : Room k A) (h : j ≤ k) : Room j A := ⟨r.hd, by have := r.dp; omega, by have := r.un; omega, r.gd⟩
theorem Room.deeper {k : Nat} {A : Around} (r : Room (k + 1) A) (env : Env) : Room k (A.deeper env) :=
  ⟨r.hd, by have := r.dp; show A.depth + 1 + 3 * k + 5 < _; omega, by have := r.un; show A.units + 3 + 16 * k + 200 < _; omega, r.gd⟩
theorem Room.in1 {k : Nat} {A : Around} (r : Room (k + 1) A) : Room k A.in1 :=
  ⟨r.hd, by have := r.dp; show A.depth + 3 * k + 5 < _; omega, by have := r.un; show A.units + 1 + 16 * k + 200 < _; omega, r.gd⟩
theorem make_depth {A : Around} {C : Addr} {us : List Value} {kw : List (Str × Value)} : (A.under (.builtin "type.__call__" ⟨.ref C :: us, kw⟩)).depth = A.depth + 1 := by
  first | rfl | simp [Around.under, Code.weight, Code.isCreation, Code.isGuard, Code.isCaller, Code.frames, Code.isFrame, guardIds]
theorem make_units {A : Around} {C : Addr} {us : List Value} {kw : List (Str × Value)} : (A.under (.builtin "type.__call__" ⟨.ref C :: us, kw⟩)).units = A.units + 1 := by
  first | rfl | simp [Around.under, Code.cUnits, Code.frames, Code.isFrame]
theorem Room.make {k : Nat} {A : Around} (r : Room (k + 1) A) (C : Addr) (us : List Value) (kw : List (Str × Value)) : Room k (A.under (.builtin "type.__call__" ⟨.ref C :: us, kw⟩)) :=
  ⟨r.hd, by have := r.dp; rw [make_depth]; omega, by have := r.un; rw [make_units]; omega, by first | exact r.gd | (have := r.gd; simpa [Around.under, Code.isGuard, guardIds] using this)⟩
theorem Room.depth {k : Nat} {A : Around} (r : Room k A) : A.depth < recursionLimit := by have := r.dp; omega
theorem Room.units {k : Nat} {A : Around} (r : Room k A) : A.units + 64 < cLine := by have := r.un; omega
def tNil : TA := fun _ H Q => Q [] H
def tCons (ta : TE) (tr : TA) : TA := fun σ H Q => ta σ H fun x H1 => tr σ H1 fun xs H2 => Q (x :: xs) H2
section
variable {X : Cx} {e : Expr} {es : List Expr} {te : TE} {t : TA} {pos : Pos}
theorem pa_nil : PA X [] tNil := fun _ _ _ _ H Q I h => Calls.spliced_nil ⟨[], H, I, .nil, h⟩
theorem pa_cons (ha : PE X e te) (hr : PA X es t) (hs : starEach (e :: es) X.env = (false, eval e X.env) :: starEach es X.env := by rfl) : PA X (e :: es) (tCons te t) := by
  intro pos pins s σ H Q I h
  rw [hs]
  show wpAny _ _ (spliced ((false, eval e X.env) :: backTo pos (starEach es X.env))) _ _ s
  refine Calls.spliced_cons (thn (ha pins s σ H _ I h) fun u s1 ⟨x, H1, I1, r1, q1⟩ => ?_)
  exact thn (hr pos pins s1 σ H1 _ I1 q1) fun us s2 ⟨xs, H2, I2, r2, q2⟩ => ⟨x :: xs, H2, I2, .cons r1 r2, q2⟩
def tTup (t : TA) : TE := fun σ H Q => t σ H fun xs H1 => xs.length ≤ sizeLine ∧ ∀ p, H1 p = none → Q (.ref p) (upd H1 p (.tup xs))
def tLst (t : TA) : TE := fun σ H Q => t σ H fun xs H1 => xs.length ≤ sizeLine ∧ ∀ p, H1 p = none → Q (.ref p) (upd H1 p (.lst xs))
theorem pe_tup {x1} (h : PA X es t) : PE X (.Tuple es x1 pos) (tTup t) := by
  intro pins s σ H Q I hq
  refine wpAny_Tuple_spliced (thn (h pos pins s σ H _ I hq) fun us s1 ⟨xs, H1, I1, r, z, q⟩ => ⟨by rw [← r.length]; exact z, ?_⟩)
  have hf : H1 s1.heap.objs.size = none := I1.hok.fresh (Nat.le_refl _)
  refine ⟨.ref s1.heap.objs.size, upd H1 s1.heap.objs.size (.tup xs), I1.laid (t' := s1.toks) (fun b u e => Heap.get?_push_of_some _ e) (Nat.le_refl _) ?_, rfl, q _ hf⟩
  exact ⟨z, us, r, ⟨_, Heap.get?_push_size _ rfl, rfl, _, rfl⟩⟩
theorem pe_lst (h : PA X es t) : PE X (.List es pos) (tLst t) := by
  intro pins s σ H Q I hq
  refine wpAny_List_spliced (thn (h pos pins s σ H _ I hq) fun us s1 ⟨xs, H1, I1, r, z, q⟩ => ⟨by rw [← r.length]; exact z, ?_⟩)
  have hf : H1 s1.heap.objs.size = none := I1.hok.fresh (Nat.le_refl _)
  refine ⟨.ref s1.heap.objs.size, upd H1 s1.heap.objs.size (.lst xs), I1.laid (t' := s1.toks) (fun b u e => Heap.get?_push_of_some _ e) (Nat.le_refl _) ?_, rfl, q _ hf⟩
  exact ⟨z, us, 0, r, Heap.get?_push_size _ rfl⟩
end
abbrev Sp := List V → Hp → VK → XK → Prop
abbrev CXT := List Env → Hp → Shared → XK → Value → Shared → Prop
structure Env0 (P : Program) (w : World) (K : W.Frag) (mg : Str → Option Value) (base : Heap) (A : Around) (outer : List Env) (s : Shared) (H : Hp) : Prop where
  frames : A.frames = some outer
  mod : Mod K mg base
  bs : ∀ b o, base.get? b = some o → s.heap.get? b = some o ∧ H b = none
  bsz : base.objs.size ≤ s.heap.objs.size
  funs : s.heap.FunFrames base outer
  frf : ∀ b ∈ frs outer, H b = none
  hok : HOk P w H s.heap
  bare : AllBare s.gens
def CE (outer : List Env) (P : Program) (w : World) (H : Hp) (s : Shared) (Q : VK) (u : Value) (s' : Shared) : Prop :=
  ∃ v H', s'.os = s.os ∧ AllBare s'.gens ∧ Un (frs outer) [] H H' s.heap s'.heap ∧ HOk P w H' s'.heap ∧ RelV v u ∧ Q v H'
def CR (CX : CXT) (outer : List Env) (P : Program) (w : World) (H : Hp) (s : Shared) (Q : VK) (E : XK) (r : Result) (s' : Shared) : Prop :=
  match r with
  | .ok (.ret u) => CE outer P w H s Q u s'
  | .ok _ => False
  | .error e => CX outer H s E e s'
structure FnOk (P : Program) (w : World) (K : W.Frag) (mg : Str → Option Value) (base : Heap) (CX : CXT) (k : Nat) (f : Addr) (fd : FuncData) (ps : List Str) (sp : Sp) : Prop where
  len : ∀ vs H Q E, sp vs H Q E → vs.length = ps.length
  run : ∀ (A : Around) (outer : List Env) (s : Shared) (H : Hp) (args : Args) (us : List Value) (vs : List V) (Q : VK) (E : XK), Room k A → Env0 P w K mg base A outer s H → BindsTo s fd args (ps.zip us) → Vals vs us → sp vs H Q E →
    codeAny (model P w) A (.call (.ref f) args) (CR CX outer P w H s Q E) s
theorem FnOk.imp {P : Program} {w : World} {K : W.Frag} {mg : Str → Option Value} {base : Heap} {CX : CXT} {k : Nat} {f : Addr} {fd : FuncData} {ps : List Str} {sp sp' : Sp} (F : FnOk P w K mg base CX k f fd ps sp)
    (h : ∀ vs H Q E, sp' vs H Q E → sp vs H Q E) : FnOk P w K mg base CX k f fd ps sp' :=
  ⟨fun vs H Q E q => F.len vs H Q E (h _ _ _ _ q), fun A outer s H args us vs Q E hr he hb hv hs => F.run A outer s H args us vs Q E hr he hb hv (h _ _ _ _ hs)⟩
theorem Env0.make {P : Program} {w : World} {K : W.Frag} {mg : Str → Option Value} {base : Heap} {A : Around} {outer : List Env} {s : Shared} {H : Hp} (e : Env0 P w K mg base A outer s H) (C : Addr) (us : List Value) (kw : List (Str × Value)) :
    Env0 P w K mg base (A.under (.builtin "type.__call__" ⟨.ref C :: us, kw⟩)) outer s H := ⟨by first | exact e.frames | (simpa [Around.under, Code.envs, Code.isFrame, pushEnvs] using e.frames), e.mod, e.bs, e.bsz, e.funs, e.frf, e.hok, e.bare⟩
theorem Env0.in1 {P : Program} {w : World} {K : W.Frag} {mg : Str → Option Value} {base : Heap} {A : Around} {outer : List Env} {s : Shared} {H : Hp} (e : Env0 P w K mg base A outer s H) :
    Env0 P w K mg base A.in1 outer s H := ⟨e.frames, e.mod, e.bs, e.bsz, e.funs, e.frf, e.hok, e.bare⟩
section
variable {X : Cx} {pins : List (Addr × Obj)} {σ : St} {H : Hp} {s s' : Shared}
theorem Inv.env0 (I : Inv X pins σ H s) : Env0 X.prog X.w X.K X.mg X.base X.A X.stack s H :=
  ⟨I.ok.frames, I.ok.mod, I.bs, Nat.le_trans I.ok.bsz I.sz, I.stack, I.stkFree, I.hok, I.bare⟩
theorem Inv.after {Q : VK} {u : Value} (I : Inv X pins σ H s) (h : CE X.stack X.prog X.w H s Q u s') : EP X pins σ Q u s' := by
  obtain ⟨v, H', os, bare, un, hok, r, q⟩ := h
  obtain ⟨hh, g, d, t, os'⟩ := s'
  obtain rfl : os' = s.os := os
  exact ⟨v, H', I.call (h' := hh) (g' := g) (d' := d) (t' := t) (ch := []) un hok bare (fun b z => absurd z (by simp)), r, q⟩
end
def tCall (sp : Sp) (dvs : List V) (E : XK) (t : TA) : TE := fun σ H Q => t σ H fun vs H1 => sp (vs ++ dvs) H1 Q E
def tMeth (C : Addr) (m : Str) (sp : Sp) (dvs : List V) (E : XK) (ta : TE) (t : TA) : TE := fun σ H Q => ta σ H fun x H1 => ∃ a dx fs, x = .ref a ∧ H1 a = some (.ins C dx fs) ∧ fs.lookup m = none ∧
  t σ H1 fun vs H2 => sp (x :: (vs ++ dvs)) H2 Q E
def tMake (C : Addr) (sp : Sp) (dvs : List V) (E : XK) (t : TA) : TE := fun σ H Q => t σ H fun vs H1 => ∀ x dx, H1 x = none → H1 dx = none → dx ≠ x →
  sp (.ref x :: (vs ++ dvs)) (upd (upd H1 dx (.own x)) x (.ins C dx [])) (fun v H2 => v = .non ∧ Q (.ref x) H2) E
def Binds (K : W.Frag) (fd : FuncData) (ps : List Str) (ds : List Value) : Prop :=
  ∀ (s : Shared) (us : List Value), K.In s.heap → (us ++ ds).length = ps.length → BindsTo s fd ⟨us, []⟩ (ps.zip (us ++ ds))
theorem Binds.all {K : W.Frag} {fd : FuncData} {ps : List Str} (h : ∀ us : List Value, us.length = ps.length → bindArgs fd ⟨us, []⟩ = pure (ps.zip us)) : Binds K fd ps [] := fun s us _ hl => by
  rw [List.append_nil] at hl ⊢
  exact .of_eq (h us hl)
def Passes (CX : CXT) (X : Cx) (E : XK) : Prop := ∀ (pins : List (Addr × Obj)) (σ : St) (H : Hp) (s : Shared) (e : Value) (s' : Shared), Inv X pins σ H s → CX X.stack H s E e s' → X.xe e s'
section
variable {X : Cx} {CX : CXT} {k : Nat} {f C : Addr} {fd : FuncData} {ps : List Str} {sp : Sp} {dvs : List V} {ds : List Value} {E : XK} {x m : Str} {p pos apos : Pos} {e o : Expr} {es : List Expr} {ta : TE} {t : TA}
theorem run_fn {pins : List (Addr × Obj)} {σ : St} {H : Hp} {s : Shared} {Q : VK} {us : List Value} {vs : List V} (F : FnOk X.prog X.w X.K X.mg X.base CX k f fd ps sp) (hr : Room k X.A) (hb : Binds X.K fd ps ds) (hd : Vals dvs ds) (hx : Passes CX X E)
    (I : Inv X pins σ H s) (r : Vals vs us) (h : sp (vs ++ dvs) H Q E) : wpAny (model X.prog X.w) X.A (call (.ref f) us) (EP X pins σ Q) X.xe s := by
  have r2 : Vals (vs ++ dvs) (us ++ ds) := r.append hd
  have hl : (us ++ ds).length = ps.length := by rw [← r2.length]; exact F.len _ _ _ _ h
  refine wpAny_call (codeAny_mono (F.run X.A X.stack s H ⟨us, []⟩ (us ++ ds) (vs ++ dvs) Q E hr I.env0 (hb s us I.kIn hl) r2 h) fun r s' hq => ?_)
  cases r with
  | error e => exact hx pins σ H s e s' I hq
  | ok fl =>
    cases fl with
    | ret u => exact I.after hq
    | next => exact False.elim hq
    | brk => exact False.elim hq
    | cont => exact False.elim hq
theorem pe_call (F : FnOk X.prog X.w X.K X.mg X.base CX k f fd ps sp) (hr : Room k X.A) (hg : Gl X x) (hm : X.mg x = some (.ref f)) (hk : W.keepIn X.K (.ref f) = true) (hb : Binds X.K fd ps ds) (hd : Vals dvs ds) (hx : Passes CX X E)
    (ha : PA X (e :: es) t) (hdb : (x == ("__debug__" : Str)) = false := by decide) (he : starEach (e :: es) X.env = (false, eval e X.env) :: starEach es X.env := by rfl) (hpl : (backTo pos (starEach es X.env)).any (·.1) = false := by rfl) :
    PE X (.Call (.Name x p) (e :: es) [] pos) (tCall sp dvs E t) := by
  intro pins s σ H Q I h
  refine wpAny_Call_Name_kw (ld_glob I hg hm ?_ hdb)
  refine W.callWith_K (h₀ := X.base) I.ok.mod.kin hk (thn (ha pos pins s σ H _ I h) fun us s1 ⟨vs, H1, I1, r, q⟩ => ⟨I1.kIn, ?_⟩) he hpl
  exact run_fn F hr hb hd hx I1 r q
theorem pe_meth {pl : Sem Bool} (he : PE X o ta) (c : Cls X.K C) (hm : Meth X.K C m f) (F : FnOk X.prog X.w X.K X.mg X.base CX k f fd ps sp) (hr : Room k X.A) (hb : Binds X.K fd ps ds) (hd : Vals dvs ds) (hx : Passes CX X E) (ha : PA X (e :: es) t)
    (hst : starEach (e :: es) X.env = (false, eval e X.env) :: starEach es X.env := by rfl) (hpl : (backTo pos (starEach es X.env)).any (·.1) = false := by rfl)
    (ht : eval (.Call (.Attribute o m apos) (e :: es) [] pos) X.env = (do
      let ov ← eval o X.env
      standAt apos.atName
      let (f, first) ← holding [ov] (getMethod ov m pl)
      callWith pos f first (backTo pos (starEach (e :: es) X.env)) (backToKw pos (keywordEach [] X.env))) := by rfl) :
    PE X (.Call (.Attribute o m apos) (e :: es) [] pos) (tMeth C m sp dvs E ta t) := by
  intro pins s σ H Q I h
  refine W.methodCall_KW (pl := pl) (thn (he pins s σ H _ I h) fun u s1 ⟨x, H1, I1, rx, a, dx, fs, ex, ea, l, q⟩ => ?_) ht
  subst ex
  obtain rfl : u = Value.ref a := rx
  refine getmeth_ok I1 ea c hm l ?_
  refine W.callWith_K (first := [.ref a]) (h₀ := X.base) I.ok.mod.kin hm.kp (thn (ha pos pins s1 σ H1 _ I1 q) fun us s2 ⟨vs, H2, I2, r, q2⟩ => ⟨I2.kIn, ?_⟩) hst hpl
  exact run_fn (us := .ref a :: us) (vs := .ref a :: vs) F hr hb hd hx I2 (.cons rfl r) q2
theorem pe_meth0 {pl : Sem Bool} (he : PE X o ta) (c : Cls X.K C) (hm : Meth X.K C m f) (F : FnOk X.prog X.w X.K X.mg X.base CX k f fd ps sp) (hr : Room k X.A) (hb : Binds X.K fd ps ds) (hd : Vals dvs ds) (hx : Passes CX X E)
    (ht : eval (.Call (.Attribute o m apos) [] [] pos) X.env = (do
      let ov ← eval o X.env
      standAt apos.atName
      let (f, first) ← holding [ov] (getMethod ov m pl)
      callWith pos f first (backTo pos (starEach [] X.env)) (backToKw pos (keywordEach [] X.env))) := by rfl) :
    PE X (.Call (.Attribute o m apos) [] [] pos) (tMeth C m sp dvs E ta tNil) := by
  intro pins s σ H Q I h
  refine W.methodCall_KW (pl := pl) (thn (he pins s σ H _ I h) fun u s1 ⟨x, H1, I1, rx, a, dx, fs, ex, ea, l, q⟩ => ?_) ht
  subst ex
  obtain rfl : u = Value.ref a := rx
  refine getmeth_ok I1 ea c hm l ?_
  exact W.callWith_K0 (first := [.ref a]) I1.kIn hm.kp (run_fn (us := [.ref a]) (vs := [.ref a]) F hr hb hd hx I1 (.cons rfl .nil) q)
structure Mk (K : W.Frag) (C f : Addr) : Prop where
  makes : W.makesIn K C = true
  init : W.findIn K (.ref C) "__init__" = some (some (.ref f))
  fn : W.isFn K (.ref f) = true
  kp : W.keepIn K (.ref C) = true
theorem run_make {pins : List (Addr × Obj)} {σ : St} {H : Hp} {s : Shared} {Q : VK} {us : List Value} {vs : List V} (M : Mk X.K C f) (F : FnOk X.prog X.w X.K X.mg X.base CX k f fd ps sp) (hr : Room (k + 1) X.A) (hb : Binds X.K fd ps ds) (hd : Vals dvs ds)
    (hx : Passes CX X E) (I : Inv X pins σ H s) (r : Vals vs us)
    (h : ∀ x dx, H x = none → H dx = none → dx ≠ x → sp (.ref x :: (vs ++ dvs)) (upd (upd H dx (.own x)) x (.ins C dx [])) (fun v H2 => v = .non ∧ Q (.ref x) H2) E) :
    wpAny (model X.prog X.w) X.A (call (.ref C) us) (EP X pins σ Q) X.xe s := by
  have hq := h (s.heap.objs.size + 1) s.heap.objs.size (I.hok.fresh (Nat.le_succ _)) (I.hok.fresh (Nat.le_refl _)) (Nat.ne_of_lt (Nat.lt_succ_self _))
  have I2 := Inv.made (C := C) I
  have r2 : Vals (V.ref (s.heap.objs.size + 1) :: (vs ++ dvs)) (Value.ref (s.heap.objs.size + 1) :: (us ++ ds)) := .cons rfl (r.append hd)
  have hl : (Value.ref (s.heap.objs.size + 1) :: us ++ ds).length = ps.length := by
    have e := r2.length
    rw [F.len _ _ _ _ hq] at e
    exact e.symm
  refine wpAny_call (make_map (f := f) I.kIn M.makes M.init (beq_iff_eq.mp M.fn) (codeAny_mono (F.run _ X.stack _ _ ⟨Value.ref (s.heap.objs.size + 1) :: us, []⟩ (Value.ref (s.heap.objs.size + 1) :: (us ++ ds)) _ _ E (hr.make C us [])
    (I2.env0.make C us []) (hb _ (Value.ref (s.heap.objs.size + 1) :: us) I2.kIn hl) r2 hq) fun r s' hq' => ?_))
  cases r with
  | error e => exact hx pins σ _ _ e s' I2 hq'
  | ok fl =>
    cases fl with
    | ret u =>
      obtain ⟨v, H', I3, rv, ev, q3⟩ := I2.after hq'
      subst ev
      exact ⟨rv, ⟨V.ref (s.heap.objs.size + 1), H', I3, rfl, q3⟩⟩
    | next => exact False.elim hq'
    | brk => exact False.elim hq'
    | cont => exact False.elim hq'
theorem pe_make (M : Mk X.K C f) (F : FnOk X.prog X.w X.K X.mg X.base CX k f fd ps sp) (hr : Room (k + 1) X.A) (hg : Gl X x) (hm : X.mg x = some (.ref C)) (hb : Binds X.K fd ps ds) (hd : Vals dvs ds) (hx : Passes CX X E)
    (ha : PA X (e :: es) t) (hdb : (x == ("__debug__" : Str)) = false := by decide) (he : starEach (e :: es) X.env = (false, eval e X.env) :: starEach es X.env := by rfl) (hpl : (backTo pos (starEach es X.env)).any (·.1) = false := by rfl) :
    PE X (.Call (.Name x p) (e :: es) [] pos) (tMake C sp dvs E t) := by
  intro pins s σ H Q I h
  refine wpAny_Call_Name_kw (ld_glob I hg hm ?_ hdb)
  refine W.callWith_K (h₀ := X.base) I.ok.mod.kin M.kp (thn (ha pos pins s σ H _ I h) fun us s1 ⟨vs, H1, I1, r, q⟩ => ⟨I1.kIn, ?_⟩) he hpl
  exact run_make M F hr hb hd hx I1 r q
end
section
variable {X : Cx} {CX : CXT} {k : Nat} {f C : Addr} {fd : FuncData} {ps ks : List Str} {sp : Sp} {E : XK} {x m : Str} {p pos apos kpos : Pos} {e o : Expr} {es : List Expr} {kws : List Keyword} {te ta : TE} {t tk : TA} {nm : Option Str}
variable {g : List Value → List Value → List Value} {gV : List V → List V → List V}
end
structure FnScope (N P : List Str) (sc : Scope) : Prop where
  kind : sc.kind = .function
  co : sc.isCoroutine = false
  gen : sc.isGenerator = false
  nd : N.Nodup
  pre : N.take P.length = P
  par : ∀ x ∈ P, sc.names.lookup x = some .local ∨ sc.names.lookup x = some .cell
  nofree : ∀ y ∈ sc.names, y.2 ≠ .free
theorem bindL_out {kindOf : Str → Option NameKind} {x : Str} : ∀ {binds : List (Str × Value)} {m : Str → Option Value}, (∀ v, (x, v) ∉ binds) → bindL kindOf binds m x = m x
  | [], _, _ => rfl
  | (n, v) :: r, m, h => by
    unfold bindL
    rw [bindL_out fun w hw => h w (List.mem_cons_of_mem _ hw)]
    split
    · have : x ≠ n := by rintro rfl; exact h v List.mem_cons_self
      simp [this]
    · rfl
theorem bindC_out {kindOf : Str → Option NameKind} {x : Str} : ∀ {binds : List (Str × Value)} {m : Str → Option Value}, (∀ v, (x, v) ∉ binds) → bindC kindOf binds m x = m x
  | [], _, _ => rfl
  | (n, v) :: r, m, h => by
    unfold bindC
    rw [bindC_out fun w hw => h w (List.mem_cons_of_mem _ hw)]
    split
    · rfl
    · have : x ≠ n := by rintro rfl; exact h v List.mem_cons_self
      simp [this]
theorem bindL_get {kindOf : Str → Option NameKind} {x : Str} {v : Value} : ∀ {P : List Str} {vs : List Value} {i : Nat} {m : Str → Option Value}, P.Nodup → P[i]? = some x → vs[i]? = some v → kindOf x = some .local →
    bindL kindOf (P.zip vs) m x = some v
  | [], _, _, _, _, h, _, _ => by simp at h
  | _ :: _, [], _, _, _, _, h, _ => by simp at h
  | p :: P, w :: vs, 0, m, nd, h1, h2, hk => by
    simp at h1 h2; subst h1; subst h2
    show bindL kindOf ((p, w) :: P.zip vs) m p = _
    unfold bindL
    rw [bindL_out fun v hv => (List.nodup_cons.mp nd).1 (List.of_mem_zip hv).1, if_pos hk]
    simp
  | p :: P, w :: vs, i + 1, m, nd, h1, h2, hk => by
    show bindL kindOf ((p, w) :: P.zip vs) m x = _
    unfold bindL
    exact bindL_get (i := i) (List.nodup_cons.mp nd).2 (by simpa using h1) (by simpa using h2) hk
theorem bindC_get {kindOf : Str → Option NameKind} {x : Str} {v : Value} : ∀ {P : List Str} {vs : List Value} {i : Nat} {m : Str → Option Value}, P.Nodup → P[i]? = some x → vs[i]? = some v → kindOf x ≠ some .local →
    bindC kindOf (P.zip vs) m x = some v
  | [], _, _, _, _, h, _, _ => by simp at h
  | _ :: _, [], _, _, _, _, h, _ => by simp at h
  | p :: P, w :: vs, 0, m, nd, h1, h2, hk => by
    simp at h1 h2; subst h1; subst h2
    show bindC kindOf ((p, w) :: P.zip vs) m p = _
    unfold bindC
    rw [bindC_out fun v hv => (List.nodup_cons.mp nd).1 (List.of_mem_zip hv).1, if_neg hk]
    simp
  | p :: P, w :: vs, i + 1, m, nd, h1, h2, hk => by
    show bindC kindOf ((p, w) :: P.zip vs) m x = _
    unfold bindC
    exact bindC_get (i := i) (List.nodup_cons.mp nd).2 (by simpa using h1) (by simpa using h2) hk
def start (N : List Str) (vs : List V) : St := vs.map some ++ List.replicate (N.length - vs.length) none
def cxOf (CX : CXT) (P : Program) (w : World) (K : W.Frag) (mg : Str → Option Value) (base : Heap) (N : List Str) (qual : Str) (scope : Scope) (f : Addr) (cd : Value) (A : Around) (outer : List Env) (s : Shared) (H : Hp) (E : XK) : Cx where
  prog := P
  w := w
  K := K
  mg := mg
  base := base
  A := A.deeper (envOfC qual scope s.heap.objs.size f cd)
  N := N
  s₀ := s
  H₀ := H
  env := envOfC qual scope s.heap.objs.size f cd
  outer := outer
  stack := envOfC qual scope s.heap.objs.size f cd :: outer
  ex := []
  calm := true
  fn := fun _ => true
  pn := []
  xe := fun e s' => wpAny (model P w) (A.deeper (envOfC qual scope s.heap.objs.size f cd)) (leaving (envOfC qual scope s.heap.objs.size f cd) e) (fun _ s'' => CX outer H s E e s'') (fun e' s'' => CX outer H s E e' s'') s'
theorem cell_has {sc : Scope} {n : Nat} {x : Str} (h : sc.names.lookup x = some .cell) : ∃ c, (cellsFrom n sc.names []).lookup x = some c := by
  have q := W.cellsFrom_some sc.names n [] (.inl h)
  exact Option.isSome_iff_exists.mp q
theorem inv_start {CX : CXT} {P : Program} {w : World} {K : W.Frag} {mg : Str → Option Value} {base : Heap} {N ps : List Str} {qual : Str} {scope : Scope} {f : Addr} {cd : Value} {A : Around} {outer : List Env} {s s1 : Shared} {H : Hp} {E : XK} {us : List Value} {vs : List V}
    (S : FnScope N ps scope) (hd : A.handled = none) (e0 : Env0 P w K mg base A outer s H) (hl : vs.length = ps.length) (r : Vals vs us)
    (x : InCallC s s.heap.objs.size (bindL (envOfC qual scope s.heap.objs.size f cd).kindOf (ps.zip us) fun _ => none) (cellsFrom (s.heap.objs.size + 1) scope.names []) (bindC (envOfC qual scope s.heap.objs.size f cd).kindOf (ps.zip us) fun _ => none) s1) :
    Inv (cxOf CX P w K mg base N qual scope f cd A outer s H E) [] (start N vs) H s1 := by
  have hpl : ps.length ≤ N.length := by have := congrArg List.length S.pre; rw [List.length_take] at this; omega
  obtain ⟨h1, tk, rfl, hk⟩ := x.done
  have noA : ∀ b : Addr, b ∉ (cxOf CX P w K mg base N qual scope f cd A outer s H E).ex := fun b z => absurd (show b ∈ ([] : List Addr) from z) (by simp)
  refine ⟨⟨e0.mod, S.kind, rfl, rfl, Nat.le_refl _, fun y z c h1 h2 => ?_, fun y hy => ?_, fun y c _ h => ?_, fun _ => hd, Around.frames_deeper e0.frames, .inr ⟨rfl, rfl⟩, fun b z => absurd z (noA b), e0.bs, e0.bsz, fun b _ _ => noA b, fun b z => absurd z (noA b), e0.funs, e0.frf⟩,
    rfl, e0.bare, Un.kept hk, ⟨_, x.toInCall.ns, fun i y v h1 h2 h3 => ?_⟩, fun y c h => ⟨_, x.cell y c h⟩, e0.hok.fresh (Nat.le_refl _), fun y c h => ?_, fun p hp => absurd (show p ∈ ([] : List (Addr × Obj)) from hp) (by simp), e0.hok.kept hk, ?_⟩
  · exact name_of_addr x.apart (PySem.mem_of_lookup h1) (PySem.mem_of_lookup h2)
  · have hy : scope.names.lookup y = some .cell ∨ scope.names.lookup y = some .free := hy
    rcases hy with hy | hy
    · exact cell_has hy
    · exact absurd rfl (S.nofree _ (PySem.mem_of_lookup hy))
  · exact Nat.le_of_lt (x.above y c (PySem.mem_of_lookup h))
  · have hi : i < vs.length := by
      unfold start at h2
      by_cases hi : i < vs.length
      · exact hi
      · rw [List.getElem?_append_right (by simpa using hi)] at h2
        rw [List.getElem?_replicate] at h2
        split at h2 <;> cases h2
    have ha : vs[i]? = some v := by
      unfold start at h2
      rw [List.getElem?_append_left (by simpa using hi), List.getElem?_map] at h2
      cases e : vs[i]? with
      | none => rw [e] at h2; cases h2
      | some a => rw [e] at h2; cases h2; rfl
    obtain ⟨u, hu, rv⟩ := r.get ha
    have hp : ps[i]? = some y := by
      rw [← S.pre, List.getElem?_take_of_lt (by omega)]; exact h1
    have ndP : ps.Nodup := by rw [← S.pre]; exact S.nd.sublist (List.take_sublist _ _)
    refine ⟨u, rv, ?_⟩
    rcases S.par y (List.mem_of_getElem? hp) with k | k
    · exact .inl ⟨k, bindL_get ndP hp hu k⟩
    · obtain ⟨c, e⟩ := cell_has (n := s.heap.objs.size + 1) k
      refine .inr ⟨.inl k, c, e, ?_⟩
      have q := x.cell y c e
      rw [bindC_get ndP hp hu (by show scope.names.lookup y ≠ _; rw [k]; decide)] at q
      exact q
  · exact e0.hok.fresh (Nat.le_of_lt (x.above y c (PySem.mem_of_lookup h)))
  · unfold start
    show _ = N.length
    rw [List.length_append, List.length_map, List.length_replicate]
    omega
theorem fn_of {CX : CXT} {P : Program} {w : World} {K : W.Frag} {mg : Str → Option Value} {base : Heap} {k : Nat} {f : Addr} {name qual : Str} {params : Arguments} {body : List Stmt} {scope : Scope} {dV kV doc pm cdv ct oc : Value} {an od : Option Addr}
    {osl : Array (Option Value)} {N ps : List Str} {sp : Sp} (lk : K.lookup f = some ⟨oc, od, .func (W.fnOf name qual params body scope dV kV doc pm an cdv ct), osl⟩) (hcd : W.codeIn K cdv qual = true) (S : FnScope N ps scope)
    (len : ∀ vs H Q E, sp vs H Q E → vs.length = ps.length)
    (hbody : ∀ (A : Around) (outer : List Env) (s : Shared) (H : Hp) (vs : List V) (Q : VK) (E : XK), Room k (A.deeper (envOfC qual scope s.heap.objs.size f cdv)) → sp vs H Q E →
      ∃ t, PSs (cxOf CX P w K mg base N qual scope f cdv A outer s H E) body t ∧ t { nx := fun _ H' => Q .non H', rt := Q } (start N vs) H) :
    FnOk P w K mg base CX (k + 1) f (W.fnOf name qual params body scope dV kV doc pm an cdv ct) ps sp := by
  refine ⟨len, fun A outer s H args us vs Q E hr e0 hb r hsp => ?_⟩
  have hl := len _ _ _ _ hsp
  have KX : K.In s.heap := e0.mod.kin.keeps fun b o e => (e0.bs b o e).1
  have lim : s.heap.NoLimit := e0.mod.nolimit.keeps fun b o e => (e0.bs b o e).1
  have hkind : ∀ y ∈ ps.zip us, scope.names.lookup y.1 = some .local ∨ (scope.names.lookup y.1 = some .cell ∧ ((cellsFrom (s.heap.objs.size + 1) scope.names []).lookup y.1).isSome = true) := fun ⟨n, v⟩ hy => by
    rcases S.par n (List.of_mem_zip hy).1 with q | q
    · exact .inl q
    · exact .inr ⟨q, W.cellsFrom_some _ _ _ (.inl q)⟩
  refine codeAny_call_function hr.depth (KX _ _ lk) rfl S.co S.gen rfl (W.codeRec_of KX hcd) (hb _ _ _ _ ?_)
  refine wpAny_newFunctionEnv_cells S.kind hkind fun env he s1 x => ?_
  subst he
  refine ⟨lim.keeps x.toInCall.keep, codeAny_func ?_⟩
  obtain ⟨t, ht, hq⟩ := hbody A outer s H vs Q E (hr.deeper _) hsp
  have I : Inv (cxOf CX P w K mg base N qual scope f cdv A outer s H E) [] (start N vs) H s1 := inv_start S hr.hd e0 hl r x
  refine wpAny_mono (ht [] s1 (start N vs) H _ I hq) (fun fl s' hs => ?_) fun e s' hs => hs
  have fin : ∀ {σ' : St} {H' : Hp} {v : V} {u : Value}, Inv (cxOf CX P w K mg base N qual scope f cdv A outer s H E) [] σ' H' s' → RelV v u → Q v H' → CE outer P w H s Q u s' :=
    fun {σ' H' v u} J rv q => ⟨v, H', J.os, J.bare, J.base, J.hok, rv, q⟩
  cases fl with
  | ret u =>
    obtain ⟨v, σ', H', J, rv, q⟩ := hs
    exact fin J rv q
  | next =>
    obtain ⟨σ', H', J, q⟩ := hs
    exact fin (v := V.non) (u := Value.none) J rfl q
  | brk =>
    obtain ⟨_, _, _, q⟩ := hs
    exact False.elim q
  | cont =>
    obtain ⟨_, _, _, q⟩ := hs
    exact False.elim q
end L2
namespace L2
open PySem PySem.Spec PyProof.Rows
section
variable {X : Cx} {x : Str} {p pos : Pos} {e : Expr} {es : List Expr} {t : TA} {id T : String} {r : List V → Hp → VK → Prop}
def tCB (r : List V → Hp → VK → Prop) (t : TA) : TE := fun σ H Q => t σ H fun vs H1 => r vs H1 Q
theorem pe_callB (hc : CallR X (.builtin id) r) (hg : Gl X x) (hm : X.mg x = none) (hv : bootBuiltins x = some (.builtin id)) (ha : PA X (e :: es) t) (hn : x ≠ "__name__" := by decide) (hdb : (x == ("__debug__" : Str)) = false := by decide)
    (he : starEach (e :: es) X.env = (false, eval e X.env) :: starEach es X.env := by rfl) (hpl : (backTo pos (starEach es X.env)).any (·.1) = false := by rfl) : PE X (.Call (.Name x p) (e :: es) [] pos) (tCB r t) := by
  intro pins s σ H Q I h
  refine wpAny_Call_Name_kw (ld_blt I hg hm hv ?_ hn hdb)
  exact PyProof.Rows.callWith_builtin1 (thn (ha pos pins s σ H _ I h) fun us s1 ⟨vs, H1, I1, r1, q1⟩ => hc pins s1 σ H1 vs us Q I1 r1 q1) he hpl
theorem pe_callTy (hc : CallR X (.type T) r) (hg : Gl X x) (hm : X.mg x = none) (hv : bootBuiltins x = some (.type T)) (ha : PA X (e :: es) t) (hn : x ≠ "__name__" := by decide) (hdb : (x == ("__debug__" : Str)) = false := by decide)
    (he : starEach (e :: es) X.env = (false, eval e X.env) :: starEach es X.env := by rfl) (hpl : (backTo pos (starEach es X.env)).any (·.1) = false := by rfl) : PE X (.Call (.Name x p) (e :: es) [] pos) (tCB r t) := by
  intro pins s σ H Q I h
  refine wpAny_Call_Name_kw (ld_blt I hg hm hv ?_ hn hdb)
  exact PyProof.Rows.callWith_type1 (thn (ha pos pins s σ H _ I h) fun us s1 ⟨vs, H1, I1, r1, q1⟩ => hc pins s1 σ H1 vs us Q I1 r1 q1) he hpl
end
end L2
namespace HT
open PySem PyProof.Rows
section
open PySem.SeqAt
open PySem.AutoSeq1 (wpAny_loadPart')
open PySem.MeetsSeq PySem.MeetsSeq2 PySem.MeetsSeq3
end
section
variable {prog : Program} {w : World} {A : Around} {E : Value → Shared → Prop} {s : Shared}
theorem cat_tup {t b : Addr} {vs ws : List Value} {Q : Value → Shared → Prop} (ht : IsTup s.heap t vs.toArray) (hb : IsTup s.heap b ws.toArray) (hv : vs ≠ [])
    (h1 : ws = [] → Q (.ref t) s) (h2 : ws ≠ [] → Q (.ref s.heap.objs.size) { s with heap := s.heap.push { cls := .type "tuple", data := .seq (vs ++ ws).toArray } })
    (hsz : vs.length + ws.length ≤ sizeLine) : wpAny (model prog w) A (binaryOp .Add (.ref t) (.ref b)) Q E s := by
  obtain ⟨⟨cls, dd, data, sl⟩, ho, hc, n, hd⟩ := id ht
  obtain ⟨⟨cls2, dd2, data2, sl2⟩, ho2, hc2, n2, hd2⟩ := id hb
  simp only at hc hd hc2 hd2
  subst hc hd hc2 hd2
  have e : vs.toArray ++ ws.toArray = (vs ++ ws).toArray := by simp
  by_cases hw : ws = []
  · exact concat_meets ⟨_, ho, rfl⟩ ⟨_, ho2, rfl⟩ noFill_tuple_add seq_tuple_add PySem.F.slot_tuple_add PySem.F.entry_tuple_add (PySem.F.args_tuple_add_2 _ _)
      (tuple_addW1 t b vs.toArray ws.toArray n n2 dd dd2 sl sl2 (by simpa using hv) (by simp [hw])) ⟨ho, ho2, h1 hw⟩
  · refine concat_meets ⟨_, ho, rfl⟩ ⟨_, ho2, rfl⟩ noFill_tuple_add seq_tuple_add PySem.F.slot_tuple_add PySem.F.entry_tuple_add (PySem.F.args_tuple_add_2 _ _)
      (tuple_addW2 t b vs.toArray ws.toArray n n2 dd dd2 sl sl2 (by simpa using hv) (by simpa using hw) (by rw [List.size_toArray, List.size_toArray]; exact hsz)) ⟨ho, ho2, ?_⟩
    rw [e]
    exact h2 hw
def sIx (n d : Nat) : Option Int → Nat
  | none => d
  | some v => if v < 0 then (v + (n : Int)).toNat else min v.toNat n
theorem sIx_le (n d : Nat) (hd : d ≤ n) (o : Option Int) : sIx n d o ≤ n := by
  cases o with
  | none => exact hd
  | some v =>
    show (if v < 0 then (v + (n : Int)).toNat else min v.toNat n) ≤ n
    by_cases hv : v < 0
    · rw [if_pos hv]; omega
    · rw [if_neg hv]; exact Nat.min_le_right _ _
theorem clip_eq (v : Int) (n d : Nat) : (if v < 0 then max (v + (n : Int)) 0 else min v (n : Int)) = ((sIx n d (some v) : Nat) : Int) := by
  show (if v < 0 then max (v + (n : Int)) 0 else min v (n : Int)) = (((if v < 0 then (v + (n : Int)).toNat else min v.toNat n) : Nat) : Int)
  by_cases hv : v < 0
  · simp only [if_pos hv]; omega
  · simp only [if_neg hv]; omega
theorem adjust_gen (lo hi : Option Int) (n : Nat) : Builtin.Slice.sliceAdjust lo hi 1 (n : Int) = (((sIx n 0 lo : Nat) : Int), ((sIx n n hi : Nat) : Int)) := by
  have h1 : ¬ ((1 : Int) < 0) := by omega
  unfold Builtin.Slice.sliceAdjust
  simp only [h1, if_false]
  refine Prod.ext ?_ ?_
  · cases lo with
    | none => rfl
    | some v => exact clip_eq v n 0
  · cases hi with
    | none => rfl
    | some v => exact clip_eq v n n
theorem places_gen (i j : Nat) : Builtin.Slice.slicePlaces (i : Int) (j : Int) 1 = j - i := by
  unfold Builtin.Slice.slicePlaces
  have h1 : (1 : Int) > 0 := by omega
  simp only [h1, if_true, Int.ediv_one]
  split <;> omega
theorem slicePart_ {v : Value} {o : Option Int} {Q : Option Int → Shared → Prop} (p : IsPart v o) (h : Q o s) : wpAny (model prog w) A (Builtin.Slice.slicePartIndex v) Q E s := by
  cases p with
  | none => exact slicePart_none h
  | int i t => exact slicePart_int h
theorem sliceApplied_gen {sl : Addr} {vl vu : Value} {lo hi : Option Int} {n : Nat} {Q : Int × Int × Nat → Shared → Prop} (hs : s.heap.IsSliceOf sl vl vu .none) (pl : IsPart vl lo) (pu : IsPart vu hi)
    (h : Q (((sIx n 0 lo : Nat) : Int), 1, sIx n n hi - sIx n 0 lo) s) : wpAny (model prog w) A (Builtin.Slice.sliceApplied (.ref sl) (pure (n : Int))) Q E s := by
  obtain ⟨os, hos, hcs, hds⟩ := id hs
  unfold Builtin.Slice.sliceApplied Builtin.Slice.sliceFields
  refine wpAny_bind (wpAny_bind (wpAny_field hos hds (x := vl) rfl (wpAny_bind (wpAny_field hos hds (x := vu) rfl (wpAny_bind (wpAny_field hos hds (x := .none) rfl (wpAny_pure ?_)))))))
  refine wpAny_bind (slicePart_none ?_)
  show wpAny _ _ (if ((1 : Int) == 0) = true then _ else _) _ _ s
  rw [if_neg (by decide)]
  refine wpAny_bind (slicePart_ pl (wpAny_bind (slicePart_ pu (wpAny_bind (wpAny_pure ?_)))))
  show wpAny _ _ (match Builtin.Slice.sliceAdjust lo hi 1 (n : Int) with | (lo, hi) => pure (lo, (1 : Int), Builtin.Slice.slicePlaces lo hi 1)) _ _ s
  rw [adjust_gen lo hi n]
  show wpAny _ _ (pure (((sIx n 0 lo : Nat) : Int), (1 : Int), Builtin.Slice.slicePlaces ((sIx n 0 lo : Nat) : Int) ((sIx n n hi : Nat) : Int) 1)) _ _ s
  rw [places_gen]
  exact wpAny_pure h
theorem pick_gen (xs : Array Value) (i k : Nat) : ((List.range k).filterMap fun (m : Nat) => xs[((i : Int) + (m : Int) * 1).toNat]?).toArray = ((xs.toList.drop i).take k).toArray := by
  have e : (fun (m : Nat) => xs[((i : Int) + (m : Int) * 1).toNat]?) = fun m => xs[i + m]? := by
    funext m
    have : ((i : Int) + (m : Int) * 1).toNat = i + m := by omega
    rw [this]
  rw [e]
  have := pick_run xs i k
  rw [List.filterMap_map] at this
  have e2 : ((fun x => xs[x]?) ∘ fun x => i + x) = fun m => xs[i + m]? := rfl
  rw [e2] at this
  rw [this]
theorem getItem_tuple_cut {t sl : Addr} {items : Array Value} {vl vu : Value} {lo hi : Option Int} {Q : Value → Shared → Prop} (ht : IsTup s.heap t items) (hs : s.heap.IsSliceOf sl vl vu .none) (pl : IsPart vl lo) (pu : IsPart vu hi)
    (hw : ¬ (sIx items.size 0 lo = 0 ∧ sIx items.size items.size hi = items.size))
    (h : Q (.ref s.heap.objs.size) { s with heap := s.heap.push { cls := .type "tuple", data := .seq ((items.toList.drop (sIx items.size 0 lo)).take (sIx items.size items.size hi - sIx items.size 0 lo)).toArray } })
    (hsz : items.size ≤ sizeLine) : wpAny (model prog w) A (getItem (.ref t) (.ref sl)) Q E s := by
  have htake : sizeOk (.seq ((items.toList.drop (sIx items.size 0 lo)).take (sIx items.size items.size hi - sIx items.size 0 lo)).toArray) := by
    show ((items.toList.drop (sIx items.size 0 lo)).take (sIx items.size items.size hi - sIx items.size 0 lo)).toArray.size ≤ sizeLine
    rw [List.size_toArray, List.length_take, List.length_drop, Array.length_toList]
    omega
  have hj : sIx items.size items.size hi ≤ items.size := sIx_le _ _ (Nat.le_refl _) hi
  obtain ⟨os, hos, hcs, hds⟩ := id hs
  have hTs : s.TypeIs (.ref sl) "slice" := ⟨os, hos, hcs⟩
  unfold getItem
  try with_reducible refine wpAny_holding ?_
  first | refine wpAny_bind (wpAny_pure ?_) | skip
  refine wpAny_bind (wpAny_sequenceKey ht.typeIs (by decide) ?_)
  refine wpAny_bind (wpAny_callSpecial?_slot (name := Str.ofString "__getitem__") ht.typeIs PyProof.Rows.slot_tuple_getitem
    (wpAny_call_entry PyProof.Rows.slot_tuple_getitem ht.typeIs entry_tuple_getitem ?_ (args_tuple_getitem _ _)))
  show wpAny _ _ (Builtin.Tuple.tupleItemsOf (.ref t) >>= _) _ _ s
  refine wpAny_bind (tupleItemsOf_ ht ?_)
  refine wpAny_bind (wpAny_typeOf hTs ?_)
  rw [if_pos (by decide)]
  refine wpAny_bind (sliceApplied_gen hs pl pu ?_)
  have hno : ¬ ((((sIx items.size 0 lo : Nat) : Int) == 0 && (1 : Int) == 1 && (sIx items.size items.size hi - sIx items.size 0 lo) == items.size) = true) := by
    intro q
    rw [Bool.and_eq_true, Bool.and_eq_true] at q
    have q1 : ((sIx items.size 0 lo : Nat) : Int) = 0 := eq_of_beq q.1.1
    have q2 : sIx items.size items.size hi - sIx items.size 0 lo = items.size := eq_of_beq q.2
    exact hw ⟨by omega, by omega⟩
  show wpAny _ _ (if (((sIx items.size 0 lo : Nat) : Int) == 0 && (1 : Int) == 1 && (sIx items.size items.size hi - sIx items.size 0 lo) == items.size) = true then _ else _) _ _ s
  rw [if_neg hno, pick_gen]
  first
    | exact wpAny_bind (m := Builtin.Tuple.tupleExact _) (wpAny_newObj_type (wpAny_pure ⟨_, rfl, wpAny_pure h⟩) htake)
    | exact wpAny_bind (m := Builtin.Tuple.tupleExact _) (wpAny_newObj_type (wpAny_bind (wpAny_pure (wpAny_pure ⟨_, rfl, wpAny_pure h⟩))) htake)
    | exact wpAny_bind (wpAny_bind (m := Builtin.Tuple.tupleExact _) (wpAny_newObj_type (wpAny_pure (wpAny_pure ⟨_, rfl, wpAny_pure h⟩)) htake))
    | exact wpAny_bind (wpAny_bind (m := Builtin.Tuple.tupleExact _) (wpAny_newObj_type (wpAny_pure ⟨_, rfl, wpAny_pure h⟩) htake))
end
end HT
namespace L2
open PySem PySem.Spec PyProof.Rows
abbrev TO := St → Hp → (Option Int → Hp → Prop) → Prop
def PO (X : Cx) (e : Option Expr) (t : TO) : Prop :=
  ∀ (pins : List (Addr × Obj)) (s : Shared) (σ : St) (H : Hp) (Q : Option Int → Hp → Prop), Inv X pins σ H s → t σ H Q →
    wpAny (model X.prog X.w) X.A (evalPart e X.env) (fun u s' => ∃ o H', Inv X pins σ H' s' ∧ IsPart u o ∧ Q o H') X.xe s
def tNoPart : TO := fun _ H Q => Q none H
def tPart (t : TE) : TO := fun σ H Q => t σ H fun x H1 => ∃ i, x = .int i ∧ Q (some i) H1
theorem intsAre_of {ns : List Int} : ∀ {us : List Value}, Vals (ns.map V.int) us → IntsAre us ns := by
  induction ns with
  | nil => intro us r; rw [List.map_nil] at r; cases r; exact .nil
  | cons n ns ih =>
    intro us r
    rw [List.map_cons] at r
    cases r with
    | cons r1 r2 =>
      obtain ⟨t, e⟩ := r1
      subst e
      exact .cons n t (ih r2)
section
variable {X : Cx} {e : Expr} {te : TE} {lo hi : Option Expr} {tl th : TO} {pos p2 : Pos}
theorem po_none : PO X none tNoPart := by
  intro pins s σ H Q I h
  rw [evalPart_none]
  exact wpAny_pure ⟨none, H, I, .none, h⟩
theorem po_some (h : PE X e te) : PO X (some e) (tPart te) := by
  intro pins s σ H Q I hw
  rw [evalPart_some]
  refine thn (h pins s σ H _ I hw) fun u s1 ⟨x, H1, I1, r1, q1⟩ => ?_
  obtain ⟨i, rfl, q⟩ := q1
  obtain ⟨t, rfl⟩ := r1
  exact ⟨some i, H1, I1, .int i t, q⟩
def SlR (X : Cx) (r : V → Option Int → Option Int → Hp → VK → Prop) : Prop :=
  ∀ (pins : List (Addr × Obj)) (s : Shared) (σ : St) (H : Hp) (x : V) (v vl vu : Value) (lo hi : Option Int) (sl : Addr) (Q : VK), Inv X pins σ H s → RelV x v → s.heap.IsSliceOf sl vl vu .none → IsPart vl lo → IsPart vu hi → r x lo hi H Q →
    ∃ T id, typeLookup (.type T) "__getitem__" = pure (some (.builtin id)) ∧ s.TypeIs v T ∧ wpAny (model X.prog X.w) X.A (getItem v (.ref sl)) (EP X pins σ Q) X.xe s
theorem SlR.or {r r' : V → Option Int → Option Int → Hp → VK → Prop} (h : SlR X r) (h' : SlR X r') : SlR X (fun x lo hi H Q => r x lo hi H Q ∨ r' x lo hi H Q) := by
  intro pins s σ H x v vl vu lo hi sl Q I rx hs pl pu q
  rcases q with q | q
  · exact h pins s σ H x v vl vu lo hi sl Q I rx hs pl pu q
  · exact h' pins s σ H x v vl vu lo hi sl Q I rx hs pl pu q
def tSl (r : V → Option Int → Option Int → Hp → VK → Prop) (te : TE) (tl th : TO) : TE := fun σ H Q => te σ H fun x H1 => tl σ H1 fun l H2 => th σ H2 fun u H3 => r x l u H3 Q
theorem pe_slice {r : V → Option Int → Option Int → Hp → VK → Prop} (hr : SlR X r) (he : PE X e te) (hl : PO X lo tl) (hu : PO X hi th) : PE X (.Subscript e (.Slice lo hi none p2) pos) (tSl r te tl th) := by
  intro pins s σ H Q I h
  refine Subscript_ (thn (he pins s σ H _ I h) fun v s1 ⟨x, H1, I1, r1, q1⟩ => ?_)
  refine wpAny_Slice (thn (hl pins s1 σ H1 _ I1 q1) fun vl s2 ⟨l, H2, I2, pl, q2⟩ => thn (hu pins s2 σ H2 _ I2 q2) fun vu s3 ⟨u, H3, I3, pu, q3⟩ => ?_)
  rw [evalPart_none]
  refine wpAny_pure ?_
  have I4 : Inv X pins σ H3 { s3 with heap := s3.heap.push { cls := .type "slice", data := .fields #[vl, vu, .none] } } := I3.kept (t' := s3.toks) fun b ob q => Heap.get?_push_of_some _ q
  obtain ⟨T, id, hT, ht, hg⟩ := hr pins { s3 with heap := s3.heap.push { cls := .type "slice", data := .fields #[vl, vu, .none] } } σ H3 x v vl vu l u s3.heap.objs.size Q I4 r1 (Heap.IsSliceOf.new ..) pl pu q3
  show wpAny (model X.prog X.w) X.A (subscriptTail e (.Slice lo hi none p2) v (.ref s3.heap.objs.size)) (EP X pins σ Q) X.xe { s3 with heap := s3.heap.push { cls := .type "slice", data := .fields #[vl, vu, .none] } }
  exact tail_any (ops := [.ref s3.heap.objs.size, v]) ht hT hg (by with_unfolding_all rfl)
def cutV (xs : List V) (lo hi : Option Int) : List V := (xs.drop (HT.sIx xs.length 0 lo)).take (HT.sIx xs.length xs.length hi - HT.sIx xs.length 0 lo)
theorem cutV_length (xs : List V) (lo hi : Option Int) : (cutV xs lo hi).length ≤ xs.length := by
  unfold cutV
  rw [List.length_take, List.length_drop]
  omega
def rSlT (K : W.Frag) : V → Option Int → Option Int → Hp → VK → Prop := fun x lo hi H Q => ∃ a xs, x = .ref a ∧ SqT K H a xs ∧
  ¬ (HT.sIx xs.length 0 lo = 0 ∧ HT.sIx xs.length xs.length hi = xs.length) ∧ ∀ p, H p = none → Q (.ref p) (upd H p (.tup (cutV xs lo hi)))
theorem sl_tup : SlR X (rSlT X.K) := by
  intro pins s σ H x v vl vu lo hi sl Q I rx hs pl pu h
  obtain ⟨a, xs, rfl, hx, hw, q⟩ := h
  cases rx
  obtain ⟨its, r, ht, hz⟩ := I.tuple hx
  have hlen : its.toArray.size = xs.length := by rw [List.size_toArray]; exact r.length.symm
  refine ⟨"tuple", _, PyProof.Rows.slot_tuple_getitem.lookup, ht.typeIs, ?_⟩
  refine HT.getItem_tuple_cut ht hs pl pu (by rw [hlen]; exact hw) ?_ (by rw [hlen]; exact hz)
  rw [hlen]
  refine ⟨.ref s.heap.objs.size, _, I.laid (t' := s.toks) (o := .tup (cutV xs lo hi)) (fun b ob q => Heap.get?_push_of_some _ q) (Nat.le_refl _) ?_, rfl, q _ (I.hok.fresh (Nat.le_refl _))⟩
  exact ⟨Nat.le_trans (cutV_length xs lo hi) hz, _, (r.drop (HT.sIx xs.length 0 lo)).take (HT.sIx xs.length xs.length hi - HT.sIx xs.length 0 lo), IsTup.new _ _⟩
def rCatT (K : W.Frag) : R2 := fun x y H Q => ∃ a b xs ys, x = .ref a ∧ y = .ref b ∧ SqT K H a xs ∧ SqT K H b ys ∧ xs ≠ [] ∧ xs.length + ys.length ≤ sizeLine ∧
  (ys = [] → Q (.ref a) H) ∧ (ys ≠ [] → ∀ p, H p = none → Q (.ref p) (upd H p (.tup (xs ++ ys))))
theorem Vals.nil_iff {xs : List V} {us : List Value} (r : Vals xs us) : us = [] ↔ xs = [] := by
  cases r with
  | nil => simp
  | cons _ _ => simp
theorem op_catT : OpR X (binaryOp .Add) (rCatT X.K) := by
  intro pins s σ H x y v u Q I rx ry h
  obtain ⟨a, b, xs, ys, rfl, rfl, ha, hb, hx, hz, q1, q2⟩ := h
  cases rx
  cases ry
  obtain ⟨its, r1, p1, _⟩ := I.tuple ha
  obtain ⟨its2, r2, p2, _⟩ := I.tuple hb
  refine HT.cat_tup p1 p2 (fun z => hx (r1.nil_iff.mp z)) (fun z => ⟨.ref a, H, I, rfl, q1 (r2.nil_iff.mp z)⟩) (fun z => ?_) (by rw [← r1.length, ← r2.length]; exact hz)
  refine ⟨.ref s.heap.objs.size, _, I.laid (t' := s.toks) (o := .tup (xs ++ ys)) (fun b ob q => Heap.get?_push_of_some _ q) (Nat.le_refl _) ?_, rfl, q2 (fun w => z (r2.nil_iff.mpr w)) _ (I.hok.fresh (Nat.le_refl _))⟩
  exact ⟨by rw [List.length_append]; exact hz, _, r1.append r2, IsTup.new _ _⟩
end
end L2
namespace L2
open PySem PySem.Spec PyProof.Rows
def ixN (n : Nat) (i : Int) : Option Nat := if 0 ≤ i then (if i < n then some i.toNat else none) else if -(n : Int) ≤ i then some (i + n).toNat else none
def atI {α : Type} (xs : List α) (i : Int) : Option α := (ixN xs.length i).bind fun j => xs[j]?
theorem ixN_seq {n : Nat} {i : Int} {j : Nat} (h : ixN n i = some j) : seqIndex? i n = some j ∧ j < n ∧ -(n : Int) ≤ i ∧ i < n := by
  unfold ixN at h
  by_cases h0 : 0 ≤ i
  · rw [if_pos h0] at h
    by_cases h1 : i < n
    · rw [if_pos h1] at h
      have e : i.toNat = j := Option.some.inj h
      exact ⟨by rw [seqIndex_of h0 h1, e], by omega, by omega, h1⟩
    · rw [if_neg h1] at h; cases h
  · rw [if_neg h0] at h
    by_cases h1 : -(n : Int) ≤ i
    · rw [if_pos h1] at h
      have e : (i + n).toNat = j := Option.some.inj h
      exact ⟨by rw [seqIndex_neg (by omega) h1, e], by omega, h1, by omega⟩
    · rw [if_neg h1] at h; cases h
theorem atI_get {α : Type} {xs : List α} {i : Int} {v : α} (h : atI xs i = some v) : ∃ j, seqIndex? i xs.length = some j ∧ xs[j]? = some v ∧ j < xs.length ∧ -(xs.length : Int) ≤ i ∧ i < xs.length := by
  unfold atI at h
  cases e : ixN xs.length i with
  | none => rw [e] at h; cases h
  | some j =>
    rw [e] at h
    obtain ⟨h1, h2, h3, h4⟩ := ixN_seq e
    exact ⟨j, h1, h, h2, h3, h4⟩
def PlainIx (b : Expr) : Prop := ∀ o i, subscripted b false o i = operate [o, i] (getItem o i)
def IxR (X : Cx) (r : R2) : Prop :=
  ∀ (value slice : Expr) (pins : List (Addr × Obj)) (s : Shared) (σ : St) (H : Hp) (x y : V) (v u : Value) (Q : VK), Inv X pins σ H s → RelV x v → RelV y u → r x y H Q →
    subscripted slice false v u = operate [v, u] (getItem v u) → wpAny (model X.prog X.w) X.A (subscriptTail value slice v u) (EP X pins σ Q) X.xe s
def MtR (X : Cx) (id : String) (r : V → List V → Hp → VK → Prop) : Prop :=
  ∀ (pins : List (Addr × Obj)) (s : Shared) (σ : St) (H : Hp) (x : V) (xs : List V) (v : Value) (us : List Value) (Q : VK), Inv X pins σ H s → RelV x v → Vals xs us → r x xs H Q →
    wpAny (model X.prog X.w) X.A (call (.builtin id) (v :: us)) (EP X pins σ Q) X.xe s
section
variable {X : Cx} {a b : Expr} {ta tb : TE} {pos : Pos}
theorem IxR.or {r r' : R2} (h : IxR X r) (h' : IxR X r') : IxR X (fun x y H Q => r x y H Q ∨ r' x y H Q) := by
  intro value slice pins s σ H x y v u Q I rx ry q hs
  rcases q with q | q
  · exact h value slice pins s σ H x y v u Q I rx ry q hs
  · exact h' value slice pins s σ H x y v u Q I rx ry q hs
theorem pe_ix {r : R2} (hr : IxR X r) (ha : PE X a ta) (hb : PE X b tb) (hs : PlainIx b) : PE X (.Subscript a b pos) (tOp r ta tb) := by
  intro pins s σ H Q I h
  exact Subscript_ (binT ha hb I h fun v u s2 x y H2 I2 rx ry q => hr a b pins s2 σ H2 x y v u Q I2 rx ry q (hs _ _))
def rIxL (K : W.Frag) : R2 := fun x y H Q => ∃ p xs i v, x = .ref p ∧ y = .int i ∧ SqL K H p xs ∧ atI xs i = some v ∧ Q v H
def rIxT (K : W.Frag) : R2 := fun x y H Q => ∃ p xs i v, x = .ref p ∧ y = .int i ∧ SqT K H p xs ∧ atI xs i = some v ∧ Q v H
def rIxS : R2 := fun x y H Q => ∃ z i c, x = .str z ∧ y = .int i ∧ z.length ≤ sizeLine ∧ atI z.cps.toList i = some c ∧ Q (.str ⟨#[c]⟩) H
theorem ix_list : IxR X (rIxL X.K) := by
  intro value slice pins s σ H x y v u Q I rx ry h hs
  obtain ⟨p, xs, i, z, rfl, rfl, hq, he, q⟩ := h
  cases rx
  obtain ⟨t, rfl⟩ := ry
  obtain ⟨its, r, pl, hz⟩ := I.list hq
  obtain ⟨j, h1, h2, h3, h4, h5⟩ := atI_get he
  obtain ⟨w, ew, rw'⟩ := r.get h2
  have hl := r.length
  have hn := line63
  have fin : EP X pins σ Q w s := ⟨z, H, I, rw', q⟩
  by_cases h0 : 0 ≤ i
  · have hj : i.toNat = j := by
      rw [seqIndex_of h0 h5] at h1
      exact Option.some.inj h1
    exact item_listR pl.isList h0 (by omega) (by rw [hj]; simpa using ew) fin hs
  · have hj : (i + (its.toArray.size : Int)).toNat = j := by
      rw [seqIndex_neg (by omega) h4] at h1
      rw [List.size_toArray, ← hl]
      exact Option.some.inj h1
    exact subscriptTail_builtinR (x := w) pl.isList.typeIs slot_list_getitem.lookup
      (wpAny_getItem_list_neg (Q := fun r s' => r = w ∧ EP X pins σ Q r s') pl.isList (by omega) (by rw [List.size_toArray] <;> omega) (by omega) (by rw [hj]; simpa using ew) ⟨rfl, fin⟩) hs
theorem ix_tup : IxR X (rIxT X.K) := by
  intro value slice pins s σ H x y v u Q I rx ry h hs
  obtain ⟨p, xs, i, z, rfl, rfl, hq, he, q⟩ := h
  cases rx
  obtain ⟨t, rfl⟩ := ry
  obtain ⟨its, r, pl, hz⟩ := I.tuple hq
  obtain ⟨j, h1, h2, h3, h4, h5⟩ := atI_get he
  obtain ⟨w, ew, rw'⟩ := r.get h2
  have hl := r.length
  have hn := line63
  have fin : EP X pins σ Q w s := ⟨z, H, I, rw', q⟩
  exact subscriptTail_builtinR (x := w) pl.typeIs slot_tuple_getitem.lookup
    (getItem_tuple (j := j) (Q := fun r s' => r = w ∧ EP X pins σ Q r s') pl (by omega) (by omega) (by rw [List.size_toArray, ← hl]; exact h1) (by simpa using ew) ⟨rfl, fin⟩) hs
theorem ix_str : IxR X rIxS := by
  intro value slice pins s σ H x y v u Q I rx ry h hs
  obtain ⟨z, i, c, rfl, rfl, hz, he, q⟩ := h
  obtain ⟨t, rfl⟩ := rx
  obtain ⟨t', rfl⟩ := ry
  obtain ⟨j, h1, h2, h3, h4, h5⟩ := atI_get he
  have hl : z.cps.toList.length = z.length := by simp [Str.length]
  rw [hl] at h1 h4 h5
  have hn := line63
  exact tail_any (typeIs_str s z t) slot_str_getitem.lookup (getItem_str (c := c) (by
    have e1 : decide (i < -(2 ^ 63 : Int)) = false := decide_eq_false (by omega)
    have e2 : decide (i ≥ 2 ^ 63) = false := decide_eq_false (by omega)
    rw [e1, e2, Bool.or_false]) (by rw [h1]; simpa using h2) ⟨.str ⟨#[c]⟩, H, I.tok _, ⟨_, rfl⟩, q⟩) hs
def rIx (K : W.Frag) : R2 := fun x y H Q => rIxL K x y H Q ∨ rIxT K x y H Q ∨ rIxS x y H Q
theorem ix_seq : IxR X (rIx X.K) := ix_list.or (ix_tup.or ix_str)
theorem mapSeq_set (its : List Value) (n j : Nat) (u : Value) : Obj.mapSeq (·.setIfInBounds j u) { cls := .type "list", data := .seq its.toArray n } = { cls := .type "list", data := .seq (its.set j u).toArray n } := by
  simp [Obj.mapSeq]
theorem Inv.lst {pins : List (Addr × Obj)} {σ : St} {H : Hp} {s : Shared} {p : Addr} {xs : List V} (I : Inv X pins σ H s) (h : H p = some (.lst xs)) :
    ∃ (its : List Value) (n : Nat), Vals xs its ∧ s.heap.get? p = some { cls := .type "list", data := .seq its.toArray n } ∧ xs.length ≤ sizeLine := by
  obtain ⟨z, its, n, r, e⟩ := I.hok p _ h
  exact ⟨its, n, r, e, z⟩
theorem Inv.lstUpd {pins : List (Addr × Obj)} {σ : St} {H : Hp} {s : Shared} {p : Addr} {xs ys : List V} {its its' : List Value} {n n' : Nat} {f : Obj → Obj} (I : Inv X pins σ H s) (h : H p = some (.lst xs))
    (ho : s.heap.get? p = some { cls := .type "list", data := .seq its.toArray n }) (hf : f { cls := .type "list", data := .seq its.toArray n } = { cls := .type "list", data := .seq its'.toArray n' }) (r : Vals ys its') (hz : ys.length ≤ sizeLine) (t : Nat) :
    Inv X pins σ (upd H p (.lst ys)) { s with heap := s.heap.update p f, toks := t } := by
  have e : (s.heap.update p f).get? p = some { cls := .type "list", data := .seq its'.toArray n' } := by
    rw [Heap.get?_update_self f ho (by rw [hf] <;> rfl), hf]
  refine I.write (x := p) (e := p) (by rw [h]; trivial) (.inl rfl) (fun b u hb q => (Heap.get?_update_other _ _ (Ne.symm hb)).trans q) ⟨_, e⟩ ?_
  exact ⟨hz, its', n', r, e⟩
def rSetL : V → V → V → Hp → (Hp → Prop) → Prop := fun o i v H Q => ∃ p xs k j, o = .ref p ∧ i = .int k ∧ H p = some (.lst xs) ∧ ixN xs.length k = some j ∧ Q (upd H p (.lst (xs.set j v)))
theorem set_list : PSet X rSetL := by
  intro pins s σ H o i v ov iv u Q I ro ri rv h
  obtain ⟨p, xs, k, j, rfl, rfl, hp, hj, q⟩ := h
  cases ro
  obtain ⟨t, rfl⟩ := ri
  obtain ⟨its, n, r, ho, hz⟩ := I.lst hp
  obtain ⟨h1, h2, h3, h4⟩ := ixN_seq hj
  have hl := r.length
  have hn := line63
  have I' : Inv X pins σ (upd H p (.lst (xs.set j v))) { s with heap := s.heap.update p (Obj.mapSeq (·.setIfInBounds j u)) } :=
    I.lstUpd hp ho (mapSeq_set its n j u) (r.set rv j) (by rw [List.length_set]; exact hz) s.toks
  by_cases h0 : 0 ≤ k
  · have hk : k.toNat = j := by
      rw [seqIndex_of h0 h4] at h1
      exact Option.some.inj h1
    exact W.ki_setAt ho h0 (by omega) (by rw [List.size_toArray, ← hl]; exact h4) (by rw [hk]; exact ⟨_, I', q⟩)
  · have hk : (k + (its.toArray.size : Int)).toNat = j := by
      rw [seqIndex_neg (by omega) h3] at h1
      rw [List.size_toArray, ← hl]
      exact Option.some.inj h1
    exact W.ki_setBack ho (by omega) (by rw [List.size_toArray, ← hl]; exact h3) (by omega) (by rw [hk]; exact ⟨_, I', q⟩)
theorem slice_bounds (lo hi : Option Int) (n : Nat) : (sliceBounds lo hi none n).1 = ((HT.sIx n 0 lo : Nat) : Int) ∧ (sliceBounds lo hi none n).2.1 = ((HT.sIx n n hi : Nat) : Int) ∧ (sliceBounds lo hi none n).2.2 = 1 := by
  refine ⟨?_, ?_, rfl⟩
  · cases lo with
    | none => simp [sliceBounds, HT.sIx]
    | some i =>
      simp only [sliceBounds, HT.sIx, Option.getD_none, show (1 : Int) > 0 by decide, if_true]
      by_cases h : i < 0
      · simp only [h, if_true] <;> omega
      · simp only [h, if_false] <;> omega
  · cases hi with
    | none => simp [sliceBounds, HT.sIx]
    | some i =>
      simp only [sliceBounds, HT.sIx, Option.getD_none, show (1 : Int) > 0 by decide, if_true]
      by_cases h : i < 0
      · simp only [h, if_true] <;> omega
      · simp only [h, if_false] <;> omega
theorem slicePick_cut (its : List Value) (lo hi : Option Int) : slicePick its.toArray lo hi none = ((its.drop (HT.sIx its.length 0 lo)).take (HT.sIx its.length its.length hi - HT.sIx its.length 0 lo)).toArray := by
  obtain ⟨h1, h2, h3⟩ := slice_bounds lo hi its.toArray.size
  unfold slicePick
  rw [h1, h2, h3]
  simp only [sliceRange_one, pick_run, List.size_toArray] <;> rfl
def rSlL (K : W.Frag) : V → Option Int → Option Int → Hp → VK → Prop := fun x lo hi H Q => ∃ a xs, x = .ref a ∧ SqL K H a xs ∧ ∀ p, H p = none → Q (.ref p) (upd H p (.lst (cutV xs lo hi)))
theorem sl_list : SlR X (rSlL X.K) := by
  intro pins s σ H x v vl vu lo hi sl Q I rx hs pl pu h
  obtain ⟨a, xs, rfl, hx, q⟩ := h
  cases rx
  obtain ⟨its, r, ht, hz⟩ := I.list hx
  have hlen := r.length
  refine ⟨"list", _, slot_list_getitem.lookup, ht.isList.typeIs, ?_⟩
  refine wpAny_getItem_list_slice ht.isList hs pl pu .none (by simp) ?_ (by rw [List.size_toArray] <;> omega)
  rw [slicePick_cut, ← hlen]
  refine ⟨.ref s.heap.objs.size, _, I.laid (t' := s.toks) (o := .lst (cutV xs lo hi)) (fun b ob q => Heap.get?_push_of_some _ q) (Nat.le_refl _) ?_, rfl, q _ (I.hok.fresh (Nat.le_refl _))⟩
  exact ⟨Nat.le_trans (cutV_length xs lo hi) hz, _, 0, (r.drop (HT.sIx xs.length 0 lo)).take (HT.sIx xs.length xs.length hi - HT.sIx xs.length 0 lo), Heap.get?_push_size _ rfl⟩
theorem call_len_seq : CallR X (.builtin "len") (fun xs H Q => ∃ p ys, xs = [.ref p] ∧ (SqL X.K H p ys ∨ SqT X.K H p ys) ∧ Q (.int ys.length) H) := by
  intro pins s σ H xs us Q I r h
  obtain ⟨p, ys, rfl, hq, q⟩ := h
  obtain ⟨u, rfl, rx⟩ := vals1 r
  cases rx
  have hn := line63
  rcases hq with hq | hq
  · obtain ⟨its, r', pl, hz⟩ := I.list hq
    have hlen := r'.length
    exact Calls.call_len_list pl.isList (by simp only [List.size_toArray] <;> omega) ⟨.int ys.length, H, I.tok _, ⟨s.toks + 1, by rw [List.size_toArray, hlen]⟩, q⟩
  · obtain ⟨its, r', pl, hz⟩ := I.tuple hq
    have hlen := r'.length
    exact len_tuple pl (by simp only [List.size_toArray] <;> omega) ⟨.int ys.length, H, I.tok _, ⟨s.toks + 1, by rw [List.size_toArray, hlen]⟩, q⟩
theorem call_len_str : CallR X (.builtin "len") (fun xs H Q => ∃ z, xs = [.str z] ∧ z.length ≤ sizeLine ∧ Q (.int z.length) H) := by
  intro pins s σ H xs us Q I r h
  obtain ⟨z, rfl, hz, q⟩ := h
  obtain ⟨u, rfl, t, rfl⟩ := vals1 r
  have hn := line63
  exact len_str (by omega) ⟨.int z.length, H, I.tok _, ⟨_, rfl⟩, q⟩
theorem call_list_of : CallR X (.type "list") (fun xs H Q => ∃ p ys, xs = [.ref p] ∧ (SqL X.K H p ys ∨ SqT X.K H p ys) ∧ ∀ l, H l = none → Q (.ref l) (upd H l (.lst ys))) := by
  intro pins s σ H xs us Q I r h
  obtain ⟨p, ys, rfl, hq, q⟩ := h
  obtain ⟨u, rfl, rx⟩ := vals1 r
  cases rx
  have fin : ∀ (its : List Value), Vals ys its → ys.length ≤ sizeLine → ∀ (h' : Heap) (c' : Nat), (∀ b o', s.heap.get? b = some o' → h'.get? b = some o') →
      h'.get? s.heap.objs.size = some { cls := .type "list", dict := none, data := .seq its.toArray c', slots := #[] } → EP X pins σ Q (.ref s.heap.objs.size) { s with heap := h' } := fun its r' hz h' c' kp e =>
    ⟨.ref s.heap.objs.size, _, I.laid (t' := s.toks) kp (Nat.le_refl _) (show ObjOk X.prog X.w _ h' _ (.lst ys) from ⟨hz, its, c', r', e⟩), rfl, q _ (I.hok.fresh (Nat.le_refl _))⟩
  rcases hq with hq | hq
  · obtain ⟨its, r', pl, hz⟩ := I.list hq
    have hlen := r'.length
    obtain ⟨o, ho, hc, n, hd⟩ := pl.isList
    exact call_list_seq p (.inl rfl) ho hc hd (fun h' c' kp e => fin its r' hz h' c' kp e) (by simp only [List.size_toArray] <;> omega)
  · obtain ⟨its, r', pl, hz⟩ := I.tuple hq
    have hlen := r'.length
    obtain ⟨o, ho, hc, n, hd⟩ := pl
    exact call_list_seq p (.inr rfl) ho hc hd (fun h' c' kp e => fin its r' hz h' c' kp e) (by simp only [List.size_toArray] <;> omega)
theorem call_tuple_of : CallR X (.type "tuple") (fun xs H Q => ∃ p ys, xs = [.ref p] ∧ ((SqL X.K H p ys ∧ ∀ l, H l = none → Q (.ref l) (upd H l (.tup ys))) ∨ (SqT X.K H p ys ∧ Q (.ref p) H))) := by
  intro pins s σ H xs us Q I r h
  obtain ⟨p, ys, rfl, h⟩ := h
  obtain ⟨u, rfl, rx⟩ := vals1 r
  cases rx
  rcases h with ⟨hq, q⟩ | ⟨hq, q⟩
  · obtain ⟨its, r', pl, hz⟩ := I.list hq
    have hlen := r'.length
    refine call_tuple_list pl.isList (fun h' kp => ?_) (by simp only [List.size_toArray] <;> omega)
    have I1 : Inv X pins σ H { s with heap := h' } := I.kept (t' := s.toks) kp
    have I2 : Inv X pins σ (upd H h'.objs.size (.tup ys)) { s with heap := h'.push { cls := .type "tuple", data := .seq its.toArray } } :=
      I1.laid (t' := s.toks) (fun b o e => Heap.get?_push_of_some _ e) (Nat.le_refl _) (show ObjOk X.prog X.w _ _ _ (.tup ys) from ⟨hz, its, r', IsTup.new _ _⟩)
    exact ⟨.ref h'.objs.size, _, I2, rfl, q _ (I1.hok.fresh (Nat.le_refl _))⟩
  · obtain ⟨its, r', pl, hz⟩ := I.tuple hq
    exact call_tuple_same pl ⟨.ref p, H, I, rfl, q⟩
def tyV (K : W.Frag) (T : String) (x : V) (H : Hp) : Prop := match x with
  | .str _ => T = "str"
  | .int _ => T = "int"
  | .ref p => (T = "list" ∧ ∃ xs, SqL K H p xs) ∨ (T = "tuple" ∧ ∃ o, K.lookup p = some o ∧ o.cls = .type "tuple" ∧ o.dict = none) ∨
      (T = "dict" ∧ ((∃ kvs, H p = some (.dK kvs)) ∨ ∃ kvs, H p = some (.dT kvs))) ∨ (T = "set" ∧ ∃ S n, H p = some (.set S n))
  | _ => False
theorem tyV_is {pins : List (Addr × Obj)} {σ : St} {H : Hp} {s : Shared} {T : String} {x : V} {v : Value} (I : Inv X pins σ H s) (r : RelV x v) (ty : tyV X.K T x H) :
    s.TypeIs v T ∧ ∀ a, v = .ref a → ∃ ob, s.heap.get? a = some ob ∧ ob.dict = none := by
  cases x with
  | str z =>
    obtain ⟨t, rfl⟩ := r
    cases (show T = "str" from ty)
    exact ⟨typeIs_str s z t, fun _ e => nomatch e⟩
  | int i =>
    obtain ⟨t, rfl⟩ := r
    cases (show T = "int" from ty)
    exact ⟨typeIs_int s i t, fun _ e => nomatch e⟩
  | ref p =>
    cases r
    rcases ty with ⟨rfl, xs, hq⟩ | ⟨rfl, o, hk, hc, hd⟩ | ⟨rfl, hk⟩ | ⟨rfl, S, n, hk⟩
    · obtain ⟨its, _, pl, _⟩ := I.list hq
      refine ⟨pl.isList.typeIs, fun a e => ?_⟩
      cases e
      obtain ⟨o, n, e, c, hd, _⟩ := pl
      exact ⟨o, e, hd⟩
    · refine ⟨⟨o, I.kIn p o hk, hc⟩, fun a e => ?_⟩
      cases e
      exact ⟨o, I.kIn _ o hk, hd⟩
    · have z : ∃ o, s.heap.get? p = some o ∧ o.ExactDict := by
        rcases hk with ⟨kvs, hk⟩ | ⟨kvs, hk⟩
        · obtain ⟨_, _, _, _, o, _, _, e, ex, _⟩ := I.hok p _ hk
          exact ⟨o, e, ex⟩
        · obtain ⟨_, _, _, _, o, _, _, e, ex, _⟩ := I.hok p _ hk
          exact ⟨o, e, ex⟩
      obtain ⟨o, e, ex⟩ := z
      refine ⟨⟨o, e, ex.1⟩, fun a e2 => ?_⟩
      cases e2
      exact ⟨o, e, ex.2.1⟩
    · obtain ⟨o, _, _, _, e, ex, _⟩ := I.hok p _ hk
      refine ⟨⟨o, e, ex.1⟩, fun a e2 => ?_⟩
      cases e2
      exact ⟨o, e, ex.2.1⟩
  | _ => exact False.elim ty
def tBM0 (K : W.Frag) (T : String) (r : V → List V → Hp → VK → Prop) (to : TE) : TE := fun σ H Q => to σ H fun x H1 => tyV K T x H1 ∧ r x [] H1 Q
variable {o e : Expr} {es : List Expr} {to : TE} {t : TA} {name : Str} {apos cpos : Pos} {T id : String} {r : V → List V → Hp → VK → Prop}
theorem pe_bm0 (pa : PlainAttrs T) (slot : Slot T name id) (hty : typeOf (.builtin id) = pure (.type "method_descriptor")) (hm : MtR X id r) (ho : PE X o to)
    (hbase : attributeBase o name X.env (eval o X.env) = eval o X.env := by rfl) (hline : (apos.endLine == cpos.line) = true := by rfl) : PE X (.Call (.Attribute o name apos) [] [] cpos) (tBM0 X.K T r to) := by
  intro pins s σ H Q I h
  refine wpAny_Call_method0_late hbase hline (thn (ho pins s σ H _ I h) fun v s1 ⟨x, H1, I1, r1, ty, q1⟩ => ?_)
  obtain ⟨h1, h2⟩ := tyV_is I1 r1 ty
  exact ⟨T, id, pa, slot, hty, h1, h2, Calls.callWith_builtin rfl (PySem.evalArgs_none (hm pins s1 σ H1 x [] v [] Q I1 r1 .nil q1))⟩
/- xs.append(e), list.index on a module's tuple .. are MtR facts of 06m -/
end
end L2
namespace L2
open PySem PySem.Spec PyProof.Rows
def MtM (X : Cx) (id : String) (r : V → List V → Hp → VK → Prop) : Prop :=
  ∀ (pins : List (Addr × Obj)) (s : Shared) (σ : St) (H : Hp) (x : V) (xs : List V) (v : Value) (us : List Value) (Q : VK), Inv X pins σ H s → RelV x v → Vals xs us → r x xs H Q →
    wpAny (model X.prog X.w) X.A (call (.builtin id) (v :: us)) (EP X pins σ Q) X.xe s
theorem Vals.zero : ∀ {us : List Value}, Vals [] us → us = []
  | _, .nil => rfl
theorem Vals.dropLast {xs : List V} {us : List Value} (h : Vals xs us) : Vals xs.dropLast us.dropLast := by
  induction h with
  | nil => exact .nil
  | cons r t ih =>
    cases t with
    | nil => exact .nil
    | cons q t' => exact .cons r ih
theorem erase_last {α : Type} (l : List α) : l.eraseIdx (l.length - 1) = l.dropLast := by
  induction l with
  | nil => rfl
  | cons a r ih =>
    cases r with
    | nil => rfl
    | cons b r =>
      have e : (a :: b :: r).length - 1 = ((b :: r).length - 1) + 1 := by
        have h1 : (a :: b :: r).length = r.length + 2 := rfl
        have h2 : (b :: r).length = r.length + 1 := rfl
        omega
      rw [e, List.eraseIdx_cons_succ, ih]
      all_goals rfl
section
variable {X : Cx} {pins : List (Addr × Obj)} {σ : St} {H : Hp} {s : Shared} {l b : Addr} {xs ys zs : List V}
theorem Inv.lset {its its' : List Value} {n : Nat} {f : Array Value → Array Value} {t' : Nat} (I : Inv X pins σ H s) (hH : H l = some (.lst xs))
    (e : s.heap.get? l = some { cls := .type "list", data := .seq its.toArray n }) (hf : f its.toArray = its'.toArray) (hv : Vals ys its') (hz : ys.length ≤ sizeLine) :
    Inv X pins σ (upd H l (.lst ys)) { s with heap := s.heap.update l (Obj.mapSeq f), toks := t' } := by
  have q := PySem.IsL.update e f
  rw [hf] at q
  refine I.write (x := l) (e := l) (by rw [hH]; exact trivial) (.inl rfl) (fun b' u hb hu => (Heap.get?_update_other s.heap (Obj.mapSeq f) (Ne.symm hb)).trans hu) ⟨_, q⟩ ?_
  exact ⟨hz, its', _, hv, q⟩
theorem Inv.lnew {its : List Value} {t' : Nat} (I : Inv X pins σ H s) (hv : Vals ys its) (hz : ys.length ≤ sizeLine) :
    Inv X pins σ (upd H s.heap.objs.size (.lst ys)) { s with heap := s.heap.push { cls := .type "list", data := .seq its.toArray }, toks := t' } :=
  I.laid (fun _ _ q => Heap.get?_push_of_some _ q) (Nat.le_refl _) ⟨hz, its, 0, hv, Heap.get?_push_size _ rfl⟩
theorem Inv.fresh (I : Inv X pins σ H s) : H s.heap.objs.size = none := I.hok.fresh (Nat.le_refl _)
theorem Inv.lstM (I : Inv X pins σ H s) (hH : H l = some (.lst xs)) : xs.length ≤ sizeLine ∧ ∃ (its : List Value) (n : Nat), Vals xs its ∧ xs.length = its.length ∧ s.heap.get? l = some { cls := .type "list", data := .seq its.toArray n } := by
  obtain ⟨z, its, n, r, e⟩ := I.hok l _ hH
  exact ⟨z, its, n, r, r.length, e⟩
end
section
variable {X : Cx}
def rPop : V → List V → Hp → VK → Prop := fun x vs H Q => ∃ l xs y, x = .ref l ∧ vs = [] ∧ H l = some (.lst xs) ∧ xs[xs.length - 1]? = some y ∧ Q y (upd H l (.lst xs.dropLast))
theorem mt_pop : MtM X "list.pop" rPop := by
  intro pins s σ H x vs v us Q I rx rv h
  obtain ⟨l, xs, y, rfl, rfl, hH, hy, q⟩ := h
  cases rx
  have hus := rv.zero
  subst hus
  obtain ⟨z, its, n, r, hl, e⟩ := I.lstM hH
  obtain ⟨u, hu, ru⟩ := r.get hy
  have hy' : its.toArray[its.toArray.size - 1]? = some u := by
    show its.toArray[its.length - 1]? = some u
    rw [← Array.getElem?_toList, ← hl]
    exact hu
  refine call_meets F.slot_list_pop ⟨_, e, rfl⟩ F.entry_list_pop (F.args_list_pop_1 _) (MeetsSeq.list_pop_last l its.toArray n u hy' (by rw [List.size_toArray]; omega)) ⟨e, ?_⟩
  refine ⟨y, _, I.lset (its' := its.dropLast) hH e ?_ r.dropLast ?_, ru, q⟩
  · show its.toArray.eraseIdxIfInBounds (its.toArray.size - 1) = its.dropLast.toArray
    rw [List.size_toArray, List.eraseIdxIfInBounds_toArray, erase_last]
  · rw [List.length_dropLast]
    omega
def rCat : R2 := fun x y H Q => ∃ l b xs zs, x = .ref l ∧ y = .ref b ∧ H l = some (.lst xs) ∧ H b = some (.lst zs) ∧ xs.length + zs.length ≤ sizeLine ∧ ∀ p, H p = none → Q (.ref p) (upd H p (.lst (xs ++ zs)))
theorem op_cat : OpR X (binaryOp .Add) rCat := by
  intro pins s σ H x y v u Q I rx ry h
  obtain ⟨l, b, xs, zs, rfl, rfl, hH, hB, hz, q⟩ := h
  cases rx
  cases ry
  obtain ⟨z, its, n, r, hl, e⟩ := I.lstM hH
  obtain ⟨z2, its2, n2, r2, hl2, e2⟩ := I.lstM hB
  refine PySem.P.add_list e e2 ?_ (by rw [List.size_toArray, List.size_toArray]; omega)
  have ea : its.toArray ++ its2.toArray = (its ++ its2).toArray := by simp
  rw [ea]
  exact ⟨.ref _, _, I.lnew (t' := s.toks) (r.append r2) (by rw [List.length_append]; omega), rfl, q _ I.fresh⟩
end
section
variable {prog : Program} {w : World} {A : Around} {E : Value → Shared → Prop} {s : Shared}
end
section
variable {X : Cx}
end
end L2
namespace Att
open PySem PySem.W PySem.Calls PyProof.Rows
theorem ints_of_wellAll {P : Params} {h : Heap} : ∀ (ns : List Int) (vs : List Value), WellAll P h vs (ns.map WData.int) → IntsAre vs ns := by
  intro ns
  induction ns with
  | nil =>
    intro vs w
    rw [List.map_nil] at w
    cases w
    exact .nil
  | cons n ns ih =>
    intro vs w
    rw [List.map_cons] at w
    cases w with
    | cons a b =>
      cases a
      exact .cons _ _ (ih _ b)
theorem script_of {l : OpenLaw} {n : Nat} (hn : l.most = some n) {P : Params} {h : Heap} {args : List WData} {vals : List Value}
    (hpre : l.row.toRowW.claim.pre args = true) (hwl : WellAll P h vals args) :
    ∃ a vs ns, vals = [Value.ref a] ∧ args = [WData.list (ns.map WData.int)] ∧ h.get? a = some { cls := .type "list", data := .seq vs.toArray } ∧ IntsAre vs ns ∧ ns.length ≤ n := by
  have hsh : WShape.hasAll [] args [.list .int] = true := (pre_splitW hpre).1
  have hc : l.pre.holds [] { args := args } = true := (pre_splitW hpre).2
  obtain ⟨d, r, rfl, h1, h2⟩ := hasAllW_cons hsh
  obtain rfl := hasAllW_nil h2
  obtain ⟨xs, rfl, h3⟩ := hasW_list h1
  obtain ⟨ns, rfl⟩ := items_int h3
  have hlen : ns.length ≤ n := by
    unfold OpenLaw.pre at hc
    have h4 : (WTm.not (.lt (.lit (.int (n : Int))) (.len (.arg 0)))).holds [] { args := [.list (ns.map .int)] } = true := by
      have h4 := (holds_andW hc).1
      rw [hn] at h4
      exact h4
    have h5 := condW_of h4 (w_not (w_lt w_lit (w_len_list (w_arg rfl))))
    rw [List.length_map] at h5
    refine Nat.le_of_not_lt fun q => ?_
    have q' : (n : Int) < ((ns.length : Nat) : Int) := by omega
    first
      | (rw [decide_eq_true q'] at h5; exact absurd h5 (by decide))
      | (simp at h5; omega)
  cases hwl with
  | cons w1 w2 =>
    cases w2
    cases w1 with
    | list ho hall => exact ⟨_, _, ns, rfl, rfl, ho, ints_of_wellAll ns _ hall, hlen⟩
theorem post_true (l : OpenLaw) (args : List WData) : l.row.toRowW.claim.post args (.bool true) args = true :=
  postW_of (r := l.row.toRowW) (X := (true == true))
    (show WShape.has [] (.bool true) .bool = true by first | rfl | decide | simp [WShape.has, WShape.arms, WShape.armsAll])
    (show (WTm.eq .res (.lit (.bool true))).value [] { args := args, res := some (.bool true), after := args } = some (.bool (true == true)) from w_eq_bool (w_res rfl) w_lit) rfl
theorem attach_call {l : OpenLaw} {n : Nat} {q : Program} {loose : List Str} {XP : (Str → Option Value) → Heap → Prop} {YP : World → Heap → Prop} {d : DefRec}
    (hn : l.most = some n) (hdf : d.params.defaults = [])
    (call : ∀ (w : World) (s₀ s₁ : Shared) (mg mb : Str → Option Value) (fa : Addr) (o : Obj) (pm cd doc : Value) (a : Addr) (vs : List Value) (ns : List Int),
      Ground q loose [] XP w s₀ mg mb s₁.heap → YP w s₁.heap →
      s₁.heap.get? fa = some o → o.data = .func (docDef d.name d.params d.body d.scope pm cd doc) → s₁.heap.CodeRec cd d.name → mg d.name = some (.ref fa) →
      s₁.heap.get? a = some { cls := .type "list", data := .seq vs.toArray } → IntsAre vs ns → ns.length ≤ n → s₁.gens = #[] →
      codeAny (model l.prog w) callerA (.call (.ref fa) ⟨[.ref a], []⟩) (fun r s' => r = .ok (.ret (.bool true)) ∧ OldK s₁.heap s'.heap ∧ s'.os = s₁.os ∧ AllBare s'.gens) s₁) :
    WalkO q loose XP YP l.row.toRowW d [] (fun f vs => PySem.call f vs) := by
  intro w s₀ s₁ mg mb G Y fa o pm cd doc dV kV ho hd hcd hD hmg hg args vals as hpre hlay hrd hwl hlo
  obtain rfl : dV = .none := Dflts.none hD hdf
  obtain rfl : kV = .none := Dflts.noKw hD
  obtain ⟨a, vs, ns, rfl, rfl, hobj, hints, hlen⟩ := script_of hn hpre hwl
  refine enter_call (codeAny_mono (call w s₀ s₁ mg mb fa o pm cd doc a vs ns G Y ho (fd_plain hd) hcd hmg hobj hints hlen hg) fun r s' hq => ?_)
  obtain ⟨rfl, h2, h3, h4⟩ := hq
  exact ⟨.inl ⟨.bool true, .bool true, [], rfl, fun _ => rfl, .bool true, post_true l _, fun _ => ⟨List.Pairwise.nil, fun _ hm => (nomatch hm)⟩⟩, h2, h3, h4⟩
section
variable {prog : Program} {w : World} {A : Around} {E : Value → Shared → Prop} {s : Shared} {K : Frag}
end
end Att
namespace L2
open PySem PySem.Spec PyProof.Rows
theorem vals_ints : ∀ {vs : List Value} {ns : List Int}, IntsAre vs ns → Vals (ns.map V.int) vs
  | _, _, .nil => .nil
  | _, _, .cons n t h => .cons ⟨t, rfl⟩ (vals_ints h)
def Only (H : Hp) : Prop := ∀ b, H b = none ∨ ∃ o xs, H b = some (.frz o (.lst xs))
theorem law_call {P : Program} {w : World} {K : W.Frag} {mg mb : Str → Option Value} {CX : CXT} {k : Nat} {fa a : Addr} {fd : FuncData} {x : Str} {sp : Sp} {s₁ : Shared} {vs : List Value} {ns : List Int}
    (KX : K.In s₁.heap) (hns : s₁.heap.Ns mainGlobals mg) (hb : s₁.heap.Ns builtinsNs mb) (hbb : ∀ x : Str, x ≠ "__name__" → mb x = bootBuiltins x) (hlim : s₁.heap.NoLimit) (hg : s₁.gens = #[])
    (ha : s₁.heap.get? a = some { cls := .type "list", data := .seq vs.toArray }) (hi : IntsAre vs ns) (hl : ns.length ≤ sizeLine) (hr : Room k callerA)
    (F : ∀ base : Heap, K.In base → base.Ns mainGlobals mg → FnOk P w K mg base CX k fa fd [x] sp) (hbind : ∀ (s : Shared) (u : Value), BindsTo s fd ⟨[u], []⟩ [(x, u)])
    (hsp : ∀ H : Hp, Only H → SqL K H a (ns.map V.int) → sp [.ref a] H (fun v _ => v = .bl true) fun _ _ _ => False)
    (hCX : ∀ H e s', CX [] H s₁ (fun _ _ _ => False) e s' → False) :
    codeAny (model P w) callerA (.call (.ref fa) ⟨[.ref a], []⟩) (fun r s' => r = .ok (.ret (.bool true)) ∧ OldK s₁.heap s'.heap ∧ s'.os = s₁.os ∧ AllBare s'.gens) s₁ := by
  have rv := vals_ints hi
  have lenV := hi.length
  -- from an abstract heap in which nothing but the script may be tracked
  have core : ∀ H : Hp, Only H → SqL K H a (ns.map V.int) → HOk P w H s₁.heap → (∀ b, H b ≠ none → b = a) → (H a ≠ none → K.lookup a = none) →
      codeAny (model P w) callerA (.call (.ref fa) ⟨[.ref a], []⟩) (fun r s' => r = .ok (.ret (.bool true)) ∧ OldK s₁.heap s'.heap ∧ s'.os = s₁.os ∧ AllBare s'.gens) s₁ := by
    intro H hO hS hok hA hK
    have base_of : ∀ {b : Addr} {o : Obj}, s₁.heap.get? b = some o → H b = none → (hidT s₁.heap H).get? b = some o := fun e n => hidT_get e n
    have noA : ∀ {b : Addr} {o : Obj} {es : Array DictEntry} {ep : Nat}, s₁.heap.get? b = some o → o.data = .dict es ep → H b = none := fun {b o es ep} e d => by
      cases q : H b with
      | none => rfl
      | some u =>
        have e' : b = a := hA b (by rw [q]; simp)
        subst e'
        rw [ha] at e; cases e
        have d' : Data.seq vs.toArray _ = Data.dict es ep := d
        cases d'
    have nsK : ∀ {b : Addr} {m : Str → Option Value}, s₁.heap.Ns b m → (hidT s₁.heap H).Ns b m := fun {b m} ⟨o, es, ep, e, d, r⟩ => ⟨o, es, ep, base_of e (noA e d), d, r⟩
    have hKb : K.In (hidT s₁.heap H) := fun b o e => base_of (KX b o e) (by
      cases q : H b with
      | none => rfl
      | some u =>
        have e' : b = a := hA b (by rw [q]; simp)
        subst e'
        rw [hK (by rw [q]; simp)] at e; cases e)
    have hM : Mod K mg (hidT s₁.heap H) := ⟨hKb, nsK hns, ⟨mb, nsK hb, hbb⟩, let ⟨mc, h1, h2⟩ := hlim; ⟨mc, nsK h1, h2⟩⟩
    have e0 : Env0 P w K mg (hidT s₁.heap H) callerA [] s₁ H := ⟨rfl, hM, fun b o e => of_hidT e, Nat.le_of_eq (hidT_size _ _), trivial, fun b hb => absurd (show b ∈ ([] : List Addr) from hb) (by simp), hok, .of_eq hg⟩
    refine codeAny_mono ((F _ hKb (nsK hns)).run callerA [] s₁ H ⟨[.ref a], []⟩ [.ref a] [.ref a] _ _ hr e0 (hbind s₁ (.ref a)) (.cons rfl .nil) (hsp H hO hS)) fun r s' h => ?_
    cases r with
    | error e => exact (hCX H e s' h).elim
    | ok fl =>
      cases fl with
      | next => exact False.elim h
      | brk => exact False.elim h
      | cont => exact False.elim h
      | ret u =>
        obtain ⟨v, H', os, bare, un, hok', r', q⟩ := h
        have q' : v = .bl true := q
        subst q'
        obtain rfl : u = Value.bool true := r'
        refine ⟨rfl, OldK.of_keep fun b o e => ?_, os, bare⟩
        cases q : H b with
        | none => exact un.keep b o e q (by intro z; exact absurd (show b ∈ ([] : List Addr) from z) (by simp)) (by simp)
        | some u =>
          rcases hO b with z | ⟨ob, xs, z⟩
          · rw [q] at z; cases z
          · have z2 := un.frzs b ob _ z
            obtain ⟨e1, _⟩ := hok b _ z
            obtain ⟨e2, _⟩ := hok' b _ z2
            rw [e] at e1; cases e1
            exact e2
  cases hk : K.lookup a with
  | some o =>
    -- the script is one of the module's own objects
    have e := KX a o hk
    rw [ha] at e
    cases e
    refine core (fun _ => none) (fun _ => .inl rfl) (.inr ⟨_, vs.toArray, _, hk, rfl, rfl, rfl, by rw [List.size_toArray, lenV]; exact hl, by simpa using rv⟩) (fun b u z => by have z' : (none : Option HO) = some u := z; cases z') (fun b z => absurd rfl z) fun z => absurd rfl z
  | none =>
    refine core (fun b => if b = a then some (.frz { cls := .type "list", data := .seq vs.toArray } (.lst (ns.map V.int))) else none) (fun b => ?_) (.inl (.inr ⟨{ cls := .type "list", data := .seq vs.toArray }, if_pos rfl⟩)) (fun b u z => ?_) (fun b z => ?_) fun _ => hk
    · by_cases hb : b = a
      · exact .inr ⟨_, _, if_pos hb⟩
      · exact .inl (if_neg hb)
    · by_cases hb : b = a
      · have z' := (if_pos hb).symm.trans z
        cases z'
        subst hb
        exact ⟨ha, by rw [List.length_map]; exact hl, vs, _, rv, ha⟩
      · have z' := (if_neg hb).symm.trans z
        cases z'
    · by_cases hb : b = a
      · exact hb
      · exact absurd (if_neg hb) z
end L2
namespace L2
open PySem PySem.Spec PyProof.Rows
theorem walk_of {l : W.OpenLaw} {n k : Nat} {q : Program} {loose : List Str} {XP : (Str → Option Value) → Heap → Prop} {YP : World → Heap → Prop} {d : DefRec} {K : Params → W.Frag} {CX : World → CXT} {sp : World → Sp} {x : Str}
    (hn : l.most = some n) (hn2 : n ≤ sizeLine) (hdf : d.params.defaults = []) (hr : Room k callerA)
    (hY : ∀ (w : World) (h : Heap), YP w h → (K w.params).In h)
    (F : ∀ (w : World) (mg : Str → Option Value) (fa : Addr) (h : Heap), (K w.params).In h → h.Ns mainGlobals mg → mg d.name = some (.ref fa) →
      ∃ fd : FuncData, (∀ (s : Shared) (u : Value), BindsTo s fd ⟨[u], []⟩ [(x, u)]) ∧
        ∀ base : Heap, (K w.params).In base → base.Ns mainGlobals mg → FnOk l.prog w (K w.params) mg base (CX w) k fa fd [x] (sp w))
    (hsp : ∀ (w : World) (H : Hp) (a : Addr) (ns : List Int), ns.length ≤ n → Only H → SqL (K w.params) H a (ns.map V.int) → sp w [.ref a] H (fun v _ => v = .bl true) fun _ _ _ => False)
    (hCX : ∀ (w : World) (H : Hp) (s : Shared) (e : Value) (s' : Shared), CX w [] H s (fun _ _ _ => False) e s' → False) :
    W.WalkO q loose XP YP l.row.toRowW d [] (fun f vs => PySem.call f vs) := by
  refine Att.attach_call hn hdf fun w s₀ s₁ mg mb fa o pm cd doc a vs ns G Y ho hd hcd hmg hobj hints hlen hg => ?_
  have KX := hY w _ Y
  obtain ⟨fd, hb, hF⟩ := F w mg fa _ KX G.T.g hmg
  exact law_call KX G.T.g G.T.b G.T.builtins G.T.nolimit hg hobj hints (Nat.le_trans hlen hn2) hr hF hb (fun H hO hS => hsp w H a ns hlen hO hS) fun H e s' => hCX w H s₁ e s'
end L2
namespace L2
open PySem PySem.Spec PyProof.Rows
def inClass (s : Stmt) (j : Nat) : Stmt := match s with
  | .ClassDef _ _ _ body _ _ _ _ _ _ _ => body.getD j (.Pass ⟨0, 0, 0, 0⟩)
  | _ => .Pass ⟨0, 0, 0, 0⟩
def defArgs (s : Stmt) : Arguments := match s with
  | .FunctionDef _ a _ _ _ _ _ _ _ _ => a
  | _ => { posonlyargs := [], args := [], vararg := none, kwonlyargs := [], kw_defaults := [], kwarg := none, defaults := [] }
def defBody (s : Stmt) : List Stmt := match s with
  | .FunctionDef _ _ b _ _ _ _ _ _ _ => b
  | _ => []
def defScope (s : Stmt) : Scope := match s with
  | .FunctionDef _ _ _ _ _ _ sc _ _ _ => sc
  | _ => { kind := .function, names := [], isGenerator := false, isCoroutine := false }
abbrev CX0 : CXT := fun _ _ _ _ _ _ => False
abbrev E0 : XK := fun _ _ _ => False
theorem pass0 {X : Cx} : Passes CX0 X E0 := fun _ _ _ _ _ _ _ h => h.elim
structure Fun (K : W.Frag) (x qual : Str) (st : Stmt) (f : Addr) (fd : FuncData) : Prop where
  ex : ∃ (oc : Value) (od : Option Addr) (kV doc pm : Value) (an : Option Addr) (cdv ct : Value) (osl : Array (Option Value)),
    fd = W.fnOf x qual (defArgs st) (defBody st) (defScope st) .none kV doc pm an cdv ct ∧ K.lookup f = some ⟨oc, od, .func fd, osl⟩ ∧ W.codeIn K cdv qual = true
  kp : W.keepIn K (.ref f) = true
section
variable {P : Program} {w : World} {K : W.Frag} {mg : Str → Option Value} {base : Heap}
theorem Fun.ok {x qual : Str} {st : Stmt} {f : Addr} {fd : FuncData} {N ps : List Str} {k : Nat} {sp : Sp} (F : Fun K x qual st f fd) (S : FnScope N ps (defScope st)) (len : ∀ vs H Q E, sp vs H Q E → vs.length = ps.length)
    (hbody : ∀ (cdv : Value) (A : Around) (outer : List Env) (s : Shared) (H : Hp) (vs : List V) (Q : VK) (E : XK), Room k (A.deeper (envOfC qual (defScope st) s.heap.objs.size f cdv)) → sp vs H Q E →
      ∃ t, PSs (cxOf CX0 P w K mg base N qual (defScope st) f cdv A outer s H E).nox (defBody st) t ∧ t { nx := fun _ H' => Q .non H', rt := Q } (start N vs) H) : FnOk P w K mg base CX0 (k + 1) f fd ps sp := by
  obtain ⟨oc, od, kV, doc, pm, an, cdv, ct, osl, rfl, lk, hcd⟩ := F.ex
  refine fn_of lk hcd S len fun A outer s H vs Q E hr hsp => ?_
  obtain ⟨t, h, q⟩ := hbody cdv A outer s H vs Q E hr hsp
  exact ⟨t, h.nox, q⟩
theorem Fun.binds {x qual : Str} {st : Stmt} {f : Addr} {fd : FuncData} {ps : List Str} (F : Fun K x qual st f fd)
    (h : ∀ (kV doc pm : Value) (an : Option Addr) (cdv ct : Value) (us : List Value), us.length = ps.length → bindArgs (W.fnOf x qual (defArgs st) (defBody st) (defScope st) .none kV doc pm an cdv ct) ⟨us, []⟩ = pure (ps.zip us)) : Binds K fd ps [] := by
  obtain ⟨oc, od, kV, doc, pm, an, cdv, ct, osl, rfl, lk, hcd⟩ := F.ex
  exact .all (h kV doc pm an cdv ct)
theorem fun_mk {x qual : Str} {st : Stmt} {f : Addr} {oc : Value} {od an : Option Addr} {osl : Array (Option Value)} {kV doc pm cdv ct : Value} (l : K.lookup f = some ⟨oc, od, .func (W.fnOf x qual (defArgs st) (defBody st) (defScope st) .none kV doc pm an cdv ct), osl⟩)
    (c : W.codeIn K cdv qual = true) (k : W.keepIn K (.ref f) = true) : Fun K x qual st f (W.fnOf x qual (defArgs st) (defBody st) (defScope st) .none kV doc pm an cdv ct) := ⟨⟨oc, od, kV, doc, pm, an, cdv, ct, osl, rfl, l, c⟩, k⟩
end
theorem hu_of {A : Around} {k : Nat} (hr : Room k A) : A.units + 1 < cLine := Nat.lt_of_le_of_lt (Nat.add_le_add_left (by decide : 1 ≤ 64) _) hr.units
section
variable {X : Cx}
theorem pv (i : Nat) {x : Str} {pos : Pos} (hN : X.N[i]? = some x := by rfl) (hv : Vis X.env.scope x := by first | exact Or.inl rfl | exact Or.inr (Or.inl rfl) | exact Or.inr (Or.inr rfl)) (hd : (x == ("__debug__" : Str)) = false := by decide)
    (hcd : (x == ("__classdict__" : Str)) = false := by decide) : PE X (.Name x pos) (tVar i) := pe_var hN hv hd hcd
end
def Same (H H' : Hp) : Prop := ∀ b o, H b = some o → H' b = some o
theorem Same.refl (H : Hp) : Same H H := fun _ _ h => h
theorem Same.trans {H H1 H2 : Hp} (a : Same H H1) (b : Same H1 H2) : Same H H2 := fun c o h => b c o (a c o h)
theorem Same.free {H H' : Hp} (e : Same H H') {l : Addr} (h : H' l = Option.none) : H l = Option.none := by
  cases q : H l with
  | none => rfl
  | some o =>
    rw [e l o q] at h
    cases h
end L2
namespace L2
open PySem PySem.Spec PyProof.Rows
section
variable {κ : Type} [DecidableEq κ]
def valV (kvs : List (κ × V)) (k : κ) : Option V := (kvs.find? fun kv => decide (kv.1 = k)).map (·.2)
def putK (kvs : List (κ × V)) (k : κ) (v : V) : List (κ × V) :=
  if (kvs.any fun kv => decide (kv.1 = k)) = true then kvs.map (fun kv => if kv.1 = k then (kv.1, v) else kv) else kvs ++ [(k, v)]
theorem valV_pos {p : κ × V} {r : List (κ × V)} {k : κ} (e : p.1 = k) : valV (p :: r) k = some p.2 := by simp [valV, List.find?_cons, e]
theorem valV_neg {p : κ × V} {r : List (κ × V)} {k : κ} (e : ¬ p.1 = k) : valV (p :: r) k = valV r k := by simp [valV, List.find?_cons, e]
theorem valV_any (k : κ) : ∀ kvs : List (κ × V), (kvs.any fun kv => decide (kv.1 = k)) = (valV kvs k).isSome
  | [] => rfl
  | p :: r => by
    rw [List.any_cons]
    by_cases e : p.1 = k
    · simp only [valV_pos e, decide_eq_true e, Bool.true_or, Option.isSome_some]
    · rw [valV_neg e, decide_eq_false e, Bool.false_or]; exact valV_any k r
theorem length_putK (kvs : List (κ × V)) (k : κ) (v : V) : (putK kvs k v).length ≤ kvs.length + 1 := by
  unfold putK
  split
  · rw [List.length_map]; omega
  · rw [List.length_append, List.length_cons, List.length_nil]; omega
theorem RelO.isSome_eq {o : Option V} {u : Option Value} (r : RelO o u) : o.isSome = u.isSome := by
  cases o with
  | none => cases u with
    | none => rfl
    | some _ => exact (show False from r).elim
  | some _ => cases u with
    | none => exact (show False from r).elim
    | some _ => rfl
theorem RelO.getD {o : Option V} {u : Option Value} {d : V} {d' : Value} (r : RelO o u) (rd : RelV d d') : RelV (o.getD d) (u.getD d') := by
  cases o with
  | none => cases u with
    | none => exact rd
    | some _ => exact (show False from r).elim
  | some _ => cases u with
    | none => exact (show False from r).elim
    | some _ => exact r
theorem KV.val {kvs : List (κ × V)} {vs : List (κ × Value)} (r : KV kvs vs) (k : κ) : RelO (valV kvs k) (valueAt vs k) := by
  unfold KV at r
  induction r with
  | nil => exact True.intro
  | @cons p q ps qs h t ih =>
    obtain ⟨h1, h2⟩ := h
    by_cases e : p.1 = k
    · have e' : q.1 = k := h1.symm.trans e
      have b : valueAt (q :: qs) k = some q.2 := by simp [valueAt, List.find?_cons, e']
      rw [valV_pos e, b]; exact h2
    · have e' : ¬ q.1 = k := fun z => e (h1.trans z)
      have b : valueAt (q :: qs) k = valueAt qs k := by simp [valueAt, List.find?_cons, e']
      rw [valV_neg e, b]; exact ih
theorem KV.any {kvs : List (κ × V)} {vs : List (κ × Value)} (r : KV kvs vs) (k : κ) : (kvs.any fun kv => decide (kv.1 = k)) = vs.any fun kv => decide (kv.1 = k) := by
  unfold KV at r
  induction r with
  | nil => rfl
  | cons h t ih => rw [List.any_cons, List.any_cons, ih, h.1]
theorem KV.repl {kvs : List (κ × V)} {vs : List (κ × Value)} (r : KV kvs vs) (k : κ) {y : V} {u : Value} (ry : RelV y u) :
    KV (kvs.map fun kv => if kv.1 = k then (kv.1, y) else kv) (vs.map fun kv => if kv.1 = k then (kv.1, u) else kv) := by
  unfold KV at r ⊢
  induction r with
  | nil => exact .nil
  | @cons p q ps qs h t ih =>
    rw [List.map_cons, List.map_cons]
    refine .cons ?_ ih
    obtain ⟨h1, h2⟩ := h
    by_cases e : p.1 = k
    · rw [if_pos e, if_pos (h1.symm.trans e)]; exact ⟨h1, ry⟩
    · rw [if_neg e, if_neg (fun z => e (h1.trans z))]; exact ⟨h1, h2⟩
theorem KV.put {kvs : List (κ × V)} {vs : List (κ × Value)} (r : KV kvs vs) (k : κ) {y : V} {u : Value} (ry : RelV y u) : KV (putK kvs k y) (stored vs k u) := by
  unfold putK stored
  rw [r.any k]
  by_cases e : (vs.any fun kv => decide (kv.1 = k)) = true
  · rw [if_pos e, if_pos e]; exact r.repl k ry
  · rw [if_neg e, if_neg e]; exact Paired.snoc r ⟨rfl, ry⟩
theorem KV.length {kvs : List (κ × V)} {vs : List (κ × Value)} (r : KV kvs vs) : kvs.length = vs.length := Paired.length r
end
theorem kV_is {P : Program} {w : World} {k : Key} {u : Value} (r : RelV (kV k) u) : (mixKind P w).is k u = true := by
  cases k with
  | inl i => obtain ⟨t, e⟩ := (show ∃ t, u = Value.int i t from r); subst e; exact mixKind_int P w i t
  | inr x => obtain ⟨t, e⟩ := (show ∃ t, u = Value.str x t from r); subst e; exact mixKind_str P w x t
theorem items_are {P : Program} {w : World} : ∀ {ks : List Key} {us : List Value}, Vals (ks.map kV) us → ItemsAre (mixKind P w) ks us
  | [], _, r => by rw [List.map_nil] at r; cases r; exact .nil
  | k :: ks, _, r => by
    rw [List.map_cons] at r
    cases r with
    | cons h t => exact .cons (kV_is h) (items_are t)
abbrev KT (H : Hp) : List (List Key × V) → List (List Key × Addr × Value) → Prop := Paired fun p q => p.1 = q.1 ∧ H q.2.1 = some (.tup (p.1.map kV)) ∧ RelV p.2 q.2.2
theorem KT.val {H : Hp} {kvs : List (List Key × V)} {xs : List (List Key × Addr × Value)} (r : KT H kvs xs) (k : List Key) : RelO (valV kvs k) ((atKey xs k).map (·.2)) := by
  induction r with
  | nil => exact True.intro
  | @cons p q ps qs h t ih =>
    obtain ⟨h1, _, h2⟩ := h
    by_cases e : p.1 = k
    · have e' : q.1 = k := h1.symm.trans e
      have b : atKey (q :: qs) k = some q.2 := by simp [atKey, List.find?_cons, e']
      rw [valV_pos e, b]; exact h2
    · have e' : ¬ q.1 = k := fun z => e (h1.trans z)
      have b : atKey (q :: qs) k = atKey qs k := by simp [atKey, List.find?_cons, e']
      rw [valV_neg e, b]; exact ih
theorem KT.repl {H : Hp} {kvs : List (List Key × V)} {xs : List (List Key × Addr × Value)} (r : KT H kvs xs) (k : List Key) {y : V} {u : Value} (ry : RelV y u) :
    KT H (kvs.map fun kv => if kv.1 = k then (kv.1, y) else kv) (xs.map (putAt k u)) := by
  induction r with
  | nil => exact .nil
  | @cons p q ps qs h t ih =>
    rw [List.map_cons, List.map_cons]
    refine .cons ?_ ih
    obtain ⟨h1, h2, h3⟩ := h
    unfold putAt
    by_cases e : p.1 = k
    · rw [if_pos e, if_pos (h1.symm.trans e)]; exact ⟨h1, h2, ry⟩
    · rw [if_neg e, if_neg (fun z => e (h1.trans z))]; exact ⟨h1, h2, h3⟩
theorem KT.put {H : Hp} {kvs : List (List Key × V)} {xs : List (List Key × Addr × Value)} (r : KT H kvs xs) (k : List Key) {b : Addr} {y : V} {u : Value} (hb : H b = some (.tup (k.map kV))) (ry : RelV y u) :
    KT H (putK kvs k y) (storedH xs k b u) := by
  have e : (kvs.any fun kv => decide (kv.1 = k)) = (atKey xs k).isSome := by
    rw [valV_any, (r.val k).isSome_eq, Option.isSome_map]
  unfold putK storedH
  rw [e]
  by_cases q : (atKey xs k).isSome = true
  · rw [if_pos q, if_pos q]; exact r.repl k ry
  · rw [if_neg q, if_neg q]; exact Paired.snoc r ⟨rfl, hb, ry⟩
theorem KT.keeps {H H' : Hp} {kvs : List (List Key × V)} {xs : List (List Key × Addr × Value)} (r : KT H kvs xs) (ht : ∀ b ys, H b = some (.tup ys) → H' b = some (.tup ys)) : KT H' kvs xs :=
  Paired.mapP r fun _ _ z => ⟨z.1, ht _ _ z.2.1, z.2.2⟩
section
variable {P : Program} {w : World} {H : Hp} {h : Heap} {a : Addr}
theorem rd_of {u : HO} (ok : HOk P w H h) (e : Rd H a u) : ObjOk P w H h a u := e.ok ok
theorem dk_rd {kvs : List (Key × V)} (ok : HOk P w H h) (e : Rd H a (.dK kvs)) : kvs.length ≤ sizeLine ∧ (a == sysModules) = false ∧ ∃ vs, KV kvs vs ∧ h.DictOf (mixKind P w) a vs :=
  show ObjOk P w H h a (.dK kvs) from rd_of ok e
theorem dk_of {kvs : List (Key × V)} (ok : HOk P w H h) (e : H a = some (.dK kvs)) : kvs.length ≤ sizeLine ∧ (a == sysModules) = false ∧ ∃ vs, KV kvs vs ∧ h.DictOf (mixKind P w) a vs := dk_rd ok (.inl e)
theorem key_of {ks : List Key} (ok : HOk P w H h) (e : H a = some (.tup (ks.map kV))) : (tupleKind (mixKind P w)).is h ks a := by
  obtain ⟨_, its, r, o, h1, h2, n, h3⟩ := (show ObjOk P w H h a (.tup (ks.map kV)) from ok a _ e)
  exact ⟨o, its.toArray, n, h1, h2, h3, by simpa using items_are r⟩
theorem dt_rd {kvs : List (List Key × V)} (ok : HOk P w H h) (e : Rd H a (.dT kvs)) : kvs.length ≤ sizeLine ∧ (a == sysModules) = false ∧
    ∃ xs, KT H kvs xs ∧ h.DictOfH (tupleKind (mixKind P w)) a xs := by
  obtain ⟨z, y, xs, r, o, es, ep, h1, h2, h3, h4, h5⟩ := (show ObjOk P w H h a (.dT kvs) from rd_of ok e)
  refine ⟨z, y, xs, r, o, es, ep, h1, h2, h3, h4, fun x hx => ?_, h5⟩
  have all : ∀ {l : List (List Key × V)} {m : List (List Key × Addr × Value)}, KT H l m → ∀ x ∈ m, (tupleKind (mixKind P w)).is h x.1 x.2.1 := by
    intro l m q
    induction q with
    | nil => intro x hx; exact nomatch hx
    | @cons p q ps qs hq t ih =>
      intro x hx
      rcases List.mem_cons.mp hx with e | hx
      · subst e
        exact key_of ok (by rw [← hq.1]; exact hq.2.1)
      · exact ih x hx
  exact all r x hx
theorem dt_of {kvs : List (List Key × V)} (ok : HOk P w H h) (e : H a = some (.dT kvs)) : kvs.length ≤ sizeLine ∧ (a == sysModules) = false ∧
    ∃ xs, KT H kvs xs ∧ h.DictOfH (tupleKind (mixKind P w)) a xs := dt_rd ok (.inl e)
end
def DGet (H : Hp) (a : Addr) (y : V) (r : Option V) : Prop :=
  (∃ kvs k, Rd H a (.dK kvs) ∧ y = kV k ∧ r = valV kvs k) ∨ ∃ kvs k b, Rd H a (.dT kvs) ∧ y = .ref b ∧ H b = some (.tup (k.map kV)) ∧ r = valV kvs k
def DPut (H : Hp) (a : Addr) (y v : V) (H' : Hp) : Prop :=
  (∃ kvs k, H a = some (.dK kvs) ∧ y = kV k ∧ kvs.length < sizeLine ∧ H' = upd H a (.dK (putK kvs k v))) ∨
  ∃ kvs k b, H a = some (.dT kvs) ∧ y = .ref b ∧ H b = some (.tup (k.map kV)) ∧ kvs.length < sizeLine ∧ H' = upd H a (.dT (putK kvs k v))
section
variable {X : Cx} {pins : List (Addr × Obj)} {σ : St} {H : Hp} {s : Shared} {a : Addr} {y v : V} {u r : Value} {o : Option V} {A : Around} {E : Value → Shared → Prop}
theorem Inv.big (I : Inv X pins σ H s) : sysModules < s.heap.objs.size := by
  have h : mainGlobals < s.heap.objs.size := (I.mod.glob.keeps I.bk).lt
  exact Nat.lt_trans (by decide) h
theorem d_getItem {Q : Value → Shared → Prop} (hu : A.units + 1 < cLine) (I : Inv X pins σ H s) (g : DGet H a y (some v)) (ry : RelV y u) (h : ∀ w' s', Inv X pins σ H s' → RelV v w' → Q w' s') :
    wpAny (model X.prog X.w) A (getItem (.ref a) u) Q E s := by
  rcases g with ⟨kvs, k, e, ey, l⟩ | ⟨kvs, k, b, e, ey, eb, l⟩
  · subst ey
    obtain ⟨z, hd, vs, rel, dd⟩ := dk_rd I.hok e
    obtain ⟨w', hw, rw'⟩ := RelO.some_of (v := v) (o := valueAt vs k) (by rw [l]; exact rel.val k)
    exact wpAny_getItem_of (kV_is ry) dd.mapOf hw (h w' _ (I.tok _) rw')
  · subst ey
    cases (show u = Value.ref b from ry)
    obtain ⟨z, hd, xs, rel, dd⟩ := dt_rd I.hok e
    obtain ⟨w', hw, rw'⟩ := RelO.some_of (v := v) (o := (atKey xs k).map (·.2)) (by rw [l]; exact rel.val k)
    obtain ⟨p, hp, hp2⟩ := Option.map_eq_some_iff.mp hw
    refine wpAny_getItem_heap (tupleKind_room_in1 hu) (key_of I.hok eb) dd hp ?_
    rw [hp2]
    exact h w' _ (I.tok _) rw'
theorem d_write {h' : Heap} {t' : Nat} {ob : HO} (I : Inv X pins σ H s) (mu : Mut (H a)) (hs : Heap.SameBut a s.heap h') (he : ∃ q, h'.get? a = some q) (new : ObjOk X.prog X.w (upd H a ob) h' a ob) :
    Inv X pins σ (upd H a ob) { s with heap := h', toks := t' } :=
  I.write (x := a) (e := a) mu (.inl rfl) (fun b q hb z => (hs.2 b hb).trans z) he new
theorem dk_new {P : Program} {w : World} {H' : Hp} {h' : Heap} {kvs : List (Key × V)} {vs : List (Key × Value)} (z : kvs.length ≤ sizeLine) (hd : (a == sysModules) = false) (rel : KV kvs vs) (dd : h'.DictOf (mixKind P w) a vs) :
    ObjOk P w H' h' a (.dK kvs) := ⟨z, hd, vs, rel, dd⟩
theorem d_setItem {H' : Hp} {Q : Unit → Shared → Prop} (hu : A.units + 1 < cLine) (I : Inv X pins σ H s) (g : DPut H a y v H') (ry : RelV y u) (rv : RelV v r) (h : ∀ s', Inv X pins σ H' s' → Q () s') :
    wpAny (model X.prog X.w) A (setItem (.ref a) u r) Q E s := by
  rcases g with ⟨kvs, k, e, ey, l, eH⟩ | ⟨kvs, k, b, e, ey, eb, l, eH⟩
  · subst ey eH
    obtain ⟨z, hd, vs, rel, dd⟩ := dk_of I.hok e
    have hz : vs.length ≤ sizeLine := by rw [← rel.length]; exact z
    have hl : (putK kvs k v).length ≤ sizeLine := by have := length_putK kvs k v; omega
    refine wpAny_setItem_pairs (hsz := hz) (kV_is ry) dd fun h' dd' hs => h _ ?_
    have he : ∃ q, h'.get? a = some q := let ⟨q, _, _, hq, _⟩ := dd'; ⟨q, hq⟩
    exact d_write I (by rw [e]; exact True.intro) hs he (dk_new hl hd (rel.put k rv) dd')
  · subst ey eH
    cases (show u = Value.ref b from ry)
    obtain ⟨z, hd, xs, rel, dd⟩ := dt_of I.hok e
    have hz : xs.length ≤ sizeLine := by rw [← Paired.length rel]; exact z
    have hl : (putK kvs k v).length ≤ sizeLine := by have := length_putK kvs k v; omega
    refine wpAny_setItem_heap (hsz := hz) (tupleKind_room_in1 hu) (key_of I.hok eb) dd fun h' dd' hs => h _ ?_
    obtain ⟨q, es, ep, hq, h2, h3, h4, _, h5⟩ := dd'
    refine d_write I (by rw [e]; exact True.intro) hs ⟨q, hq⟩ ⟨hl, hd, _, (rel.put k eb rv).keeps fun c ys ec => ?_, q, es, ep, hq, h2, h3, h4, h5⟩
    rw [upd_ne (ne_of ec e (fun z => nomatch z))]
    exact ec
end
section
variable {X : Cx} {pins : List (Addr × Obj)} {σ : St} {H : Hp} {s : Shared} {a : Addr} {kvs : List (Key × V)} {k : Key} {u : Value} {A : Around} {E : Value → Shared → Prop}
theorem d_len {Q : Value → Shared → Prop} (I : Inv X pins σ H s) (e : Rd H a (.dK kvs)) (h : ∀ t s', Inv X pins σ H s' → Q (.int kvs.length t) s') : wpAny (model X.prog X.w) A (call (.builtin "len") [.ref a]) Q E s := by
  obtain ⟨z, hd, vs, rel, dd⟩ := dk_rd I.hok e
  refine call_len_dict hd dd (by rw [← rel.length]; rw [sizeLine_eq] at z; omega) ?_
  rw [← rel.length]
  exact h _ _ (I.tok _)
end
theorem dict_typeIs {X : Cx} {pins : List (Addr × Obj)} {σ : St} {H : Hp} {s : Shared} {a : Addr} {y : V} {o : Option V} (I : Inv X pins σ H s) (g : DGet H a y o) : s.TypeIs (.ref a) "dict" := by
  rcases g with ⟨kvs, k, e, _, _⟩ | ⟨kvs, k, b, e, _, _, _⟩
  · obtain ⟨_, _, vs, _, dd⟩ := dk_rd I.hok e
    exact dd.typeIs
  · obtain ⟨_, _, xs, _, dd⟩ := dt_rd I.hok e
    exact dd.typeIs
def sDPut (td ty tv : TE) : TS := fun D σ H => tv σ H fun v H1 => td σ H1 fun x H2 => ty σ H2 fun y H3 => ∃ a H4, x = .ref a ∧ DPut H3 a y v H4 ∧ D.nx σ H4
section
variable {X : Cx} {o i e value : Expr} {pos pos' tpos : Pos} {td ty tv : TE}
theorem ps_dput (hu : X.A.units + 1 < cLine) (ho : PE X o td) (hi : PE X i ty) (hv : PE X value tv) (hs : swapsWith value (some (.Subscript o i pos')) pos.line X.env = pure false) :
    PS X (.Assign [.Subscript o i pos'] value pos) (sDPut td ty tv) := by
  intro pins s σ H D I h
  refine wpAny_Assign_Subscript (thn (hv pins s σ H _ I h) fun r s1 ⟨v, H1, I1, rv, q1⟩ => thn (ho pins s1 σ H1 _ I1 q1) fun u s2 ⟨x, H2, I2, rx, q2⟩ => thn (hi pins s2 σ H2 _ I2 q2) fun iv s3 ⟨y, H3, I3, ry, a, H4, ex, g, q3⟩ => ?_) hs
  subst ex
  obtain rfl : u = Value.ref a := rx
  exact d_setItem hu I3 g ry rv fun s4 I4 => ⟨σ, H4, I4, q3⟩
end
theorem dk_empty {P : Program} {w : World} {H : Hp} (h : Heap) (hb : sysModules < h.objs.size) : ObjOk P w H (h.push { cls := .type "dict", data := .dict #[] }) h.objs.size (.dK []) :=
  ⟨Nat.zero_le _, beq_eq_false_iff_ne.mpr (Ne.symm (Nat.ne_of_lt hb)), [], .nil, Heap.DictOf.new h⟩
def tDNewK : TE := fun _ H Q => ∀ p, H p = none → Q (.ref p) (upd H p (.dK []))
section
variable {X : Cx} {pos : Pos}
theorem pe_dnewK : PE X (.Dict [] [] pos) tDNewK := fun pins s σ H Q I h =>
  wpAny_Dict_empty ⟨.ref s.heap.objs.size, _, I.laid (a := s.heap.objs.size) (o := .dK []) (t' := s.toks) (fun _ _ q => Heap.get?_push_of_some _ q) (Nat.le_refl _) (dk_empty s.heap I.big), rfl, h _ (I.hok.fresh (Nat.le_refl _))⟩
end
def tPairs : List (TE × TE) → St → Hp → (List (V × V) → Hp → Prop) → Prop
  | [], _, H, Q => Q [] H
  | (tk, tv) :: r, σ, H, Q => tk σ H fun x H1 => tv σ H1 fun y H2 => tPairs r σ H2 fun ps H3 => Q ((x, y) :: ps) H3
abbrev VV : List (V × V) → List (Value × Value) → Prop := Paired fun p q => RelV p.1 q.1 ∧ RelV p.2 q.2
def PPs (X : Cx) (pos : Pos) (keys : List (Option Expr)) (values : List Expr) (trs : List (TE × TE)) : Prop :=
  ∀ (pins : List (Addr × Obj)) (s : Shared) (σ : St) (H : Hp) (Q : List (V × V) → Hp → Prop), Inv X pins σ H s → tPairs trs σ H Q →
    wpAny (model X.prog X.w) X.A (evalPairs (pairTrees keys values X.env pos)) (fun vs s' => ∃ ps H', Inv X pins σ H' s' ∧ VV ps vs ∧ Q ps H') X.xe s
theorem pps_nil {X : Cx} {pos : Pos} : PPs X pos [] [] [] := fun pins s σ H Q I h => pairTrees_nil_walk ⟨[], H, I, .nil, h⟩
theorem pps_cons {X : Cx} {pos : Pos} {k v : Expr} {ks : List (Option Expr)} {vs : List Expr} {tk tv : TE} {trs : List (TE × TE)} (hk : PE X k tk) (hv : PE X v tv) (hr : PPs X pos ks vs trs) :
    PPs X pos (some k :: ks) (v :: vs) ((tk, tv) :: trs) := fun pins s σ H Q I h =>
  pairTrees_cons_walk (thn (hk pins s σ H _ I h) fun u s1 ⟨x, H1, I1, rx, q1⟩ => thn (hv pins s1 σ H1 _ I1 q1) fun w2 s2 ⟨y, H2, I2, ry, q2⟩ =>
    thn (hr pins s2 σ H2 _ I2 q2) fun ws s3 ⟨ps, H3, I3, rel, q3⟩ => ⟨(x, y) :: ps, H3, I3, .cons ⟨rx, ry⟩ rel, q3⟩)
def mergeK (kvs more : List (Key × V)) : List (Key × V) := more.foldl (fun acc kv => putK acc kv.1 kv.2) kvs
theorem KV.merge : ∀ {more : List (Key × V)} {rs : List (Key × Value)} {kvs : List (Key × V)} {vs : List (Key × Value)}, KV more rs → KV kvs vs → KV (mergeK kvs more) (merged vs rs) := by
  intro more rs kvs vs r
  unfold KV at r
  induction r generalizing kvs vs with
  | nil => intro q; exact q
  | @cons p q ps qs h t ih =>
    intro r0
    have e : KV (putK kvs p.1 p.2) (stored vs q.1 q.2) := by
      have := r0.put p.1 h.2
      rw [← h.1]; exact this
    exact ih e
theorem length_mergeK : ∀ (more kvs : List (Key × V)), (mergeK kvs more).length ≤ kvs.length + more.length
  | [], kvs => by show kvs.length ≤ kvs.length + 0; omega
  | p :: r, kvs => by
    have h1 := length_mergeK r (putK kvs p.1 p.2)
    have h2 := length_putK kvs p.1 p.2
    show (mergeK (putK kvs p.1 p.2) r).length ≤ _
    rw [List.length_cons]; omega
theorem carries_of {P : Program} {w : World} : ∀ {kvs : List (Key × V)} {ws : List (Value × Value)}, VV (kvs.map fun kv => (kV kv.1, kv.2)) ws → ∃ rs, Carries (mixKind P w) ws rs ∧ KV kvs rs
  | [], _, r => by rw [List.map_nil] at r; cases r; exact ⟨[], True.intro, .nil⟩
  | p :: kvs, _, r => by
    rw [List.map_cons] at r
    cases r with
    | @cons a b as bs h t =>
      obtain ⟨rs, c, q⟩ := carries_of (P := P) (w := w) t
      obtain ⟨b1, b2⟩ := b
      exact ⟨(p.1, b2) :: rs, ⟨kV_is h.1, rfl, c⟩, .cons ⟨rfl, h.2⟩ q⟩
def tDisp (trs : List (TE × TE)) : TE := fun σ H Q => ∀ p, H p = none → tPairs trs σ (upd H p (.dK [])) fun ps H2 => H2 p = some (.dK []) ∧ ∃ kvs : List (Key × V), ps = kvs.map (fun kv => (kV kv.1, kv.2)) ∧ kvs.length ≤ 15 ∧ Q (.ref p) (upd H2 p (.dK (mergeK [] kvs)))
theorem pe_disp {X : Cx} {pos : Pos} {keys : List (Option Expr)} {values : List Expr} {trs : List (TE × TE)} (h : PPs X pos keys values trs) (hall : keys.all (·.isSome) = true) (hl : keys.length = values.length) (h0 : keys ≠ [])
    (h15 : keys.length ≤ 15) : PE X (.Dict keys values pos) (tDisp trs) := by
  intro pins s σ H Q I q
  have hn := I.hok.fresh (Nat.le_refl s.heap.objs.size)
  have I1 := I.laid (a := s.heap.objs.size) (o := .dK []) (h' := s.heap.push { cls := .type "dict", data := .dict #[] }) (t' := s.toks) (fun _ _ q => Heap.get?_push_of_some _ q) (Nat.le_refl _) (dk_empty s.heap I.big)
  refine wpAny_Dict_walk (knd := mixKind X.prog X.w) hall hl h0 h15 (thn (h pins _ σ _ _ I1 (q _ hn)) fun ws s2 ⟨ps, H2, I2, rel, e, kvs, ep, lk, q2⟩ => ?_)
  subst ep
  obtain ⟨rs, c, rk⟩ := carries_of (P := X.prog) (w := X.w) rel
  obtain ⟨z, hd, vs0, r0, dd⟩ := dk_of I2.hok e
  cases r0
  refine ⟨rs, c, dd, fun h' dd' hs => ⟨.ref s.heap.objs.size, _, ?_, rfl, q2⟩⟩
  have hz : (mergeK [] kvs).length ≤ sizeLine := by
    have h1 := length_mergeK kvs []
    rw [List.length_nil] at h1
    rw [sizeLine_eq]; omega
  have he : ∃ q, h'.get? s.heap.objs.size = some q := let ⟨q, _, _, hq, _⟩ := dd'; ⟨q, hq⟩
  exact d_write I2 (by rw [e]; exact True.intro) hs he (dk_new hz hd (rk.merge .nil) dd')
structure M2 (X : Cx) (o : Expr) (m : Str) (apos : Pos) (e f : Expr) (cpos : Pos) : Prop where
  base : attributeBase o m X.env (eval o X.env) = eval o X.env
  few : ((backTo cpos (starEach [e, f] X.env)).all (fun x => !x.1) && (backToKw cpos (keywordEach [] X.env)).all (fun x => x.1.isSome)
    && decide (([e, f] : List Expr).length + ([] : List Keyword).length + (if ([] : List Keyword).isEmpty then 0 else 1) < 30)) = true
  line : (apos.endLine == cpos.line) = true
  trees : backTo cpos (starEach [e, f] X.env) = [(false, eval e X.env), (false, eval f X.env)]
def IsD (H : Hp) (a : Addr) : Prop := (∃ kvs, Rd H a (.dK kvs)) ∨ ∃ kvs, Rd H a (.dT kvs)
theorem isD_at {X : Cx} {pins : List (Addr × Obj)} {σ : St} {H : Hp} {s : Shared} {a : Addr} (I : Inv X pins σ H s) (d : IsD H a) :
    s.TypeIs (.ref a) "dict" ∧ (∀ b, Value.ref a = .ref b → ∃ ob, s.heap.get? b = some ob ∧ ob.dict = none) ∧ (a == sysModules) = false := by
  rcases d with ⟨kvs, e⟩ | ⟨kvs, e⟩
  · obtain ⟨_, hd, vs, _, dd⟩ := dk_rd I.hok e
    refine ⟨dd.typeIs, fun b q => ?_, hd⟩
    cases q
    obtain ⟨ob, _, _, h1, h2, _⟩ := dd
    exact ⟨ob, h1, h2.2.1⟩
  · obtain ⟨_, hd, xs, _, dd⟩ := dt_rd I.hok e
    refine ⟨dd.typeIs, fun b q => ?_, hd⟩
    cases q
    obtain ⟨ob, _, _, h1, h2, _⟩ := dd
    exact ⟨ob, h1, h2.2.1⟩
section
variable {X : Cx} {pins : List (Addr × Obj)} {σ : St} {H : Hp} {s : Shared} {a : Addr} {y d : V} {u r : Value} {o : Option V} {A : Around} {E : Value → Shared → Prop}
theorem d_get2 {Q : Value → Shared → Prop} (hu : A.units + 1 < cLine) (I : Inv X pins σ H s) (g : DGet H a y o) (ry : RelV y u) (rd : RelV d r) (h : ∀ w' s', Inv X pins σ H s' → RelV (o.getD d) w' → Q w' s') :
    wpAny (model X.prog X.w) A (call (.builtin "dict.get") [.ref a, u, r]) Q E s := by
  rcases g with ⟨kvs, k, e, ey, l⟩ | ⟨kvs, k, b, e, ey, eb, l⟩
  · subst ey
    obtain ⟨z, hd, vs, rel, dd⟩ := dk_rd I.hok e
    refine call_meetsIn PySem.F.slot_dict_get dd.typeIs PySem.F.entry_dict_get (PySem.F.args_dict_get_3 _ _ _) (meets_dict_get_default (mixKind X.prog X.w) a (kV_is ry) hd r) ⟨_, dd.mapOf, h _ _ (I.tok _) ?_⟩
    rw [l]
    exact (rel.val k).getD rd
  · subst ey
    cases (show u = Value.ref b from ry)
    obtain ⟨z, hd, xs, rel, dd⟩ := dt_rd I.hok e
    refine call_meetsIn PySem.F.slot_dict_get dd.typeIs PySem.F.entry_dict_get (PySem.F.args_dict_get_3 _ _ _) (meetsH_dict_get_default (tupleKind (mixKind X.prog X.w)) a b hd r) ⟨tupleKind_room_in1 hu, k, xs, key_of I.hok eb, dd, h _ _ (I.tok _) ?_⟩
    rw [l]
    exact (rel.val k).getD rd
end
def tDGet2 (td ty tx : TE) : TE := fun σ H Q => td σ H fun x H1 => ∃ a, x = .ref a ∧ IsD H1 a ∧ ty σ H1 fun y H2 => tx σ H2 fun z H3 => ∃ o, DGet H3 a y o ∧ Q (o.getD z) H3
section
variable {X : Cx} {o e f : Expr} {apos cpos : Pos} {td ty tx : TE}
theorem pe_dget2 (hu : X.A.units + 1 < cLine) (ho : PE X o td) (he : PE X e ty) (hf : PE X f tx) (m : M2 X o "get" apos e f cpos) : PE X (.Call (.Attribute o "get" apos) [e, f] [] cpos) (tDGet2 td ty tx) := by
  intro pins s σ H Q I h
  refine wpAny_Call_method m.base m.few m.line PySem.F.plainAttrs_dict PySem.F.slot_dict_get PySem.F.type_dict_get (thn (ho pins s σ H _ I h) fun u s1 ⟨x, H1, I1, rx, a, ex, d, q1⟩ => ?_)
  subst ex
  obtain rfl : u = Value.ref a := rx
  obtain ⟨t1, t2, _⟩ := isD_at I1 d
  refine ⟨t1, t2, ?_⟩
  rw [m.trees]
  refine Calls.callWith_builtin rfl (Calls.evalArgs_plain (Calls.spliced_cons (thn (he pins s1 σ H1 _ I1 q1) fun iv s2 ⟨y, H2, I2, ry, q2⟩ =>
    Calls.spliced_cons (thn (hf pins s2 σ H2 _ I2 q2) fun fv s3 ⟨z, H3, I3, rz, ov, g, q3⟩ => Calls.spliced_nil ?_))))
  exact d_get2 hu I3 g ry rz fun w' s4 I4 rw' => ⟨_, H3, I4, rw', q3⟩
end
section
variable {X : Cx} {pins : List (Addr × Obj)} {σ : St} {H : Hp} {s : Shared} {a : Addr} {kvs : List (Key × V)} {A : Around} {E : Value → Shared → Prop}
end
section
variable {X : Cx} {pins : List (Addr × Obj)} {σ : St} {H : Hp} {s : Shared} {a : Addr} {y : V} {u : Value} {A : Around} {E : Value → Shared → Prop}
end
end L2
namespace L2
open PySem PySem.Spec PyProof.Rows
section
variable {X : Cx}
end
section
variable {κ : Type} [DecidableEq κ]
end
end L2
namespace L2
open PySem PySem.Spec PyProof.Rows
section
variable {X : Cx} {pins : List (Addr × Obj)} {σ : List (Option V)} {H : Hp} {s : Shared} {h' : Heap}
end
section
variable {X : Cx}
end
def CDivL (i j : Int) : Prop := 0 < j ∧ j < 2 ^ 200
theorem log2_of {j : Int} (h0 : 0 < j) (h : j < 2 ^ 200) : j.natAbs.log2 < 9000 := by
  have e : j.natAbs < 2 ^ 200 := by
    have : (j.natAbs : Int) = j := Int.natAbs_of_nonneg (Int.le_of_lt h0)
    have h2 : (j.natAbs : Int) < ((2 ^ 200 : Nat) : Int) := by rw [this]; exact_mod_cast h
    exact_mod_cast h2
  have : j.natAbs.log2 < 200 := (Nat.log2_lt (by omega)).mpr e
  omega
section
variable {X : Cx}
theorem op_fdivL : OpR X (binaryOp .FloorDiv) (rI CDivL fun i j => .int (i / j)) := opI fun i j _ _ _ _ _ hc q => by
  have h1 : (0 : Int) < j := hc.1
  exact floordiv_int (by omega) (by rw [Int.fdiv_eq_ediv_of_nonneg i (by omega)]; exact q) (.inl (PyProof.noPylong_of_log2 (log2_of hc.1 hc.2)))
theorem call_isinst {T : String} : CallR X (.builtin "isinstance") (fun xs H Q => ∃ x t b, xs = [x, .ty T] ∧ TyOf X.K H x t ∧ W.kitOne X.K t (.type T) = some b ∧ Q (.bl b) H) := by
  intro pins s σ H xs us Q I r h
  obtain ⟨x, t, b, rfl, ty, e, q⟩ := h
  obtain ⟨u, w', rfl, ru, rt⟩ := vals2 r
  cases rt
  exact isinst_ok I ru ty e fun tk => ⟨.bl b, H, I.tok tk, rfl, q⟩
end
end L2
namespace L2
open PySem PySem.Spec PyProof.Rows
theorem same_new {H : Hp} {p : Addr} (h : H p = none) (o : HO) : Same H (upd H p o) := fun b u q => by rw [upd_ne (ne_of_none q h)]; exact q
structure Cal (P : Program) (w : World) (K : W.Frag) (mg : Str → Option Value) (base : Heap) (x : Str) (ps : List Str) (k : Nat) (sp : Sp) : Prop where
  ex : ∃ (f : Addr) (fd : FuncData), FnOk P w K mg base CX0 k f fd ps sp ∧ Binds K fd ps [] ∧ W.keepIn K (.ref f) = true ∧ mg x = some (.ref f)
theorem Cal.of {P : Program} {w : World} {K : W.Frag} {mg : Str → Option Value} {base : Heap} {x : Str} {ps : List Str} {k : Nat} {sp : Sp} {f : Addr} {fd : FuncData} {q : Str} {st : Stmt} (F : Fun K x q st f fd) (b : Binds K fd ps []) (m : mg x = some (.ref f))
    (o : FnOk P w K mg base CX0 k f fd ps sp) : Cal P w K mg base x ps k sp := ⟨f, fd, o, b, F.kp, m⟩
theorem pe_cal {X : Cx} {x : Str} {ps : List Str} {j k : Nat} {sp : Sp} {p pos : Pos} {e : Expr} {es : List Expr} {t : TA} (C : Cal X.prog X.w X.K X.mg X.base x ps k sp) (hr : Room j X.A) (hg : Gl X x)
    (ha : PA X (e :: es) t) (hj : k ≤ j := by decide) (hdb : (x == ("__debug__" : Str)) = false := by decide) (he : starEach (e :: es) X.env = (false, eval e X.env) :: starEach es X.env := by rfl) (hpl : (backTo pos (starEach es X.env)).any (·.1) = false := by rfl) :
    PE X (.Call (.Name x p) (e :: es) [] pos) (tCall sp [] E0 t) := by
  obtain ⟨f, fd, o, b, kp, m⟩ := C.ex
  exact pe_call o (hr.mono hj) hg m kp b .nil pass0 ha hdb he hpl
end L2
namespace L2
open PySem PySem.Spec PyProof.Rows
section
variable {X : Cx}
end
end L2
namespace L2
open PySem PySem.Spec PyProof.Rows
theorem closure_gen (env : Env) : ∀ (ns : List (Str × NameKind)) (acc : List (Str × Addr)), (∀ y ∈ ns, y.2 = .free → ∃ c, env.cells.lookup y.1 = some c) →
    ∃ new : List (Str × Addr), (∀ p ∈ new, env.cells.lookup p.1 = some p.2) ∧ (∀ y ∈ ns, y.2 = .free → ∃ c, (y.1, c) ∈ new) ∧
      (forIn ns acc (fun (x : Str × NameKind) (r : List (Str × Addr)) => match x with
        | (name, kind) => if (kind == NameKind.free) = true then do let c ← cellOf env name; pure (ForInStep.yield ((name, c) :: r)) else pure (ForInStep.yield r)) : Sem (List (Str × Addr))) = pure (new ++ acc)
  | [], acc, _ => ⟨[], fun _ h => (nomatch h), fun _ h => (nomatch h), rfl⟩
  | (n, k) :: rest, acc, h => by
    by_cases hk : k = .free
    · subst hk
      obtain ⟨c, hc⟩ := h (n, .free) List.mem_cons_self rfl
      obtain ⟨new, h1, h2, h3⟩ := closure_gen env rest ((n, c) :: acc) fun y hy => h y (List.mem_cons_of_mem _ hy)
      refine ⟨new ++ [(n, c)], fun p hp => ?_, fun y hy hf => ?_, ?_⟩
      · rcases List.mem_append.mp hp with z | z
        · exact h1 p z
        · obtain rfl := List.mem_singleton.mp z
          exact hc
      · rcases List.mem_cons.mp hy with z | z
        · subst z; exact ⟨c, by simp⟩
        · obtain ⟨c', z'⟩ := h2 y z hf
          exact ⟨c', List.mem_append_left _ z'⟩
      · rw [List.forIn_cons]
        have e1 : cellOf env n = pure c := by unfold cellOf; rw [hc]
        simp only [beq_self_eq_true, if_true, e1]
        rw [List.append_assoc]
        exact h3
    · obtain ⟨new, h1, h2, h3⟩ := closure_gen env rest acc fun y hy => h y (List.mem_cons_of_mem _ hy)
      refine ⟨new, h1, fun y hy hf => ?_, ?_⟩
      · rcases List.mem_cons.mp hy with z | z
        · subst z; exact absurd hf hk
        · exact h2 y z hf
      · rw [List.forIn_cons]
        have e1 : (k == NameKind.free) = false := by simpa using hk
        simp only [e1, Bool.false_eq_true, if_false]
        exact h3
theorem lookup_mem {l : List (Str × Addr)} {x : Str} {c : Addr} (h : (x, c) ∈ l) : ∃ c', l.lookup x = some c' := by
  induction l with
  | nil => cases h
  | cons p r ih =>
    obtain ⟨y, d⟩ := p
    rw [List.lookup_cons]
    cases e : x == y with
    | true => exact ⟨d, rfl⟩
    | false =>
      rcases List.mem_cons.mp h with z | z
      · have : x = y := congrArg Prod.fst z
        rw [this] at e; simp at e
      · exact ih z
theorem closure_for {scope : Scope} {env : Env} (h : ∀ y ∈ scope.names, y.2 = .free → ∃ c, env.cells.lookup y.1 = some c) :
    ∃ cl, closureFor scope env = pure cl ∧ (∀ x c, cl.lookup x = some c → env.cells.lookup x = some c) ∧ (∀ y ∈ scope.names, y.2 = .free → ∃ c, cl.lookup y.1 = some c) := by
  obtain ⟨new, h1, h2, h3⟩ := closure_gen env scope.names [] h
  refine ⟨new, ?_, fun x c e => h1 _ (PySem.mem_of_lookup e), fun y hy hf => ?_⟩
  · rw [List.append_nil] at h3
    have e : closureFor scope env = ((forIn scope.names ([] : List (Str × Addr)) (fun (x : Str × NameKind) (r : List (Str × Addr)) => match x with
        | (name, kind) => if (kind == NameKind.free) = true then do let c ← cellOf env name; pure (ForInStep.yield ((name, c) :: r)) else pure (ForInStep.yield r)) : Sem (List (Str × Addr))) >>= fun r => pure r) := rfl
    rw [e, h3]
    rfl
  · obtain ⟨c, hc⟩ := h2 y hy hf
    exact lookup_mem hc
section
variable {prog : Program} {w : World} {A : Around} {R : Result → Shared → Prop} {s : Shared}
theorem compLoop_gen {elt target iter : Expr} {ifs : List Expr} {scope : Scope} {pos : Pos} {it acc : Value} {env : Env} (I : Nat → Shared → Prop)
    (turn : ∀ n s, I n s → wpAny (model prog w) A (pyNext it) (fun r s₁ => match r with
      | none => R (.ok .next) s₁
      | some v => wpAny (model prog w) A (letOwnedTupleGo target it v) (fun _ s₁' => wpAny (model prog w) A (assign target env v) (fun _ s₂ =>
          wpAny (model prog w) A (forIn ifs true fun c r => if r = true then do let ok ← isTrue c env (eval c env); pure (ForInStep.yield ok) else pure (ForInStep.yield r)) (fun ok s₃ =>
            if ok = true then wpAny (model prog w) A (eval elt env) (fun x s₄ =>
              wpAny (model prog w) A (call (.builtin "list.append") [acc, x]) (fun _ s₅ => ∃ m, m < n ∧ I m s₅) (notedBy (model prog w) A env fun e s' => R (.error e) s') s₄) (notedBy (model prog w) A env fun e s' => R (.error e) s') s₃
            else ∃ m, m < n ∧ I m s₃) (notedBy (model prog w) A env fun e s' => R (.error e) s') s₂) (notedBy (model prog w) A env fun e s' => R (.error e) s') s₁') (notedBy (model prog w) A env fun e s' => R (.error e) s') s₁) (notedBy (model prog w) A env fun e s' => R (.error e) s') s)
    (n : Nat) (h : I n s) :
    codeAny (model prog w) A (.compLoop (.ListComp elt [⟨target, iter, ifs, 0⟩] scope pos) 0 it acc env) R s := by
  refine codeAny_loop rfl I (fun n s hI => ?_) n h
  show wpAny _ A ((compTurn (.ListComp elt [⟨target, iter, ifs, 0⟩] scope pos) 0 it acc env).onRaise (fun x => do noteFrame x env; theTreesLotGoes x)) _ _ s
  refine wpAny_noted ?_
  rw [compTurn_list]
  refine wpAny_bind (wpAny_standAt (wpAny_bind (wpAny_mono (turn n s hI) (fun r s₁ h₁ => ?_) fun _ _ h' => h')))
  cases r with
  | none => exact wpAny_pure h₁
  | some v =>
    refine wpAny_bind (wpAny_mono h₁ (fun _ s₁' h₁' => ?_) fun _ _ h' => h')
    refine wpAny_bind (wpAny_mono h₁' (fun _ s₂ h₂ => wpAny_bind (wpAny_mono h₂ (fun ok s₃ h₃ => ?_) fun _ _ h' => h')) fun _ _ h' => h')
    cases ok with
    | false => exact wpAny_pure ⟨rfl, h₃⟩
    | true =>
      exact wpAny_bind (wpAny_bind (wpAny_mono h₃ (fun x s₄ h₄ => wpAny_bind (wpAny_mono h₄ (fun _ s₅ h₅ => wpAny_pure (wpAny_pure ⟨rfl, h₅⟩)) fun _ _ h' => h')) fun _ _ h' => h'))
end
def cxComp (X : Cx) (N : List Str) (scope : Scope) (cl : List (Str × Addr)) (C : Addr) (s : Shared) (H : Hp) (ex : List Addr) (pins : List (Addr × Obj)) : Cx :=
  { X with N := N, s₀ := s, H₀ := H, env := compEnvC scope cl C X.env, outer := X.stack, stack := X.stack, ex := ex, fn := fun x => scope.names.lookup x == some NameKind.cell, pn := X.pn ++ pins, xe := fun _ _ => False }
theorem newEnv_own {M : Model} {A : Around} {E : Value → Shared → Prop} {s : Shared} {scope : Scope} {globals : Addr} {cl : List (Str × Addr)} {qual : Str} {env : Env} {Q : Env → Shared → Prop}
    (hQ : Q (newEnv scope s.heap.objs.size globals (cellsFrom (s.heap.objs.size + 1) scope.names cl) qual none .none (some env) builtinsNs) { s with heap := pushCells (s.heap.push { cls := .type "dict", data := .dict #[] }) scope.names }) :
    wpAny M A (newFunctionEnv scope globals cl [] qual none .none (some env)) Q E s := by
  simp only [newFunctionEnv, Option.isSome_some, if_true]
  refine wpAny_bind (wpAny_alloc ?_)
  refine wpAny_bind (wpAny_layCells _ (fun name kind cells => by cases hkc : kind == NameKind.cell <;> simp [hkc]) _ _ _ _ ?_)
  rw [show ({ s with heap := s.heap.push { cls := .type "dict", data := .dict #[] } } : Shared).heap.objs.size = s.heap.objs.size + 1 from Heap.size_push ..]
  rw [List.forIn_nil]
  exact wpAny_bind (wpAny_pure (wpAny_pure hQ))
theorem cellsFrom_at : ∀ (names : List (Str × NameKind)) (h : Heap) (acc : List (Str × Addr)) (x : Str) (c : Addr), (cellsFrom h.objs.size names acc).lookup x = some c →
    (acc.lookup x = some c ∧ ¬ (x, NameKind.cell) ∈ names) ∨ (h.objs.size ≤ c ∧ (x, NameKind.cell) ∈ names ∧ (pushCells h names).IsCell c none)
  | [], _, _, _, _, e => .inl ⟨e, fun z => nomatch z⟩
  | (name, kind) :: r, h, acc, x, c, e => by
    unfold cellsFrom at e
    unfold pushCells
    by_cases hk : (kind == NameKind.cell) = true
    · rw [if_pos hk] at e
      rw [if_pos hk]
      obtain rfl : kind = .cell := by simpa using hk
      have hs : (h.push { cls := .type "cell", data := .cell none }).objs.size = h.objs.size + 1 := Heap.size_push ..
      rw [← hs] at e
      rcases cellsFrom_at r _ _ x c e with ⟨e1, e2⟩ | ⟨e1, e2, e3⟩
      · rw [List.lookup_cons] at e1
        cases hx : x == name with
        | true =>
          rw [hx] at e1; cases e1
          obtain rfl : x = name := by simpa using hx
          exact .inr ⟨Nat.le_refl _, List.mem_cons_self, _, pushCells_keeps _ _ _ _ (Heap.get?_push_size _ rfl), rfl⟩
        | false =>
          rw [hx] at e1
          refine .inl ⟨e1, fun z => ?_⟩
          rcases List.mem_cons.mp z with z | z
          · have : x = name := congrArg Prod.fst z
            rw [this] at hx; simp at hx
          · exact e2 z
      · exact .inr ⟨by rw [hs] at e1; exact Nat.le_of_succ_le e1, List.mem_cons_of_mem _ e2, e3⟩
    · rw [if_neg hk] at e
      rw [if_neg hk]
      rcases cellsFrom_at r h acc x c e with ⟨e1, e2⟩ | ⟨e1, e2, e3⟩
      · refine .inl ⟨e1, fun z => ?_⟩
        rcases List.mem_cons.mp z with z | z
        · have : NameKind.cell = kind := congrArg Prod.snd z
          rw [← this] at hk; exact hk rfl
        · exact e2 z
      · exact .inr ⟨e1, List.mem_cons_of_mem _ e2, e3⟩
theorem cellsFrom_has : ∀ (names : List (Str × NameKind)) (n : Nat) (acc : List (Str × Addr)) (x : Str), (x, NameKind.cell) ∈ names ∨ (∃ c, acc.lookup x = some c) → ∃ c, (cellsFrom n names acc).lookup x = some c
  | [], _, _, _, h => h.elim (fun z => nomatch z) id
  | (name, kind) :: r, n, acc, x, h => by
    unfold cellsFrom
    by_cases hk : (kind == NameKind.cell) = true
    · rw [if_pos hk]
      refine cellsFrom_has r _ _ x ?_
      rw [List.lookup_cons]
      cases hx : x == name with
      | true => exact .inr ⟨n, rfl⟩
      | false =>
        rcases h with h | h
        · rcases List.mem_cons.mp h with z | z
          · have : x = name := congrArg Prod.fst z
            rw [this] at hx; simp at hx
          · exact .inl z
        · exact .inr h
    · rw [if_neg hk]
      refine cellsFrom_has r _ _ x (h.imp (fun z => ?_) id)
      rcases List.mem_cons.mp z with z | z
      · have : NameKind.cell = kind := congrArg Prod.snd z
        rw [← this] at hk; exact absurd rfl hk
      · exact z
theorem cellsFrom_inj : ∀ (names : List (Str × NameKind)) (n : Nat) (acc : List (Str × Addr)), (∀ x c, acc.lookup x = some c → c < n) → (∀ x y c, acc.lookup x = some c → acc.lookup y = some c → x = y) →
    ∀ x y c, (cellsFrom n names acc).lookup x = some c → (cellsFrom n names acc).lookup y = some c → x = y
  | [], _, _, _, h => h
  | (name, kind) :: r, n, acc, hb, hi => by
    unfold cellsFrom
    by_cases hk : (kind == NameKind.cell) = true
    · rw [if_pos hk]
      refine cellsFrom_inj r _ _ (fun x c e => ?_) fun x y c e1 e2 => ?_
      · rw [List.lookup_cons] at e
        cases hx : x == name with
        | true => rw [hx] at e; cases e; exact Nat.lt_succ_self _
        | false => rw [hx] at e; exact Nat.lt_succ_of_lt (hb x c e)
      · rw [List.lookup_cons] at e1 e2
        cases hx : x == name with
        | true =>
          rw [hx] at e1; cases e1
          cases hy : y == name with
          | true => rw [show x = name by simpa using hx, show y = name by simpa using hy]
          | false => rw [hy] at e2; exact absurd (hb y _ e2) (Nat.lt_irrefl _)
        | false =>
          rw [hx] at e1
          cases hy : y == name with
          | true => rw [hy] at e2; cases e2; exact absurd (hb x _ e1) (Nat.lt_irrefl _)
          | false => rw [hy] at e2; exact hi x y c e1 e2
    · rw [if_neg hk]
      exact cellsFrom_inj r n acc hb hi
structure ClOk (X : Cx) (scope : Scope) (C : Addr) (h' : Heap) (cl : List (Str × Addr)) : Prop where
  at_ : ∀ x c, cl.lookup x = some c → (X.env.cells.lookup x = some c ∧ ¬ (x, NameKind.cell) ∈ scope.names) ∨ (C < c ∧ (x, NameKind.cell) ∈ scope.names ∧ h'.IsCell c none)
  has : ∀ y ∈ scope.names, (y.2 = .free ∨ y.2 = .cell) → ∃ c, cl.lookup y.1 = some c
  inj : ∀ x y c, cl.lookup x = some c → cl.lookup y = some c → x = y
def capt (js : List (Option Nat)) (σ : St) : St := js.map fun o => o.bind fun j => (σ[j]?).join
structure CapOk (X : Cx) (N : List Str) (scope : Scope) (js : List (Option Nat)) : Prop where
  len : js.length = N.length
  at_ : ∀ (i j : Nat) (x : Str), js[i]? = some (some j) → N[i]? = some x → X.N[j]? = some x ∧ scope.names.lookup x = some .free ∧ (X.env.scope.names.lookup x = some .cell ∨ X.env.scope.names.lookup x = some .free)
  fr : ∀ y ∈ scope.names, y.2 = .free → X.env.kindOf y.1 = some .cell ∨ X.env.kindOf y.1 = some .free
theorem relabel_free {env : Env} : ∀ {names : List (Str × NameKind)} {x : Str}, names.lookup x = some .free →
    let r := (names.map fun (n, k) => if (k == NameKind.free && env.scope.kind == .function && env.kindOf n == some .cell) then (n, NameKind.cell) else (n, k)).lookup x
    r = some .cell ∨ r = some .free
  | [], _, h => by simp at h
  | (n, k) :: r, x, h => by
    have ih := @relabel_free env r x
    show (List.lookup x ((if (k == NameKind.free && env.scope.kind == .function && env.kindOf n == some .cell) = true then (n, NameKind.cell) else (n, k)) :: _) = _) ∨ (List.lookup x ((if (k == NameKind.free && env.scope.kind == .function && env.kindOf n == some .cell) = true then (n, NameKind.cell) else (n, k)) :: _) = _)
    cases hx : x == n with
    | true =>
      simp only [List.lookup_cons, hx] at h
      cases h
      by_cases hc : (NameKind.free == NameKind.free && env.scope.kind == .function && env.kindOf n == some .cell) = true
      · rw [if_pos hc]; simp only [List.lookup_cons, hx]; exact .inl trivial
      · rw [if_neg hc]; simp only [List.lookup_cons, hx]; exact .inr trivial
    | false =>
      simp only [List.lookup_cons, hx] at h
      by_cases hc : (k == NameKind.free && env.scope.kind == .function && env.kindOf n == some .cell) = true
      · rw [if_pos hc]; simp only [List.lookup_cons, hx]; exact ih h
      · rw [if_neg hc]; simp only [List.lookup_cons, hx]; exact ih h
theorem relabel_back {env : Env} : ∀ {names : List (Str × NameKind)} {x : Str},
    ((names.map fun (n, k) => if (k == NameKind.free && env.scope.kind == .function && env.kindOf n == some .cell) then (n, NameKind.cell) else (n, k)).lookup x = some .cell ∨
     (names.map fun (n, k) => if (k == NameKind.free && env.scope.kind == .function && env.kindOf n == some .cell) then (n, NameKind.cell) else (n, k)).lookup x = some .free) →
    (x, NameKind.free) ∈ names ∨ (x, NameKind.cell) ∈ names
  | [], _, h => by simp at h
  | (n, k) :: r, x, h => by
    have ih := @relabel_back env r x
    rw [List.map_cons] at h
    by_cases hc : (k == NameKind.free && env.scope.kind == .function && env.kindOf n == some .cell) = true
    · have e : (match ((n, k) : Str × NameKind) with | (n, k) => if (k == NameKind.free && env.scope.kind == .function && env.kindOf n == some .cell) = true then (n, NameKind.cell) else (n, k)) = (n, NameKind.cell) := if_pos hc
      rw [e] at h
      simp only [List.lookup_cons] at h
      cases hx : x == n with
      | true =>
        have : x = n := by simpa using hx
        have hk : k = .free := by
          rw [Bool.and_eq_true, Bool.and_eq_true] at hc
          simpa using hc.1.1
        rw [this, hk]
        exact .inl List.mem_cons_self
      | false =>
        rw [hx] at h
        exact (ih h).imp (List.mem_cons_of_mem _) (List.mem_cons_of_mem _)
    · have e : (match ((n, k) : Str × NameKind) with | (n, k) => if (k == NameKind.free && env.scope.kind == .function && env.kindOf n == some .cell) = true then (n, NameKind.cell) else (n, k)) = (n, k) := if_neg hc
      rw [e] at h
      simp only [List.lookup_cons] at h
      cases hx : x == n with
      | true =>
        have : x = n := by simpa using hx
        rw [hx] at h
        rw [this]
        rcases h with h | h
        · cases h; exact .inr List.mem_cons_self
        · cases h; exact .inl List.mem_cons_self
      | false =>
        rw [hx] at h
        exact (ih h).imp (List.mem_cons_of_mem _) (List.mem_cons_of_mem _)
section
variable {X : Cx} {pins : List (Addr × Obj)} {σ : St} {H : Hp} {s : Shared} {N : List Str} {scope : Scope} {cl : List (Str × Addr)} {js : List (Option Nat)} {fp : List Addr}
theorem Inv.block {C : Addr} {h' : Heap} {m : Str → Option Value} {t' : Nat} (I : Inv X pins σ H s) (hf : ∀ b ∈ fp, FpOk X pins H b ∧ b < s.heap.objs.size) (hC : s.heap.objs.size ≤ C) (hk : ∀ b o, s.heap.get? b = some o → h'.get? b = some o) (hn : h'.Ns C m)
    (hkind : scope.kind = .function) (hcell : ∀ y ∈ scope.names, y.2 = .cell → scope.names.lookup y.1 = some .cell) (cO : ClOk X scope C h' cl) (cap : CapOk X N scope js) :
    Inv (cxComp X N scope cl C s H fp pins) [] (capt js σ) H { s with heap := h', toks := t' } := by
  have cellLt : ∀ x c, X.env.cells.lookup x = some c → c < s.heap.objs.size := fun x c e => by
    obtain ⟨v, q⟩ := I.cell x c e
    exact q.lt
  have pinB : ∀ p ∈ X.pn ++ pins, p.1 ∉ frs X.stack := fun p hp z => by
    obtain ⟨_, _, h3, h4, _⟩ := I.pin p hp
    rcases List.mem_cons.mp (I.stkSub _ z) with q | q
    · exact h3 q
    · exact h4 q
  have okY : (cxComp X N scope cl C s H fp pins).Ok := by
    refine ⟨I.ok.mod, hkind, I.ok.glob, I.ok.blt, hC, cO.inj, fun x hx => ?_, fun x c h e => ?_, I.ok.hd, I.ok.frames, .inl rfl, fun b hb => ⟨?_, fun x c e => ?_⟩, I.bs, Nat.le_trans I.ok.bsz I.sz,
      fun b o e hb => ?_, fun b hb z => ?_, I.stack, I.stkFree⟩
    · rcases relabel_back (env := X.env) hx with q | q
      · exact cO.has _ q (.inl rfl)
      · exact cO.has _ q (.inr rfl)
    · have h1 : scope.names.lookup x = some NameKind.cell := by simpa [cxComp] using h
      rcases cO.at_ x c e with ⟨_, z⟩ | ⟨z, _⟩
      · exact absurd (PySem.mem_of_lookup h1) z
      · exact Nat.le_trans hC (Nat.le_of_lt z)
    · exact Nat.ne_of_lt (Nat.lt_of_lt_of_le (hf b hb).2 hC)
    · rcases cO.at_ x c e with ⟨z, _⟩ | ⟨z, _⟩
      · exact (hf b hb).1.2.2.2.2.1 x c z
      · exact Nat.ne_of_gt (Nat.lt_of_lt_of_le (hf b hb).2 (Nat.le_trans hC (Nat.le_of_lt z)))
    · obtain ⟨_, _, _, h4, _⟩ := (hf b hb).1
      rcases h4 with z | z
      · exact I.ok.noex b o e z
      · exact absurd (Nat.lt_of_lt_of_le (Heap.lt_size e) (Nat.le_trans I.ok.bsz z)) (Nat.lt_irrefl _)
    · obtain ⟨_, h2, h3, _⟩ := (hf b hb).1
      rcases List.mem_cons.mp (I.stkSub _ z) with q | q
      · exact h2 q
      · exact h3 q
  refine ⟨okY, rfl, I.bare, Un.kept hk, ⟨m, hn, fun i x v e1 e2 e3 => ?_⟩, fun x c e => ?_, I.hok.fresh hC, fun x c e => ?_, fun p hp => ?_, I.hok.kept hk, ?_⟩
  · have e2' : (js.map fun o => o.bind fun j => (σ[j]?).join)[i]? = some (some v) := e2
    rw [List.getElem?_map] at e2'
    cases ej : js[i]? with
    | none => rw [ej] at e2'; cases e2'
    | some oj =>
      rw [ej] at e2'
      cases oj with
      | none => cases e2'
      | some j =>
        have e2'' : (σ[j]?).join = some v := Option.some.inj e2'
        have hσ : σ[j]? = some (some v) := by
          cases q : σ[j]? with
          | none => rw [q] at e2''; cases e2''
          | some o => rw [q] at e2''; rw [show o = some v from e2'']
        obtain ⟨hN, hfree, hX⟩ := cap.at_ i j x ej e1
        obtain ⟨mX, _, hl⟩ := I.loc
        obtain ⟨u, ru, lk⟩ := hl j x v hN hσ (hX.elim (fun z => .inr (.inl z)) fun z => .inr (.inr z))
        refine ⟨u, ru, .inr ⟨relabel_free (env := X.env) hfree, ?_⟩⟩
        rcases lk with ⟨hk1, _⟩ | ⟨_, c, hc, hcell'⟩
        · have hk1' : X.env.scope.names.lookup x = some .local := hk1
          rcases hX with z | z <;> rw [z] at hk1' <;> cases hk1'
        · obtain ⟨c', hc'⟩ := cO.has _ (PySem.mem_of_lookup hfree) (.inl rfl)
          have hX' : X.env.cells.lookup x = some c' := by
            rcases cO.at_ x c' hc' with ⟨z, _⟩ | ⟨_, z, _⟩
            · exact z
            · have := hcell _ z rfl
              rw [hfree] at this; cases this
          have : c' = c := Option.some.inj (hX'.symm.trans hc)
          subst this
          obtain ⟨o, ho, hd⟩ := hcell'
          exact ⟨c', hc', o, hk _ _ ho, hd⟩
  · rcases cO.at_ x c e with ⟨z, _⟩ | ⟨_, _, z⟩
    · obtain ⟨v, o, ho, hd⟩ := I.cell x c z
      exact ⟨v, o, hk _ _ ho, hd⟩
    · exact ⟨none, z⟩
  · rcases cO.at_ x c e with ⟨z, _⟩ | ⟨z, _⟩
    · exact I.freeC x c z
    · exact I.hok.fresh (Nat.le_trans hC (Nat.le_of_lt z))
  · have hp' : p ∈ X.pn ++ pins := by
      have : p ∈ (X.pn ++ pins) ++ [] := hp
      rwa [List.append_nil] at this
    obtain ⟨h1, h2, h3, h4, h5⟩ := I.pin p hp'
    exact ⟨hk _ _ h1, h2, Nat.ne_of_lt (Nat.lt_of_lt_of_le (Heap.lt_size h1) hC), pinB p hp', h5⟩
  · show (js.map _).length = N.length
    rw [List.length_map]; exact cap.len
theorem Inv.track {D : Addr} {o : HO} (I : Inv X pins σ H s) (h0 : X.s₀.heap.objs.size ≤ D) (hn : H D = none) (hL : D ≠ X.env.locals) (hc : ∀ x c, X.env.cells.lookup x = some c → c ≠ D) (hp : ∀ p ∈ X.pn ++ pins, p.1 ≠ D)
    (new : ObjOk X.prog X.w (upd H D o) s.heap D o) : Inv X pins σ (upd H D o) s := by
  have old : ∀ b ob, X.s₀.heap.get? b = some ob → b ≠ D := fun b ob e => Nat.ne_of_lt (Nat.lt_of_lt_of_le (Heap.lt_size e) h0)
  refine ⟨I.ok, I.os, I.bare, ⟨I.base.keep, I.base.slot, fun b ob e n hx => ?_, I.base.there, fun b xs e => ?_, fun b ob u e => ?_, fun b ps e => ?_⟩, I.loc, I.cell, ?_, fun x c e => ?_, fun p hp' => ?_, fun b u e => ?_, I.len⟩
  · rw [upd_ne (old b ob e)]; exact I.base.free b ob e n hx
  · have q := I.base.tups b xs e
    rw [upd_ne (ne_of_none q hn)]; exact q
  · have q := I.base.frzs b ob u e
    rw [upd_ne (ne_of_none q hn)]; exact q
  · obtain ⟨more, q⟩ := I.base.tbls b ps e
    exact ⟨more, by rw [upd_ne (ne_of_none q hn)]; exact q⟩
  · rw [upd_ne (Ne.symm hL)]; exact I.free
  · rw [upd_ne (hc x c e)]; exact I.freeC x c e
  · obtain ⟨h1, h2, h3⟩ := I.pin p hp'
    exact ⟨h1, by rw [upd_ne (hp p hp')]; exact h2, h3⟩
  · by_cases hb : b = D
    · subst hb; rw [upd_same] at e; cases e; exact new
    · rw [upd_ne hb] at e
      exact (I.hok b u e).stay (fun c v _ q => q) (fun c z => by rw [upd_ne (ne_of_none z hn)]; exact z) fun c xs z => by rw [upd_ne (ne_of_none z hn)]; exact z
theorem Inv.unblock {C D : Addr} {s' : Shared} {σ' : St} {H' : Hp} {ys : List V} {its : List Value} {n : Nat} (I : Inv X pins σ H s) (hf : ∀ b ∈ fp, FpOk X pins H b ∧ b < s.heap.objs.size) (hC : s.heap.objs.size ≤ C) (hD : s.heap.objs.size ≤ D) (hDC : D ≠ C)
    (J : Inv (cxComp X N scope cl C s H fp pins) [(D, { cls := .type "list", data := .seq its.toArray n })] σ' H' s') (hv : Vals ys its) (hz : ys.length ≤ sizeLine) :
    Inv X pins σ (upd H' D (.lst ys)) s' ∧ FpOk X pins (upd H' D (.lst ys)) C ∧ H' D = none ∧ ∃ m, s'.heap.Ns C m := by
  have hfr : H' C = none := J.free
  have hDn : H' D = none := (J.pin (D, _) (List.mem_append_right _ (List.mem_singleton.mpr rfl))).2.1
  have hDo : s'.heap.get? D = some { cls := .type "list", data := .seq its.toArray n } := (J.pin (D, _) (List.mem_append_right _ (List.mem_singleton.mpr rfl))).1
  have u : Un (frs X.stack) fp H H' s.heap s'.heap := J.base
  obtain ⟨hh, g, d, t, os'⟩ := s'
  have eos : os' = s.os := J.os
  subst eos
  have I1 : Inv X pins σ H' { s with heap := hh, gens := g, drawn := d, toks := t } :=
    I.call (h' := hh) (g' := g) (d' := d) (t' := t) (ch := fp) u J.hok J.bare fun b hb => ⟨(hf b hb).1.2.2.2.1, (hf b hb).1.2.1, (hf b hb).1.2.2.2.2.1, (hf b hb).1.2.2.2.2.2⟩
  have Dl : D ≠ X.env.locals := Nat.ne_of_gt (Nat.lt_of_lt_of_le I.lt hD)
  have young : ∀ a, s.heap.objs.size ≤ a → (∀ x c, X.env.cells.lookup x = some c → c ≠ a) ∧ ∀ p ∈ X.pn ++ pins, p.1 ≠ a := fun a ha => ⟨fun x c e z => by
      obtain ⟨v, q⟩ := I.cell x c e
      exact absurd (Nat.lt_of_lt_of_le q.lt (by rw [z]; exact ha)) (Nat.lt_irrefl _), fun p hp z => absurd (Nat.lt_of_lt_of_le (Heap.lt_size (I.pin p hp).1) (by rw [z]; exact ha)) (Nat.lt_irrefl _)⟩
  refine ⟨I1.track (Nat.le_trans I.sz hD) hDn Dl (young D hD).1 (young D hD).2 ⟨hz, its, n, hv, hDo⟩, ⟨by rw [upd_ne (Ne.symm hDC)]; exact hfr, Nat.ne_of_gt (Nat.lt_of_lt_of_le I.lt hC), I.nofs hC, .inr (Nat.le_trans I.sz hC), (young C hC).1, (young C hC).2⟩, hDn, ?_⟩
  obtain ⟨m, hn, _⟩ := J.loc
  exact ⟨m, hn⟩
end
end L2
namespace L2
open PySem PySem.Spec PyProof.Rows
def PIfs (Y : Cx) (ifs : List Expr) (tt : TT) : Prop :=
  ∀ (pins : List (Addr × Obj)) (s : Shared) (σ : St) (H : Hp) (Q : Bool → Hp → Prop), Inv Y pins σ H s → tt σ H Q →
    wpAny (model Y.prog Y.w) Y.A (forIn ifs true fun c r => if r = true then do let ok ← isTrue c Y.env (eval c Y.env); pure (ForInStep.yield ok) else pure (ForInStep.yield r)) (TP Y pins σ Q) Y.xe s
def tTrue : TT := fun _ H Q => Q true H
theorem pifs_nil {Y : Cx} : PIfs Y [] tTrue := fun _ _ _ H _ I h => wpAny_pure ⟨H, I, h⟩
theorem pifs_one {Y : Cx} {c : Expr} {tt : TT} (h : PT Y c tt) : PIfs Y [c] tt := by
  intro pins s σ H Q I hw
  simp only [List.forIn_cons, List.forIn_nil, if_true]
  exact wpAny_bind (wpAny_bind (wpAny_mono (h pins s σ H Q I hw) (fun b s' hb => wpAny_pure (wpAny_pure hb)) fun _ _ x => x))
def LoopC (J : It) (g : TG) (tt : TT) (te : TE) (W : Nat → Nat → St → List V → Hp → Prop) (Q : V → Hp → Prop) : Prop :=
  ∀ i m σ' ys H', W i m σ' ys H' → (J.stop i H' ∧ ∀ D, H' D = none → Q (.ref D) (upd H' D (.lst ys))) ∨
    (J.go i H' ∧ ∃ N : St → List V → Hp → Prop, (∀ σ2 zs H2, N σ2 zs H2 → zs.length ≤ sizeLine ∧ ∃ m', m' < m ∧ W (i + 1) m' σ2 zs H2) ∧
      ∀ x H2, J.yld i H' x H2 → g x σ' H2 fun σ2 H3 => tt σ2 H3 fun ok H4 => if ok = true then te σ2 H4 fun y H5 => N σ2 (ys ++ [y]) H5 else N σ2 ys H4)
section
variable {X : Cx} {pins : List (Addr × Obj)} {σ : St} {H : Hp} {s : Shared} {N : List Str} {scope : Scope} {cl : List (Str × Addr)} {js : List (Option Nat)} {fp : List Addr} {tg elt iter : Expr} {ifs : List Expr} {pos : Pos} {J : It} {it : Addr} {tn : Nat → Heap → Prop} {g : TG} {tt : TT} {te : TE}
theorem comp_core {W : Nat → Nat → St → List V → Hp → Prop} {Q : V → Hp → Prop} {m0 : Nat} {RR : Value → Addr → Result → Shared → Prop} {E : Value → Shared → Prop} (hc : X.calm = true)
    (hg : ∀ cl C s H ex pins, PG (cxComp X N scope cl C s H ex pins) tg g) (ht : ∀ cl C s H ex pins, PIfs (cxComp X N scope cl C s H ex pins) ifs tt) (he : ∀ cl C s H ex pins, PE (cxComp X N scope cl C s H ex pins) elt te)
    (hkind : scope.kind = .function) (hcell : ∀ y ∈ scope.names, y.2 = .cell → scope.names.lookup y.1 = some .cell) (hc1 : ∀ x c, cl.lookup x = some c → X.env.cells.lookup x = some c) (hc2 : ∀ y ∈ scope.names, y.2 = .free → ∃ c, cl.lookup y.1 = some c) (cap : CapOk X N scope js)
    (I : Inv X pins σ H s) (T : Turn X.prog X.w X.K tg J fp it tn) (st : tn 0 s.heap) (f : ∀ b ∈ fp, FpOk X pins H b) (w0 : W 0 m0 (capt js σ) [] H) (turn : LoopC J g tt te W Q)
    (hRR : ∀ (D C : Addr) (s' : Shared) (ys : List V) (H' : Hp), Inv X pins σ (upd H' D (.lst ys)) s' → FpOk X pins (upd H' D (.lst ys)) C → (∃ m, s'.heap.Ns C m) → Q (.ref D) (upd H' D (.lst ys)) → RR (.ref D) C (.ok .next) s') :
    wpAny (model X.prog X.w) X.A (newList []) (fun acc s₃ => wpAny (model X.prog X.w) X.A (newFunctionEnv scope X.env.globals cl [] X.env.qual none .none (some X.env)) (fun cenv s₄ =>
      codeAny (model X.prog X.w) X.A (.compStart (.ListComp elt [⟨tg, iter, ifs, 0⟩] scope pos) 0 (.ref it) acc { cenv with scope := relabel scope X.env }) (RR acc cenv.locals) s₄) E s₃) E s := by
  have flt : ∀ b ∈ fp, b < s.heap.objs.size := fun b hb => by
    obtain ⟨o, ho, _⟩ := T.obj 0 _ st b hb
    exact Heap.lt_size ho
  have ff : ∀ b ∈ fp, FpOk X pins H b ∧ b < s.heap.objs.size := fun b hb => ⟨f b hb, flt b hb⟩
  refine wpAny_newObj_type (newEnv_own ?_)
  dsimp only
  generalize hH2 : s.heap.push { cls := .type "list", dict := none, data := .seq ([] : List Value).toArray } = H2
  have hC : H2.objs.size = s.heap.objs.size + 1 := by rw [← hH2, Heap.size_push]
  have hDC : s.heap.objs.size ≠ H2.objs.size := by rw [hC]; exact Nat.ne_of_lt (Nat.lt_succ_self _)
  have hCle : s.heap.objs.size ≤ H2.objs.size := by rw [hC]; exact Nat.le_succ _
  have below : ∀ b, b < s.heap.objs.size → b ≠ H2.objs.size ∧ b ≠ s.heap.objs.size := fun b hb => ⟨by rw [hC]; exact Nat.ne_of_lt (Nat.lt_succ_of_lt hb), Nat.ne_of_lt hb⟩
  have hns₁ : (pushCells (H2.push { cls := .type "dict", data := .dict #[] }) scope.names).Ns H2.objs.size (fun _ => none) := (Heap.Ns.new H2 (.type "dict")).keeps (pushCells_keeps _ _)
  have old : ∀ b o, s.heap.get? b = some o → (pushCells (H2.push { cls := .type "dict", data := .dict #[] }) scope.names).get? b = some o := fun b o e => pushCells_keeps _ _ b o (Heap.get?_push_of_some _ (hH2 ▸ Heap.get?_push_of_some _ e))
  have hacc : (pushCells (H2.push { cls := .type "dict", data := .dict #[] }) scope.names).get? s.heap.objs.size = some { cls := .type "list", dict := none, data := .seq ([] : List Value).toArray } := pushCells_keeps _ _ _ _ (Heap.get?_push_of_some _ (hH2 ▸ Heap.get?_push_size _ rfl))
  have hlt : ∀ x c, cl.lookup x = some c → c < H2.objs.size + 1 := fun x c e => by
    obtain ⟨v, q⟩ := I.cell x c (hc1 x c e)
    exact Nat.lt_succ_of_lt (Nat.lt_of_lt_of_le q.lt hCle)
  have hsz : (H2.push { cls := .type "dict", data := .dict #[] }).objs.size = H2.objs.size + 1 := Heap.size_push ..
  have cO : ClOk X scope H2.objs.size (pushCells (H2.push { cls := .type "dict", data := .dict #[] }) scope.names) (cellsFrom (H2.objs.size + 1) scope.names cl) := by
    refine ⟨fun x c e => ?_, fun y hy hk => ?_, cellsFrom_inj _ _ _ hlt fun x y c e1 e2 => I.ok.inj x y c (hc1 x c e1) (hc1 y c e2)⟩
    · rw [← hsz] at e
      rcases cellsFrom_at _ _ _ x c e with ⟨e1, e2⟩ | ⟨e1, e2, e3⟩
      · exact .inl ⟨hc1 x c e1, e2⟩
      · exact .inr ⟨by rw [hsz] at e1; exact e1, e2, e3⟩
    · obtain ⟨y, k⟩ := y
      refine cellsFrom_has _ _ _ _ ?_
      rcases hk with hk | hk
      · exact .inr (hc2 _ hy hk)
      · exact .inl (by rw [← hk]; exact hy)
  show codeAny _ _ (.compStart _ 0 _ _ (compEnvC scope (cellsFrom (H2.objs.size + 1) scope.names cl) H2.objs.size X.env)) _ _
  generalize cellsFrom (H2.objs.size + 1) scope.names cl = cl' at *
  generalize pushCells (H2.push { cls := .type "dict", data := .dict #[] }) scope.names = h₁ at *
  clear hc1 hc2 hlt hsz
  generalize H2.objs.size = C at *
  generalize hDd : s.heap.objs.size = D at *
  have hDle : s.heap.objs.size ≤ D := Nat.le_of_eq hDd
  have hCle' : s.heap.objs.size ≤ C := by rw [hDd]; exact hCle
  -- the block's own invariant
  have J0 : Inv (cxComp X N scope cl' C s H fp pins) [] (capt js σ) H { s with heap := h₁ } :=
    I.block (fun b hb => ⟨f b hb, by rw [hDd]; exact flt b hb⟩) hCle' old hns₁ hkind hcell cO cap
  have stk : ∀ b, b ∉ X.fs → b ≠ X.env.locals → b ∉ frs X.stack := fun b h1 h2 z => by
    rcases List.mem_cons.mp (I.stkSub _ z) with q | q
    · exact h2 q
    · exact h1 q
  have Dstk : D ∉ frs X.stack := stk D (I.nofs hDle) (Nat.ne_of_gt (Nat.lt_of_lt_of_le I.lt hDle))
  have Dcell : ∀ x c, cl'.lookup x = some c → c ≠ D := fun x c e z => by
    rcases cO.at_ x c e with ⟨e, _⟩ | ⟨e, _⟩
    · obtain ⟨v, q⟩ := I.cell x c e
      exact absurd (Nat.lt_of_lt_of_le q.lt (by rw [z]; exact hDle)) (Nat.lt_irrefl _)
    · exact absurd e (by rw [z]; exact Nat.not_lt.mpr hCle)
  have Dpn : ∀ p ∈ X.pn ++ pins, p.1 ≠ D := fun p hp z => absurd (Nat.lt_of_lt_of_le (Heap.lt_size (I.pin p hp).1) (by rw [z]; exact hDle)) (Nat.lt_irrefl _)
  -- the list under way is pinned
  have pinD : ∀ {ps : List (Addr × Obj)} {σ' : St} {H' : Hp} {s' : Shared} {its : List Value} {n : Nat}, Inv (cxComp X N scope cl' C s H fp pins) ps σ' H' s' → H' D = none → s'.heap.get? D = some { cls := .type "list", data := .seq its.toArray n } →
      Inv (cxComp X N scope cl' C s H fp pins) [(D, { cls := .type "list", data := .seq its.toArray n })] σ' H' s' := fun {ps σ' H' s' its n} Jx hn ho => Jx.pins_of fun p hp => by
    obtain rfl := List.mem_singleton.mp hp
    exact ⟨ho, hn, hDC, Dstk, fun v z => by cases z⟩
  have stat : ∀ {H' : Hp} {ob : Obj}, (∀ b ∈ fp, H' b = none) → ∀ b ∈ fp, FpOk (cxComp X N scope cl' C s H fp pins) [(D, ob)] H' b := fun {H' ob} hn b hb => by
    obtain ⟨_, f1, f2, f3, f4, f5⟩ := f b hb
    refine ⟨hn b hb, (below b (flt b hb)).1, stk b f2 f1, .inl hb, fun x c e => (cO.at_ x c e).elim (fun z => f4 x c z.1) (fun z => Nat.ne_of_gt (Nat.lt_of_lt_of_le (flt b hb) (Nat.le_trans hCle (Nat.le_of_lt z.1)))), fun p hp => ?_⟩
    rcases List.mem_append.mp hp with z | z
    · exact f5 p z
    · obtain rfl := List.mem_singleton.mp z
      exact Ne.symm (below b (flt b hb)).2
  have loop : ∀ s₃ : Shared, s₃ = { s with heap := h₁ } →
      codeAny (model X.prog X.w) X.A (.compLoop (.ListComp elt [⟨tg, iter, ifs, 0⟩] scope pos) 0 (.ref it) (.ref D) (compEnvC scope cl' C X.env)) (RR (.ref D) C) s₃ := by
    rintro s₃ rfl
    refine compLoop_gen (fun k s' => ∃ (i : Nat) (σ' : St) (ys : List V) (H' : Hp) (its : List Value) (n : Nat), Inv (cxComp X N scope cl' C s H fp pins) [(D, { cls := .type "list", data := .seq its.toArray n })] σ' H' s' ∧ Vals ys its ∧ ys.length ≤ sizeLine ∧ tn i s'.heap ∧ (∀ b ∈ fp, H' b = none) ∧ W i k σ' ys H') ?_ m0
      ⟨0, capt js σ, [], H, [], 0, pinD J0 (I.hok.fresh hDle) hacc, .nil, Nat.zero_le _, T.keep _ _ _ st fun b _ o e => old b o e, fun b hb => (f b hb).1, w0⟩
    rintro k s' ⟨i, σ', ys, H', its, n, J', hv, hz, st', fr', w'⟩
    rcases turn i k σ' ys H' w' with ⟨stop, q⟩ | ⟨go, NN, hN, step⟩
    · refine wpAny_mono (T.done (cxComp X N scope cl' C s H fp pins) rfl rfl rfl hc i _ s' σ' H' (fun _ _ => False) J' (stat fr') st' stop) (fun r s4 ⟨hr, J4⟩ => ?_) fun _ _ z => z.elim
      subst hr
      obtain ⟨K1, K2, K3, K4⟩ := I.unblock (fun b hb => ⟨f b hb, by rw [hDd]; exact flt b hb⟩) hCle' hDle hDC J4 hv hz
      exact hRR D C s4 ys H' K1 K2 K4 (q D K3)
    · refine wpAny_mono (T.item (cxComp X N scope cl' C s H fp pins) rfl rfl rfl hc i _ s' σ' H' (fun _ _ => False) J' (stat fr') st' go) (fun r s4 ⟨u, hr, h4⟩ => ?_) fun _ _ z => z.elim
      subst hr
      refine wpAny_mono h4 (fun _ s5 ⟨x, H5, J5, r5, y5, st5, fr5⟩ => ?_) fun _ _ z => z.elim
      have J5' := J5.pinned (stat fr5) (T.obj _ _ st5)
      have keepT : ∀ {σ7 : St} {H7 : Hp} {s7 : Shared}, Inv (cxComp X N scope cl' C s H fp pins) ([(D, { cls := .type "list", data := .seq its.toArray n })] ++ pinsAt fp s5.heap) σ7 H7 s7 → tn (i + 1) s7.heap ∧ ∀ b ∈ fp, H7 b = none := fun {σ7 H7 s7} J7 =>
        ⟨T.keep _ _ _ st5 fun b hb o e => (J7.pin (b, o) (List.mem_append_right _ (List.mem_append_right _ (mem_pinsAt hb e)))).1, fun b hb => by
          obtain ⟨o, e, d⟩ := T.obj _ _ st5 b hb
          exact (J7.pin (b, o) (List.mem_append_right _ (List.mem_append_right _ (mem_pinsAt hb e)))).2.1⟩
      refine wpAny_mono (hg cl' C s H fp pins _ s5 σ' H5 x u _ J5' r5 (step x H5 y5)) (fun _ s6 ⟨σ6, H6, J6, q6⟩ => ?_) fun _ _ z => (show False from z).elim
      refine wpAny_mono (ht cl' C s H fp pins _ s6 σ6 H6 _ J6 q6) (fun ok s7 ⟨H7, J7, q7⟩ => ?_) fun _ _ z => (show False from z).elim
      cases ok with
      | false =>
        have q7' : NN σ6 ys H7 := q7
        obtain ⟨hz', m', hm, w7⟩ := hN σ6 ys H7 q7'
        obtain ⟨t7, f7⟩ := keepT J7
        exact ⟨m', hm, i + 1, σ6, ys, H7, its, n, J7.unpinned, hv, hz, t7, f7, w7⟩
      | true =>
        refine wpAny_mono (he cl' C s H fp pins _ s7 σ6 H7 _ J7 q7) (fun y s8 ⟨v, H8, J8, r8, q8⟩ => ?_) fun _ _ z => (show False from z).elim
        obtain ⟨hz', m', hm, w8⟩ := hN σ6 (ys ++ [v]) H8 q8
        obtain ⟨t8, f8⟩ := keepT J8
        have pD := J8.pin (D, _) (List.mem_append_right _ (List.mem_append_left _ (List.mem_singleton.mpr rfl)))
        have hzi : its.toArray.size ≤ sizeLine := by rw [List.size_toArray, ← hv.length]; exact hz
        refine wpAny_list_append_plain (hsz := hzi) (items := its.toArray) ⟨n, pD.1⟩ fun h9 hl9 sb9 => ?_
        obtain ⟨n9, ho9⟩ := hl9
        have ho9' : h9.get? D = some { cls := .type "list", data := .seq (its ++ [y]).toArray n9 } := by rw [ho9]; simp
        have J8' : Inv (cxComp X N scope cl' C s H fp pins) [] σ6 H8 s8 := J8.pins_of fun p hp => (nomatch hp)
        have J9 : Inv (cxComp X N scope cl' C s H fp pins) [] σ6 H8 { s8 with heap := h9 } := J8'.turned (t' := s8.toks) (it := D) (fun b o hb e => (sb9.2 b hb).trans e) pD.2.1 hDC (.inr hDle) Dcell fun p hp => Dpn p (by
          have : p ∈ (X.pn ++ pins) ++ [] := hp
          rwa [List.append_nil] at this)
        refine ⟨m', hm, i + 1, σ6, ys ++ [v], H8, its ++ [y], n9, pinD J9 pD.2.1 ho9', hv.append (.cons r8 .nil), hz', T.keep _ _ _ t8 fun b hb o e => (sb9.2 b (below b (flt b hb)).2).trans e, f8, w8⟩
  exact codeAny_compStart_list (loop _ rfl) (T.self X.A 0 _ _ _ (T.keep _ _ _ st fun b _ o e => old b o e) (loop _ rfl))
def tLC (wi : TI) (g : TG) (tt : TT) (te : TE) (js : List (Option Nat)) : TE := fun σ H Q => wi σ H fun J H1 => ∃ W : Nat → Nat → St → List V → Hp → Prop, (∃ m, W 0 m (capt js σ) [] H1) ∧ LoopC J g tt te W Q
theorem pe_lc {wi : TI} (js : List (Option Nat)) (N : List Str) (hc : X.calm = true) (cap : CapOk X N scope js) (hi : PI X tg iter wi) (hg : ∀ cl C s H ex pins, PG (cxComp X N scope cl C s H ex pins) tg g) (ht : ∀ cl C s H ex pins, PIfs (cxComp X N scope cl C s H ex pins) ifs tt)
    (he : ∀ cl C s H ex pins, PE (cxComp X N scope cl C s H ex pins) elt te)
    (hkind : scope.kind = .function := by rfl) (hcell : ∀ y ∈ scope.names, y.2 = .cell → scope.names.lookup y.1 = some .cell := by decide +kernel) (hnames : ∀ y ∈ scope.names, y.2 = .local → scope.names.lookup y.1 = some .local := by decide +kernel)
    (hs : ∀ x, foldedSetIterable iter X.env x = pure x := by intro _; rfl) : PE X (.ListComp elt [⟨tg, iter, ifs, 0⟩] scope pos) (tLC wi g tt te js) := by
  intro pins s σ H Q I h
  obtain ⟨cl, hclos, hc1, hc2⟩ := closure_for (scope := scope) (env := X.env) fun y hy hf => I.ok.has _ (cap.fr y hy hf)
  rw [eval_ListComp]
  refine wpAny_comprehension_free (use := none) rfl hs hclos hkind hnames (thn (hi pins s σ H _ I h) fun v s1 h1 => thn h1 fun itv s2 h2 => ?_)
  obtain ⟨it, fp, tn, J, H2, rfl, I2, T, st2, f2, W, ⟨m0, w0⟩, turn⟩ := h2
  refine comp_core (RR := fun acc C => compPost (model X.prog X.w) X.A X.xe none (EP X pins σ Q) acc C) hc hg ht he hkind hcell hc1 hc2 cap I2 T st2 f2 w0 turn fun D C s' ys H' K1 K2 K3 q => ?_
  obtain ⟨m, hm⟩ := K3
  refine ⟨m, hm, fun h' sb => ⟨.ref D, _, K1.turned (t' := s'.toks) (it := C) (fun b o hb e => (sb.2 b hb).trans e) K2.1 K2.2.1 K2.2.2.2.1 K2.2.2.2.2.1 K2.2.2.2.2.2, rfl, q⟩⟩
theorem ps_setC {wi : TI} {k : Nat} {y : Str} {py spos : Pos} (js : List (Option Nat)) (N : List Str) (hc : X.calm = true) (cap : CapOk X N scope js) (hN : X.N.Nodup) (hk : X.N[k]? = some y) (hy : Loc X.env.scope y) (hi : PI X tg iter wi) (hg : ∀ cl C s H ex pins, PG (cxComp X N scope cl C s H ex pins) tg g) (ht : ∀ cl C s H ex pins, PIfs (cxComp X N scope cl C s H ex pins) ifs tt)
    (he : ∀ cl C s H ex pins, PE (cxComp X N scope cl C s H ex pins) elt te)
    (hsw : swapsWith (.ListComp elt [⟨tg, iter, ifs, 0⟩] scope pos) (some (.Name y py)) spos.line X.env = pure true := by rfl)
    (hkind : scope.kind = .function := by rfl) (hcell : ∀ y ∈ scope.names, y.2 = .cell → scope.names.lookup y.1 = some .cell := by decide +kernel) (hnames : ∀ y ∈ scope.names, y.2 = .local → scope.names.lookup y.1 = some .local := by decide +kernel)
    (hs : ∀ x, foldedSetIterable iter X.env x = pure x := by intro _; rfl) (hf : X.fn y = true ∨ X.env.scope.names.lookup y = some .local := by first | exact .inl rfl | exact .inr rfl | assumption) :
    PS X (.Assign [.Name y py] (.ListComp elt [⟨tg, iter, ifs, 0⟩] scope pos) spos) (tAsg (tLC wi g tt te js) (gName k)) := by
  intro pins s σ H D I h
  obtain ⟨cl, hclos, hc1, hc2⟩ := closure_for (scope := scope) (env := X.env) fun y hy hf => I.ok.has _ (cap.fr y hy hf)
  rw [exec_Assign_Name_used _ _ _ _ hsw]
  refine wpAny_bind (wpAny_standAt (wpAny_bind ?_))
  show wpAny _ X.A (do let _ ← comprehension (.ListComp elt [⟨tg, iter, ifs, 0⟩] scope pos) scope X.env _ (newList []) false (eval iter X.env) (some (assign (.Name y py) X.env))) _ _ s
  refine wpAny_bind (wpAny_mono (wpAny_comprehension_free (use := some (assign (.Name y py) X.env)) (Q := fun _ s' => SP X pins D .next s') rfl hs hclos hkind hnames
    (thn (hi pins s σ H _ I h) fun v s1 h1 => thn h1 fun itv s2 h2 => ?_)) (fun _ s' hq => wpAny_pure (wpAny_pure hq)) fun _ _ e => e)
  obtain ⟨it, fp, tn, J, H2, rfl, I2, T, st2, f2, W, ⟨m0, w0⟩, turn⟩ := h2
  refine comp_core (RR := fun acc C => compPost (model X.prog X.w) X.A X.xe (some (assign (.Name y py) X.env)) (fun _ s' => SP X pins D .next s') acc C) hc hg ht he hkind hcell hc1 hc2 cap I2 T st2 f2 w0 turn fun Dd C s' ys H' K1 K2 K3 q => ?_
  obtain ⟨m, o, es, ep, ho, hd, hr⟩ := K3
  have Kp : Inv X (pins ++ [(C, o)]) σ (upd H' Dd (.lst ys)) s' := K1.pins_of fun p hp => by
    rcases List.mem_append.mp hp with z | z
    · exact K1.pin p (List.mem_append_right _ z)
    · obtain rfl := List.mem_singleton.mp z
      exact ⟨ho, K2.1, K2.2.1, K2.2.2.1, fun v z => by rw [hd] at z; cases z⟩
  show wpAny _ X.A (assign (.Name y py) X.env (.ref Dd)) _ _ _
  refine wpAny_assign_Name (store_ok (v := .ref Dd) Kp hN hk hy rfl (fun s3 I3 => ?_) hf)
  have pC := I3.pin (C, o) (List.mem_append_right _ (List.mem_append_right _ (List.mem_singleton.mpr rfl)))
  refine ⟨m, ⟨o, es, ep, pC.1, hd, hr⟩, fun h' sb => ?_⟩
  have I4 : Inv X pins (σ.set k (some (.ref Dd))) (upd H' Dd (.lst ys)) s3 := I3.unpinned
  exact ⟨_, _, I4.turned (t' := s3.toks) (it := C) (fun b o hb e => (sb.2 b hb).trans e) K2.1 K2.2.1 K2.2.2.2.1 K2.2.2.2.2.1 K2.2.2.2.2.2, q⟩
end
end L2
namespace L2
open PySem PySem.Spec PyProof.Rows
mutual
inductive RdD (K : W.Frag) (H : Hp) : V → PyData → Prop
  | non : RdD K H .non .none
  | bl (b : Bool) : RdD K H (.bl b) (.bool b)
  | int (i : Int) : RdD K H (.int i) (.int i)
  | str (x : Str) : RdD K H (.str x) (.str x)
  | lst {a : Addr} {xs : List V} {ds : List PyData} : SqL K H a xs → RdAll K H xs ds → RdD K H (.ref a) (.list ds)
  | tup {a : Addr} {xs : List V} {ds : List PyData} : SqT K H a xs → RdAll K H xs ds → RdD K H (.ref a) (.tuple ds)
inductive RdAll (K : W.Frag) (H : Hp) : List V → List PyData → Prop
  | nil : RdAll K H [] []
  | cons {x : V} {xs : List V} {d : PyData} {ds : List PyData} : RdD K H x d → RdAll K H xs ds → RdAll K H (x :: xs) (d :: ds)
end
section
variable {X : Cx} {pins : List (Addr × Obj)} {σ : St} {H : Hp} {s : Shared}
mutual
theorem Inv.reads (I : Inv X pins σ H s) : ∀ {v : V} {d : PyData} {u : Value}, RdD X.K H v d → RelV v u → ∃ as, Reads s.heap u d as
  | _, _, _, .non, r => by cases r; exact ⟨_, .none⟩
  | _, _, _, .bl b, r => by cases r; exact ⟨_, .bool b⟩
  | _, _, _, .int i, r => by obtain ⟨t, rfl⟩ := r; exact ⟨_, .int i t⟩
  | _, _, _, .str x, r => by obtain ⟨t, rfl⟩ := r; exact ⟨_, .str x t⟩
  | _, _, _, .lst hs ha, r => by
    cases r
    obtain ⟨its, rv, ⟨o, n, e, hc, _, hd⟩, _⟩ := I.list hs
    obtain ⟨as, q⟩ := I.readsAll ha rv
    exact ⟨_, .list e hc hd (by simpa using q)⟩
  | _, _, _, .tup hs ha, r => by
    cases r
    obtain ⟨its, rv, ⟨o, e, hc, n, hd⟩, _⟩ := I.tuple hs
    obtain ⟨as, q⟩ := I.readsAll ha rv
    exact ⟨_, .tuple e hc hd (by simpa using q)⟩
theorem Inv.readsAll (I : Inv X pins σ H s) : ∀ {vs : List V} {ds : List PyData} {us : List Value}, RdAll X.K H vs ds → Vals vs us → ∃ as, ReadsAll s.heap us ds as
  | _, _, _, .nil, r => by cases r; exact ⟨_, .nil⟩
  | _, _, _, .cons h t, r => by
    cases r with
    | cons r1 r2 =>
      obtain ⟨as, q⟩ := I.reads h r1
      obtain ⟨bs, q2⟩ := I.readsAll t r2
      exact ⟨_, .cons q q2⟩
end
end
section
variable {X : Cx}
theorem op_eqD (hu : X.A.units + 64 < cLine) : OpR X (compareOp .Eq) (fun x y H Q => ∃ dx dy, RdD X.K H x dx ∧ RdD X.K H y dy ∧ dx.canLay0 = true ∧ dy.canLay0 = true ∧ dx.depth ≤ 60 ∧ Q (.bl (PyData.eqv dx dy)) H) := by
  intro pins s σ H x y v u Q I rx ry h
  obtain ⟨dx, dy, h1, h2, c1, c2, hd, q⟩ := h
  obtain ⟨as, r1⟩ := I.reads h1 rx
  obtain ⟨bs, r2⟩ := I.reads h2 ry
  exact SeqAt.compareEq_reads r1 r2 c1 c2 (by omega) ⟨.bl _, H, I, rfl, q⟩
theorem op_neD (hu : X.A.units + 64 < cLine) : OpR X (compareOp .NotEq) (fun x y H Q => ∃ dx dy, RdD X.K H x dx ∧ RdD X.K H y dy ∧ dx.canLay0 = true ∧ dy.canLay0 = true ∧ dx.depth ≤ 60 ∧ Q (.bl (!PyData.eqv dx dy)) H) := by
  intro pins s σ H x y v u Q I rx ry h
  obtain ⟨dx, dy, h1, h2, c1, c2, hd, q⟩ := h
  obtain ⟨as, r1⟩ := I.reads h1 rx
  obtain ⟨bs, r2⟩ := I.reads h2 ry
  exact SeqAt.compareNe_reads r1 r2 c1 c2 (by omega) ⟨.bl _, H, I, rfl, q⟩
end
end L2
namespace L2
open PySem PySem.Spec PyProof.Rows
theorem nd1 {x : Str} : ([x] : List Str).Nodup := List.nodup_cons.mpr ⟨List.not_mem_nil, List.nodup_nil⟩
def rIsi (K : W.Frag) (T : String) : List V → Hp → VK → Prop := fun xs H Q => ∃ x t b, xs = [x, .ty T] ∧ TyOf K H x t ∧ W.kitOne K t (.type T) = some b ∧ Q (.bl b) H
theorem call_isi {X : Cx} {T : String} : CallR X (.builtin "isinstance") (rIsi X.K T) := call_isinst
end L2
namespace L2
open PySem PySem.Spec PyProof.Rows
end L2
namespace L2
open PySem PySem.Spec PyProof.Rows
def Its (x : Str) : It := ⟨fun i _ => i < x.cps.size, fun i H v H' => H' = H ∧ ∃ c, x.cps[i]? = some c ∧ v = .str ⟨#[c]⟩, fun i _ => x.cps.size ≤ i⟩
theorem turn_str {P : Program} {w : World} {K : W.Frag} {tg : Expr} {it : Addr} {x : Str} {t : Tok} {ty : String} (hty : ["enumerate", "zip", "dict_itemiterator", "dict_reverseitemiterator", "odict_iterator", "itertools.zip_longest", "itertools.pairwise"].contains ty = false)
    (W : ∀ A' : Around, A'.handled = none → Walks P w A' it [it] [it] x.cps.size (SignAt x) (fun i h => h.IsStrIter it ty x t i))
    (hself : ∀ (A : Around) (i : Nat) (s : Shared) (Q : Value → Shared → Prop) (E : Value → Shared → Prop), s.heap.IsStrIter it ty x t i → Q (.ref it) s → wpAny (model P w) A (pyIter (.ref it)) Q E s) : Turn P w K tg (Its x) [it] it (fun i h => i ≤ x.cps.size ∧ h.IsStrIter it ty x t i) where
  mem := by simp
  obj := fun i h st b hb => by
    have e : b = it := by simpa using hb
    subst e
    obtain ⟨_, o, e, c, d⟩ := st
    exact ⟨o, e, fun v z => by rw [d] at z; cases z⟩
  keep := fun i h h' st k => by
    obtain ⟨hi, o, e, r⟩ := st
    exact ⟨hi, o, k it (by simp) o e, r⟩
  item := by
    intro X hP hw hK hc i pins s σ H E I hf st hg
    subst hP hw hK
    obtain ⟨f0, f1, f2, f3, f4, f5⟩ := hf it (by simp)
    obtain ⟨_, st⟩ := st
    refine (W X.A (I.ok.hd hc)).item i s _ _ hg st fun v h' tk hv st' kk => ?_
    obtain ⟨c, u, hx, rfl⟩ := hv
    have I1 : Inv X pins σ H { s with heap := h', toks := tk } := I.turned (fun b o hb e => kk b o (by simpa using hb) e) f0 f1 f3 f4 f5
    obtain ⟨o, e, hcl, hd⟩ := id st'
    exact ⟨_, rfl, go_of (s := { s with heap := h', toks := tk }) e hcl hd hty ⟨.str ⟨#[c]⟩, H, I1, ⟨u, rfl⟩, ⟨rfl, c, hx, rfl⟩, ⟨hg, st'⟩, fun b hb => (hf b hb).1⟩⟩
  done := by
    intro X hP hw hK hc i pins s σ H E I hf st hg
    subst hP hw hK
    obtain ⟨f0, f1, f2, f3, f4, f5⟩ := hf it (by simp)
    obtain ⟨hi, st⟩ := st
    have e : i = x.cps.size := Nat.le_antisymm hi hg
    subst e
    exact (W X.A (I.ok.hd hc)).done s _ _ st fun h' tk kk => ⟨rfl, I.turned (t' := tk) (fun b o hb e => kk b o (by simpa using hb) e) f0 f1 f3 f4 f5⟩
  self := fun A i s Q E st h => hself A i s Q E st.2 h
section
variable {X : Cx} {tg : Expr}
end
section
variable {X : Cx}
theorem call_allB (hc : X.calm = true) : CallR X (.builtin "all") (fun xs H Q => ∃ (a : Addr) (bs : List Bool), xs = [.ref a] ∧ SqL X.K H a (bs.map V.bl) ∧ Q (.bl (bs.all id)) H) := by
  intro pins s σ H xs us Q I r h
  obtain ⟨a, bs, rfl, hs, q⟩ := h
  obtain ⟨u, rfl, ru⟩ := vals1 r
  cases ru
  obtain ⟨its, rv, pl, hz⟩ := I.list hs
  have hl : its.length = bs.length := by rw [← rv.length, List.length_map]
  refine call_all_walk ?_
  refine wpAny_pyIter_list pl.isList ?_
  have lt : a < s.heap.objs.size := by obtain ⟨o, n, e, _⟩ := pl; exact Heap.lt_size e
  have at_ : ∀ (i : Nat) (v : Value), its.toArray[i]? = some v → v = Value.bool (bs.getD i true) := fun i v hv => by
    have hv' : its[i]? = some v := by simpa using hv
    have hi : i < bs.length := by
      have := (List.getElem?_eq_some_iff.mp hv').1
      omega
    have hx : (bs.map V.bl)[i]? = some (.bl (bs.getD i true)) := by
      rw [List.getElem?_map, List.getElem?_eq_getElem hi]
      simp [List.getD, List.getElem?_eq_getElem hi]
    obtain ⟨u, hu, ru⟩ := rv.get hx
    rw [hv'] at hu
    cases hu
    exact ru
  refine ⟨s.heap.objs.size, _, _, _, _, _, fun i => bs.getD i true, rfl, Walks.list (A := X.A.in1) (show X.A.in1.handled = none from I.ok.hd hc) _ a (Nat.ne_of_lt lt) its.toArray, ⟨⟨_, Heap.get?_push_size _ rfl, rfl, rfl⟩, pl.isList.at fun o e => Heap.get?_push_of_some _ e⟩, fun i v s' Q' E' hv hQ => ?_, fun h' tk hk => ?_⟩
  · rw [at_ i v hv]
    exact wpAny_truthy_bool hQ
  · have e : ((List.range its.toArray.size).all fun i => bs.getD i true) = bs.all id := by
      rw [List.size_toArray, hl]
      rw [Bool.eq_iff_iff, List.all_eq_true, List.all_eq_true]
      constructor
      · intro h b hb
        obtain ⟨i, hi, e⟩ := List.mem_iff_getElem.mp hb
        have := h i (List.mem_range.mpr hi)
        rw [List.getD, List.getElem?_eq_getElem hi] at this
        rw [← e]; exact this
      · intro h i hi
        have hi' := List.mem_range.mp hi
        rw [List.getD, List.getElem?_eq_getElem hi']
        exact h _ (List.getElem_mem hi')
    rw [e]
    refine ⟨.bl _, H, I.kept (t' := tk) fun b o eo => hk b o ?_ (Heap.get?_push_of_some _ eo), rfl, q⟩
    intro z
    rw [List.mem_singleton.mp z] at eo
    exact absurd (Heap.lt_size eo) (Nat.lt_irrefl _)
theorem sl_str : SlR X (fun x lo hi H Q => ∃ z, x = .str z ∧ z.length ≤ sizeLine ∧ Q (.str (Txt.slice z lo hi)) H) := by
  intro pins s σ H x v vl vu lo hi sl Q I rx hs pl pu h
  obtain ⟨z, rfl, hz, q⟩ := h
  obtain ⟨t, rfl⟩ := rx
  refine ⟨"str", _, F.slot_str_getitem.lookup, typeIs_str _ _ _, ?_⟩
  have fin : ∀ t' k, EP X pins σ Q (.str (Txt.slice z lo hi) t') { s with toks := k } := fun t' k => ⟨.str _, H, I.tok k, ⟨t', rfl⟩, q⟩
  obtain ⟨o, ho, hc, hd⟩ := hs
  cases pl with
  | none =>
    cases pu with
    | none => exact wpAny_getItem_str_slice (l := none) (u := none) (st := none) ⟨o, ho, hc, hd⟩ rfl (post_val_or_str ⟨Nat.le_trans (Txt.slice_le z _ _) hz, fin⟩)
    | int j tj => exact wpAny_getItem_str_slice (l := none) (u := some (j, tj)) (st := none) ⟨o, ho, hc, hd⟩ rfl (post_val_or_str ⟨Nat.le_trans (Txt.slice_le z _ _) hz, fin⟩)
  | int i ti =>
    cases pu with
    | none => exact wpAny_getItem_str_slice (l := some (i, ti)) (u := none) (st := none) ⟨o, ho, hc, hd⟩ rfl (post_val_or_str ⟨Nat.le_trans (Txt.slice_le z _ _) hz, fin⟩)
    | int j tj => exact wpAny_getItem_str_slice (l := some (i, ti)) (u := some (j, tj)) (st := none) ⟨o, ho, hc, hd⟩ rfl (post_val_or_str ⟨Nat.le_trans (Txt.slice_le z _ _) hz, fin⟩)
end
end L2
namespace L2
open PySem PySem.Spec PyProof.Rows
end L2
namespace L2
open PySem PySem.Spec PyProof.Rows PySem.W
section
variable {prog : Program} {w : World} {A : Around} {E : Value → Shared → Prop} {s : Shared}
end
end L2
namespace L2
open PySem PySem.Spec PyProof.Rows PySem.W
section
variable {prog : Program} {w : World} {A : Around} {E : Value → Shared → Prop} {s : Shared}
end
section
variable {prog : Program} {w : World} {A : Around} {E : Value → Shared → Prop} {s : Shared} {κ : Type} [DecidableEq κ] {knd : PySem.KeyKind prog w κ}
end
theorem vals_of : ∀ {xs : List V} {us : List Value}, us.length = xs.length → (∀ (j : Nat) (x : V) (u : Value), xs[j]? = some x → us[j]? = some u → RelV x u) → Vals xs us
  | [], [], _, _ => .nil
  | [], _ :: _, h, _ => by simp at h
  | _ :: _, [], h, _ => by simp at h
  | x :: xs, u :: us, h, r => .cons (r 0 x u rfl rfl) (vals_of (by simpa using h) fun j y v e1 e2 => r (j + 1) y v (by simpa using e1) (by simpa using e2))
section
variable {X : Cx} {pins : List (Addr × Obj)} {σ : St} {H : Hp} {s : Shared}
theorem call_sortedI : CallR X (.builtin "sorted") (fun xs H Q => ∃ p ns, xs = [.ref p] ∧ SqL X.K H p (ns.map V.int) ∧ ns.length < 64 ∧ ∀ (l : Addr) (ns' : List Int), H l = none → ns'.Perm ns → ns'.Pairwise (· ≤ ·) → Q (.ref l) (upd H l (.lst (ns'.map V.int)))) := by
  intro pins s σ H xs us Q I r h
  obtain ⟨p, ns, rfl, hq, h64, q⟩ := h
  obtain ⟨u, rfl, rx⟩ := vals1 r
  cases rx
  obtain ⟨its, r', pl, hz⟩ := I.list hq
  have hI := intsAre_of r'
  have hlen := r'.length
  rw [List.length_map] at hlen
  refine sorted_ints pl.isList hI (by omega) fun out ns' h1 h2 h3 => ?_
  obtain ⟨e, hat⟩ := sortedAll_at s.heap its out
  refine ⟨.ref (s.heap.objs.size + 1), _, I.laid (a := s.heap.objs.size + 1) (o := .lst (ns'.map V.int)) (t' := s.toks) (fun b o e => sortedAll_old e) (Nat.le_succ _) ⟨?_, out.toList, e, vals_ints h1, ?_⟩, rfl, q _ ns' (I.hok.fresh (Nat.le_succ _)) h2 h3⟩
  · rw [List.length_map, h2.length_eq, sizeLine_eq]
    omega
  · rw [Array.toArray_toList]
    exact hat
end
end L2
namespace L2
open PySem PySem.Spec PyProof.Rows PySem.W
theorem paired_get {α β : Type} {R : α → β → Prop} : ∀ {xs : List α} {ys : List β} {j : Nat} {x : α} {y : β}, Paired R xs ys → xs[j]? = some x → ys[j]? = some y → R x y
  | _, _, _, _, _, .nil, e, _ => by simp at e
  | _, _, 0, _, _, .cons r _, e, f => by simp at e f; subst e; subst f; exact r
  | _, _, j + 1, _, _, .cons _ t, e, f => paired_get (j := j) t (by simpa using e) (by simpa using f)
section
variable {X : Cx} {pins : List (Addr × Obj)} {σ : St} {H : Hp} {s : Shared}
end
end L2
namespace L2
open PySem PySem.Spec PyProof.Rows PySem.W
section
variable {X : Cx}
end
end L2
namespace L2
open PySem PySem.Spec PyProof.Rows PySem.W
section
variable {prog : Program} {w : World} {A : Around} {E : Value → Shared → Prop} {s : Shared}
variable {z TI TO i1 i2 l1 l2 : Addr} {xs ys : Array Value} {R1 R2 : Nat → Heap → Prop}
end
end L2
namespace L2
open PySem PySem.Spec PyProof.Rows PySem.W
section
variable {X : Cx} {pins : List (Addr × Obj)} {σ : List (Option V)} {H : Hp} {s : Shared} {h' : Heap}
end
section
variable {prog : Program} {w : World} {A : Around} {E : Value → Shared → Prop} {s : Shared}
end
section
variable {X : Cx}
end
end L2
namespace L2
open PySem PySem.Spec PyProof.Rows
theorem kit_no (K : W.Frag) (a b : String) (h1 : ((Value.type a) == (Value.type b)) = false) (h2 : W.kitMeta b = true) (h3 : (fastBuiltinMro a).map (·.contains (.type b)) = some false) : W.kitOne K (.type a) (.type b) = some false := by
  unfold W.kitOne
  rw [h1, if_neg (by simp)]
  show (if W.kitMeta b = true then W.subIn K (.type a) (.type b) else none) = some false
  rw [if_pos h2]
  exact h3
section
variable (K : W.Frag)
end
section
variable {X : Cx}
end
end L2
namespace VL
open PySem L2
inductive Kd where
  | tup | frl | lst | dic (ks : List Key) | dit (ks : List (List Key)) | obj (C : Addr) (ns : List Str)
  deriving DecidableEq
inductive D where
  | sc (v : V)
  | nd (k : Kd) (cs : List D)
    | hl (v : V)
def imm : Kd → Bool
  | .tup => true
  | .frl => true
  | _ => false
mutual
def plain : D → Bool
  | .sc _ => true
  | .nd .tup cs => plainL cs
  | .nd .frl cs => plainL cs
  | .nd _ _ => false
  | .hl _ => false
def plainL : List D → Bool
  | [] => true
  | d :: ds => plain d && plainL ds
end
theorem plainL_mem : ∀ {ds : List D} {d : D}, plainL ds = true → d ∈ ds → plain d = true
  | _ :: ds, d, h, m => by
    rw [plainL, Bool.and_eq_true] at h
    cases m with
    | head => exact h.1
    | tail _ m => exact plainL_mem h.2 m
theorem plainL_of : ∀ {ds : List D}, (∀ d ∈ ds, plain d = true) → plainL ds = true
  | [], _ => rfl
  | d :: ds, h => by
    rw [plainL, h d (.head _), plainL_of fun e he => h e (.tail _ he)]
    rfl
theorem plainL_get {ds : List D} {i : Nat} {d : D} (h : plainL ds = true) (e : ds[i]? = some d) : plain d = true := plainL_mem h (List.mem_of_getElem? e)
def ho (k : Kd) (dx : Addr) (vs : List V) : HO := match k with
  | .tup => .tup vs
  | .frl => .lst vs
  | .lst => .lst vs
  | .dic ks => .dK (ks.zip vs)
  | .dit ks => .dT (ks.zip vs)
  | .obj C ns => .ins C dx (ns.zip vs)
def fits (K : W.Frag) (k : Kd) (n : Nat) : Prop := match k with
  | .dic ks => ks.length = n
  | .dit ks => ks.length = n
  | .obj C ns => ns.length = n ∧ Cls K C ∧ ∀ f ∈ ns, NoAttr K C f
  | _ => True
def FrL (K : W.Frag) (H : Hp) (a : Addr) (vs : List V) : Prop := (∃ o, H a = some (.frz o (.lst vs))) ∨ ∃ (o : Obj) (its : Array Value) (n : Nat), K.lookup a = some o ∧ o.cls = .type "list" ∧ o.dict = none ∧ o.data = .seq its n ∧ its.size ≤ sizeLine ∧ Vals vs its.toList
theorem FrL.sq {K : W.Frag} {H : Hp} {a : Addr} {vs : List V} (h : FrL K H a vs) : SqL K H a vs := h.elim (fun ⟨o, e⟩ => .inl (.inr ⟨o, e⟩)) .inr
def Cell (K : W.Frag) (H : Hp) (a : Addr) (k : Kd) (vs : List V) : Prop := fits K k vs.length ∧ match k with
  | .tup => H a = some (.tup vs)
  | .frl => FrL K H a vs
  | .lst => H a = some (.lst vs)
  | .dic ks => Rd H a (.dK (ks.zip vs))
  | .dit ks => Rd H a (.dT (ks.zip vs))
  | .obj C ns => ∃ dx, H a = some (.ins C dx (ns.zip vs))
def CellM (K : W.Frag) (H : Hp) (a : Addr) (k : Kd) (vs : List V) : Prop := imm k = false ∧ fits K k vs.length ∧ ∃ dx, H a = some (ho k dx vs)
theorem CellM.cell {K : W.Frag} {H : Hp} {a : Addr} {k : Kd} {vs : List V} (h : CellM K H a k vs) : Cell K H a k vs := by
  obtain ⟨hk, hf, dx, e⟩ := h
  refine ⟨hf, ?_⟩
  cases k with
  | tup => cases hk
  | frl => cases hk
  | lst => exact e
  | dic ks => exact .inl e
  | dit ks => exact .inl e
  | obj C ns => exact ⟨dx, e⟩
theorem CellM.mu {K : W.Frag} {H : Hp} {a : Addr} {k : Kd} {vs : List V} (h : CellM K H a k vs) : Mut (H a) := by
  obtain ⟨hk, hf, dx, e⟩ := h
  rw [e]
  cases k with
  | tup => cases hk
  | frl => cases hk
  | lst => trivial
  | dic ks => trivial
  | dit ks => trivial
  | obj C ns => trivial
def Stay (H H' : Hp) : Prop := ∀ b o, ¬ Mut (some o) → H b = some o → H' b = some o
theorem Stay.refl (H : Hp) : Stay H H := fun _ _ _ h => h
theorem Stay.of {H H' : Hp} (s : Same H H') : Stay H H' := fun b o _ h => s b o h
theorem Stay.sqT {K : W.Frag} {H H' : Hp} (s : Stay H H') {a : Addr} {xs : List V} (h : SqT K H a xs) : SqT K H' a xs := by
  rcases h with (h | ⟨o, h⟩) | h
  · exact .inl (.inl (s _ _ (fun z => z) h))
  · exact .inl (.inr ⟨o, s _ _ (fun z => z) h⟩)
  · exact .inr h
theorem FrL.stay {K : W.Frag} {H H' : Hp} {a : Addr} {vs : List V} (h : FrL K H a vs) (s : Stay H H') : FrL K H' a vs := h.elim (fun ⟨o, e⟩ => .inl ⟨o, s _ _ (fun z => z) e⟩) .inr
inductive Vw (K : W.Frag) (H : Hp) (N : Addr → Prop) : V → D → Prop
  | sc (v : V) : Vw K H N v (.sc v)
  | hl (v : V) : Vw K H N v (.hl v)
  | nd {a : Addr} {k : Kd} {vs : List V} {cs : List D} : (imm k = false → N a) → Cell K H a k vs → vs.length = cs.length → (∀ (i : Nat) (v : V) (d : D), vs[i]? = some v → cs[i]? = some d → Vw K H N v d) → Vw K H N (.ref a) (.nd k cs)
def Hold (K : W.Frag) (H : Hp) (F : Addr → Prop) (a : Addr) (k : Kd) (vs : List V) (cs : List D) : Prop := match k with
  | .tup => H a = some (.tup vs)
  | .frl => plainL cs = true ∧ FrL K H a vs
  | k => F a ∧ CellM K H a k vs
inductive Rep (K : W.Frag) (H : Hp) : (Addr → Prop) → V → D → Prop
  | sc (F : Addr → Prop) (v : V) : Rep K H F v (.sc v)
  | hl (F : Addr → Prop) (v : V) : Rep K H F v (.hl v)
  | nd {F : Addr → Prop} {a : Addr} {k : Kd} {vs : List V} {cs : List D} (Fs : Nat → Addr → Prop) : Hold K H F a k vs cs → vs.length = cs.length → (∀ i j b, Fs i b → Fs j b → i = j) → (∀ i b, Fs i b → F b ∧ (imm k = false → b ≠ a)) →
      (∀ (i : Nat) (v : V) (d : D), vs[i]? = some v → cs[i]? = some d → Rep K H (Fs i) v d) → Rep K H F (.ref a) (.nd k cs)
section
variable {K : W.Frag} {H H' : Hp} {F F' N N' : Addr → Prop}
theorem Hold.mono {a : Addr} {k : Kd} {vs : List V} {cs : List D} (h : Hold K H F a k vs cs) (m : ∀ b, F b → F' b) : Hold K H F' a k vs cs := by
  cases k with
  | tup => exact h
  | frl => exact h
  | _ => exact ⟨m _ h.1, h.2⟩
theorem Hold.frame {a : Addr} {k : Kd} {vs : List V} {cs : List D} (h : Hold K H F a k vs cs) (f : ∀ b o, F b → H b = some o → H' b = some o) (s : Stay H H') : Hold K H' F a k vs cs := by
  cases k with
  | tup => exact s _ _ (fun z => z) h
  | frl => exact ⟨h.1, h.2.stay s⟩
  | _ => obtain ⟨h1, h2, h3, dx, e⟩ := h; exact ⟨h1, h2, h3, dx, f _ _ h1 e⟩
theorem Hold.cell {a : Addr} {k : Kd} {vs : List V} {cs : List D} (h : Hold K H F a k vs cs) : Cell K H a k vs := by
  cases k with
  | tup => exact ⟨trivial, h⟩
  | frl => exact ⟨trivial, h.2⟩
  | _ => exact h.2.cell
theorem Hold.own {a : Addr} {k : Kd} {vs : List V} {cs : List D} (h : Hold K H F a k vs cs) (hk : imm k = false) : F a ∧ CellM K H a k vs := by
  cases k with
  | tup => cases hk
  | frl => cases hk
  | _ => exact h
theorem Hold.put {a : Addr} {k : Kd} {vs : List V} {cs : List D} (hk : imm k = false) (h1 : F a) (h2 : CellM K H a k vs) : Hold K H F a k vs cs := by
  cases k with
  | tup => cases hk
  | frl => cases hk
  | _ => exact ⟨h1, h2⟩
theorem Rep.mono {v : V} {d : D} (h : Rep K H F v d) (m : ∀ b, F b → F' b) : Rep K H F' v d := by
  cases h with
  | sc => exact .sc _ _
  | hl => exact .hl _ _
  | nd Fs h1 h2 h3 h4 h5 => exact .nd Fs (h1.mono m) h2 h3 (fun i b z => ⟨m _ (h4 i b z).1, (h4 i b z).2⟩) h5
theorem Rep.frame {v : V} {d : D} (h : Rep K H F v d) (f : ∀ b o, F b → H b = some o → H' b = some o) (s : Stay H H') : Rep K H' F v d := by
  induction h with
  | sc => exact .sc _ _
  | hl => exact .hl _ _
  | nd Fs h1 h2 h3 h4 _ ih => exact .nd Fs (h1.frame f s) h2 h3 h4 fun i v d hv hd => ih i v d hv hd fun b o z => f b o (h4 i b z).1
theorem Rep.same {v : V} {d : D} (h : Rep K H F v d) (s : Same H H') : Rep K H' F v d := h.frame (fun b o _ e => s b o e) (Stay.of s)
theorem Rep.view {v : V} {d : D} (h : Rep K H F v d) (m : ∀ b, F b → N b) : Vw K H N v d := by
  induction h with
  | sc => exact .sc _
  | hl => exact .hl _
  | nd Fs h1 h2 h3 h4 _ ih => exact .nd (fun hk => m _ (h1.own hk).1) h1.cell h2 fun i v d hv hd => ih i v d hv hd fun b z => m b (h4 i b z).1
theorem Rep.vw {v : V} {d : D} (h : Rep K H F v d) : Vw K H (fun _ => True) v d := h.view fun _ _ => trivial
theorem Vw.mono {v : V} {d : D} (h : Vw K H N v d) (m : ∀ b, N b → N' b) : Vw K H N' v d := by
  induction h with
  | sc => exact .sc _
  | hl => exact .hl _
  | nd h1 h2 h3 _ ih => exact .nd (fun k => m _ (h1 k)) h2 h3 ih
theorem Vw.any {v : V} {d : D} (h : Vw K H N v d) : Vw K H (fun _ => True) v d := h.mono fun _ _ => trivial
theorem Cell.frame {a : Addr} {k : Kd} {vs : List V} (h : Cell K H a k vs) (f : imm k = false → ∀ o, H a = some o → H' a = some o) (s : Stay H H') : Cell K H' a k vs := by
  obtain ⟨h1, h⟩ := h
  refine ⟨h1, ?_⟩
  cases k with
  | tup => exact s _ _ (fun z => z) h
  | frl => exact FrL.stay h s
  | lst => exact f rfl _ h
  | dic ks =>
    have f := f rfl
    rcases h with h | ⟨o, h⟩
    · exact .inl (f _ h)
    · exact .inr ⟨o, f _ h⟩
  | dit ks =>
    have f := f rfl
    rcases h with h | ⟨o, h⟩
    · exact .inl (f _ h)
    · exact .inr ⟨o, f _ h⟩
  | obj C ns =>
    obtain ⟨dx, h⟩ := h
    exact ⟨dx, f rfl _ h⟩
theorem Vw.frame {v : V} {d : D} (h : Vw K H N v d) (f : ∀ b o, N b → H b = some o → H' b = some o) (s : Stay H H') : Vw K H' N v d := by
  induction h with
  | sc => exact .sc _
  | hl => exact .hl _
  | nd h1 h2 h3 _ ih => exact .nd h1 (h2.frame (fun hk o e => f _ o (h1 hk) e) s) h3 ih
theorem Vw.same {v : V} {d : D} (h : Vw K H N v d) (s : Same H H') : Vw K H' N v d := h.frame (fun b o _ e => s b o e) (Stay.of s)
theorem Vw.plain {v : V} {d : D} (h : Vw K H N v d) (p : plain d = true) : Rep K H (fun _ => False) v d := by
  induction h with
  | sc => exact .sc _ _
  | hl => cases p
  | @nd a k vs cs h1 h2 h3 _ ih =>
    cases k with
    | tup =>
      have p : plainL cs = true := p
      exact .nd (fun _ _ => False) h2.2 h3 (fun _ _ _ z => z.elim) (fun _ _ z => z.elim) fun i v d hv hd => ih i v d hv hd (plainL_get p hd)
    | frl =>
      have p : plainL cs = true := p
      exact .nd (fun _ _ => False) ⟨p, h2.2⟩ h3 (fun _ _ _ z => z.elim) (fun _ _ z => z.elim) fun i v d hv hd => ih i v d hv hd (plainL_get p hd)
    | _ => simp [VL.plain] at p
end
def kids : HO → List V
  | .lst xs => xs
  | .tup xs => xs
  | .dK kvs => kvs.map (·.2)
  | .dT kvs => kvs.map (·.2)
  | .ins _ _ fs => fs.map (·.2)
  | .frz _ u => kids u
  | _ => []
theorem zip_snd {α β : Type} : ∀ {l : List α} {m : List β}, l.length = m.length → (l.zip m).map (·.2) = m
  | [], [], _ => rfl
  | _ :: l, _ :: m, h => by rw [List.zip_cons_cons, List.map_cons, zip_snd (Nat.succ.inj h)]
theorem kids_ho {K : W.Frag} {k : Kd} {dx : Addr} {vs : List V} (h : fits K k vs.length) : kids (ho k dx vs) = vs := by
  cases k with
  | tup => rfl
  | frl => rfl
  | lst => rfl
  | dic ks => exact zip_snd h
  | dit ks => exact zip_snd h
  | obj C ns => exact zip_snd h.1
inductive PathV (H : Hp) : V → List Nat → V → Prop
  | nil (v : V) : PathV H v [] v
  | cons {a : Addr} {o : HO} {n : Nat} {c u : V} {p : List Nat} : H a = some o → (kids o)[n]? = some c → PathV H c p u → PathV H (.ref a) (n :: p) u
def getP : D → List Nat → Option D
  | d, [] => some d
  | .sc _, _ :: _ => none
  | .hl _, _ :: _ => none
  | .nd k cs, n :: p => if imm k = true ∧ plainL cs = true then none else match cs[n]? with
    | some c => getP c p
    | none => none
def setP : D → List Nat → D → D
  | _, [], e => e
  | .sc v, _ :: _, _ => .sc v
  | .hl v, _ :: _, _ => .hl v
  | .nd k cs, n :: p, e => .nd k (match cs[n]? with
    | some c => cs.set n (setP c p e)
    | none => cs)
section
variable {K : W.Frag} {H H' : Hp} {F F' N N' : Addr → Prop}
theorem Hold.kids {a : Addr} {k : Kd} {vs : List V} {cs : List D} {o : HO} (h : Hold K H F a k vs cs) (hp : ¬ (imm k = true ∧ plainL cs = true)) (e : H a = some o) : kids o = vs := by
  cases k with
  | tup => have h : H a = some (.tup vs) := h; rw [e] at h; cases h; rfl
  | frl => exact absurd ⟨rfl, h.1⟩ hp
  | _ => obtain ⟨_, _, hf, dx, q⟩ := h; rw [e] at q; cases q; exact kids_ho hf
theorem Rep.focus : ∀ {p : List Nat} {F : Addr → Prop} {v u : V} {d d1 : D}, Rep K H F v d → PathV H v p u → getP d p = some d1 →
    ∃ F1 : Addr → Prop, (∀ b, F1 b → F b) ∧ Rep K H F1 u d1 ∧ ∀ (H' : Hp) (F1' : Addr → Prop) (d1' : D), (∀ b o, ¬ F1 b → F b → H b = some o → H' b = some o) → Stay H H' → Rep K H' F1' u d1' → (∀ b, F1' b → F1 b ∨ ¬ F b) →
      Rep K H' (fun b => (F b ∧ ¬ F1 b) ∨ F1' b) v (setP d p d1')
  | [], F, v, u, d, d1, h, hp, g => by
    cases hp
    cases g
    refine ⟨F, fun _ z => z, h, fun H' F1' d1' _ _ h' _ => ?_⟩
    show Rep K H' _ v (setP d [] d1')
    rw [setP]
    exact h'.mono fun b z => .inr z
  | n :: p, F, v, u, d, d1, h, hp, g => by
    cases hp with
    | @cons a o n c u p e1 e2 hp =>
      cases h with
      | sc => rw [getP] at g; cases g
      | hl => rw [getP] at g; cases g
      | @nd _ _ k vs cs Fs h1 h2 h3 h4 h5 =>
        rw [getP] at g
        by_cases hpl : imm k = true ∧ plainL cs = true
        · rw [if_pos hpl] at g; cases g
        rw [if_neg hpl] at g
        rw [h1.kids hpl e1] at e2
        have hn : n < cs.length := by rw [← h2]; exact (List.getElem?_eq_some_iff.mp e2).1
        have hc : cs[n]? = some cs[n] := List.getElem?_eq_getElem hn
        rw [hc] at g
        obtain ⟨F1, m1, r1, put⟩ := (h5 n c _ e2 hc).focus hp g
        refine ⟨F1, fun b z => (h4 n b (m1 b z)).1, r1, fun H' F1' d1' fr st r' ap => ?_⟩
        have key := put H' F1' d1' (fun b o nb hb => fr b o nb (h4 n b hb).1) st r' fun b z => (ap b z).elim .inl fun q => .inr fun w => q (h4 n b w).1
        rw [setP, hc]
        have ane : imm k = false → ¬ F1 a := fun hk z => (h4 n a (m1 a z)).2 hk rfl
        refine .nd (fun i b => if i = n then (Fs n b ∧ ¬ F1 b) ∨ F1' b else Fs i b) ?_ (by show vs.length = (cs.set n _).length; rw [List.length_set]; exact h2) ?_ ?_ ?_
        · cases k with
          | tup => exact st _ _ (fun z => z) h1
          | frl => exact absurd ⟨rfl, h1.1⟩ hpl
          | _ => obtain ⟨x1, x2, x3, dx, x4⟩ := h1; exact ⟨.inl ⟨x1, ane x2⟩, x2, x3, dx, fr _ _ (ane x2) x1 x4⟩
        · intro i j b hi hj
          by_cases ei : i = n
          · by_cases ej : j = n
            · rw [ei, ej]
            · rw [if_pos ei] at hi
              rw [if_neg ej] at hj
              rcases hi with hi | hi
              · exact absurd (h3 j n b hj hi.1) ej
              · rcases ap b hi with z | z
                · exact absurd (h3 j n b hj (m1 b z)) ej
                · exact absurd (h4 j b hj).1 z
          · rw [if_neg ei] at hi
            by_cases ej : j = n
            · rw [if_pos ej] at hj
              rcases hj with hj | hj
              · exact absurd (h3 i n b hi hj.1) ei
              · rcases ap b hj with z | z
                · exact absurd (h3 i n b hi (m1 b z)) ei
                · exact absurd (h4 i b hi).1 z
            · rw [if_neg ej] at hj
              exact h3 i j b hi hj
        · intro i b hi
          by_cases ei : i = n
          · rw [if_pos ei] at hi
            rcases hi with hi | hi
            · exact ⟨.inl ⟨(h4 n b hi.1).1, hi.2⟩, (h4 n b hi.1).2⟩
            · refine ⟨.inr hi, fun hk z => ?_⟩
              subst z
              rcases ap b hi with q | q
              · exact ane hk q
              · exact q (h1.own hk).1
          · rw [if_neg ei] at hi
            exact ⟨.inl ⟨(h4 i b hi).1, fun z => ei (h3 i n b hi (m1 b z))⟩, (h4 i b hi).2⟩
        · intro i v2 d2 hv hd
          by_cases ei : i = n
          · subst ei
            rw [e2] at hv
            cases hv
            have hd : (cs.set i (setP cs[i] p d1'))[i]? = some d2 := hd
            rw [List.getElem?_set_self hn] at hd
            cases hd
            show Rep K H' (fun b => if i = i then (Fs i b ∧ ¬ F1 b) ∨ F1' b else Fs i b) c _
            simp only [if_pos rfl]
            exact key
          · have hd : (cs.set n (setP cs[n] p d1'))[i]? = some d2 := hd
            rw [List.getElem?_set_ne (Ne.symm ei)] at hd
            show Rep K H' (fun b => if i = n then (Fs n b ∧ ¬ F1 b) ∨ F1' b else Fs i b) v2 d2
            simp only [if_neg ei]
            exact (h5 i v2 d2 hv hd).frame (fun b o hb => fr b o (fun z => ei (h3 i n b hb (m1 b z))) (h4 i b hb).1) st
end
section
variable {K : W.Frag} {H H' : Hp} {F F' N N' : Addr → Prop}
theorem Cell.trk {a : Addr} {k : Kd} {vs : List V} (h : Cell K H a k vs) (hk : imm k = false) : ∃ o, H a = some o := by
  obtain ⟨_, h⟩ := h
  cases k with
  | tup => cases hk
  | frl => cases hk
  | lst => exact ⟨_, h⟩
  | dic ks => rcases h with h | ⟨o, h⟩ <;> exact ⟨_, h⟩
  | dit ks => rcases h with h | ⟨o, h⟩ <;> exact ⟨_, h⟩
  | obj C ns => obtain ⟨dx, h⟩ := h; exact ⟨_, h⟩
theorem Vw.over {v : V} {d : D} (h : Vw K H N v d) (f : ∀ b o, N b → H b = some o → H' b = some o ∧ N' b) (s : Stay H H') : Vw K H' N' v d := by
  induction h with
  | sc => exact .sc _
  | hl => exact .hl _
  | nd h1 h2 h3 _ ih => exact .nd (fun k => let ⟨o, e⟩ := h2.trk k; (f _ o (h1 k) e).2) (h2.frame (fun hk o e => (f _ o (h1 hk) e).1) s) h3 ih
theorem Vw.node {v : V} {k : Kd} {cs : List D} (h : Vw K H N v (.nd k cs)) : ∃ a vs, v = .ref a ∧ (imm k = false → N a) ∧ Cell K H a k vs ∧ vs.length = cs.length ∧ ∀ (i : Nat) (v : V) (d : D), vs[i]? = some v → cs[i]? = some d → Vw K H N v d := by
  cases h with
  | nd h1 h2 h3 h4 => exact ⟨_, _, rfl, h1, h2, h3, h4⟩
theorem Vw.scal {v u : V} (h : Vw K H N v (.sc u)) : v = u := by
  cases h
  rfl
theorem Rep.scal {v u : V} (h : Rep K H F v (.sc u)) : v = u := by
  cases h
  rfl
theorem Rep.hole {v u : V} (h : Rep K H F v (.hl u)) : v = u := by
  cases h
  rfl
theorem Rep.node {v : V} {k : Kd} {cs : List D} (h : Rep K H F v (.nd k cs)) : ∃ a vs, v = .ref a ∧ Hold K H F a k vs cs ∧ vs.length = cs.length ∧ ∃ Fs : Nat → Addr → Prop, (∀ i j b, Fs i b → Fs j b → i = j) ∧ (∀ i b, Fs i b → F b ∧ (imm k = false → b ≠ a)) ∧
      (∀ (i : Nat) (v : V) (d : D), vs[i]? = some v → cs[i]? = some d → Rep K H (Fs i) v d) := by
  cases h with
  | nd Fs h1 h2 h3 h4 h5 => exact ⟨_, _, rfl, h1, h2, Fs, h3, h4, h5⟩
theorem Rep.path : ∀ {p : List Nat} {F : Addr → Prop} {v : V} {d d1 : D}, Rep K H F v d → getP d p = some d1 → ∃ u, PathV H v p u
  | [], F, v, d, d1, h, g => ⟨v, .nil v⟩
  | n :: p, F, v, .sc _, d1, h, g => by rw [getP] at g; cases g
  | n :: p, F, v, .hl _, d1, h, g => by rw [getP] at g; cases g
  | n :: p, F, v, .nd k cs, d1, h, g => by
    obtain ⟨a, vs, rfl, h1, h2, Fs, h3, h4, h5⟩ := h.node
    rw [getP] at g
    by_cases hpl : imm k = true ∧ plainL cs = true
    · rw [if_pos hpl] at g; cases g
    rw [if_neg hpl] at g
    cases hc : cs[n]? with
    | none => rw [hc] at g; cases g
    | some c =>
      rw [hc] at g
      have hn : n < vs.length := by rw [h2]; exact (List.getElem?_eq_some_iff.mp hc).1
      obtain ⟨u, hu⟩ := (h5 n _ c (List.getElem?_eq_getElem hn) hc).path g
      have ho : ∃ o, H a = some o := by
        cases k with
        | tup => exact ⟨_, h1⟩
        | frl => exact absurd ⟨rfl, h1.1⟩ hpl
        | _ => obtain ⟨_, _, _, dx, e⟩ := h1; exact ⟨_, e⟩
      obtain ⟨o, e⟩ := ho
      exact ⟨u, .cons e (by rw [h1.kids hpl e]; exact List.getElem?_eq_getElem hn) hu⟩
theorem Rep.pathStay : ∀ {p : List Nat} {F : Addr → Prop} {v u : V} {d d1 : D}, Rep K H F v d → getP d p = some d1 → PathV H v p u → (∀ b o, F b → H b = some o → H' b = some o) → Stay H H' → PathV H' v p u
  | [], F, v, u, d, d1, h, g, hp, f, s => by cases hp; exact .nil v
  | n :: p, F, v, u, .sc _, d1, h, g, hp, f, s => by rw [getP] at g; cases g
  | n :: p, F, v, u, .hl _, d1, h, g, hp, f, s => by rw [getP] at g; cases g
  | n :: p, F, v, u, .nd k cs, d1, h, g, hp, f, s => by
    obtain ⟨a, vs, rfl, h1, h2, Fs, h3, h4, h5⟩ := h.node
    rw [getP] at g
    by_cases hpl : imm k = true ∧ plainL cs = true
    · rw [if_pos hpl] at g; cases g
    rw [if_neg hpl] at g
    cases hc : cs[n]? with
    | none => rw [hc] at g; cases g
    | some c =>
      rw [hc] at g
      cases hp with
      | @cons a o n c' u p e1 e2 hp =>
        rw [h1.kids hpl e1] at e2
        have e1' : H' a = some o := by
          cases k with
          | tup => have h1 : H a = some (.tup vs) := h1; rw [e1] at h1; cases h1; exact s _ _ (fun z => z) e1
          | frl => exact absurd ⟨rfl, h1.1⟩ hpl
          | _ => exact f _ _ h1.1 e1
        refine .cons e1' (by rw [h1.kids hpl e1]; exact e2) ?_
        exact (h5 n c' c e2 hc).pathStay g hp (fun b o z => f b o (h4 n b z).1) s
theorem Rep.sub {p : List Nat} {v u : V} {d d1 : D} (h : Rep K H F v d) (g : getP d p = some d1) (hp : PathV H v p u) (m : ∀ b, F b → N b) : Vw K H N u d1 := by
  obtain ⟨F1, m1, r1, _⟩ := h.focus hp g
  exact r1.view fun b z => m b (m1 b z)
end
inductive B where
  | own (d : D) | ro (d : D) | ali (r : Nat) (p : List Nat)
abbrev En := List (Option B)
def SlotOk (K : W.Frag) (H : Hp) (U F : Addr → Prop) (m : Nat) (e : List (Option V)) (v : V) : B → Prop
  | .own d => Rep K H F v d
  | .ro d => Vw K H (fun b => ¬ U b) v d
  | .ali r p => r < m ∧ ∃ vr, e[r]? = some (some vr) ∧ PathV H vr p v
structure EnvOk (K : W.Frag) (H : Hp) (U : Addr → Prop) (m : Nat) (e : List (Option V)) (ρ : En) : Prop where
  len : e.length = ρ.length
  mu : ∀ b, U b → Mut (H b)
  ex : ∃ Fs : Nat → Addr → Prop, (∀ i j b, Fs i b → Fs j b → i = j) ∧ (∀ i b, Fs i b → U b) ∧ ∀ (i : Nat) (β : B), ρ[i]? = some (some β) → ∃ v, e[i]? = some (some v) ∧ SlotOk K H U (Fs i) m e v β
def Stp (U : Addr → Prop) (H : Hp) (U' : Addr → Prop) (H' : Hp) : Prop := ∀ b o, H b = some o → ¬ U b → H' b = some o ∧ ¬ U' b
theorem Stp.refl (U : Addr → Prop) (H : Hp) : Stp U H U H := fun _ _ h n => ⟨h, n⟩
theorem Stp.trans {U U1 U2 : Addr → Prop} {H H1 H2 : Hp} (a : Stp U H U1 H1) (b : Stp U1 H1 U2 H2) : Stp U H U2 H2 := fun c o h n => b c o (a c o h n).1 (a c o h n).2
theorem Stp.stay {U U' : Addr → Prop} {H H' : Hp} (s : Stp U H U' H') (mu : ∀ b, U b → Mut (H b)) : Stay H H' := fun b o m e => (s b o e fun u => m (by have := mu b u; rw [e] at this; exact this)).1
theorem mut_some {o : Option HO} (h : Mut o) : ∃ x, o = some x := by
  cases o with
  | none => exact h.elim
  | some x => exact ⟨x, rfl⟩
def rootD (ρ : En) (r : Nat) : Option D := match ρ[r]? with
  | some (some (.own d)) => some d
  | _ => none
def pruneB (ρ : En) : Option B → Option B
  | some (.ali r p) => if p = [] ∨ ((rootD ρ r).bind (getP · p)).isSome = true then some (.ali r p) else none
  | b => b
def prune (ρ : En) : En := ρ.map (pruneB ρ)
def ownOnly (τ : En) : Prop := ∀ b ∈ τ, b = none ∨ ∃ d, b = some (B.own d)
def noAli (τ : En) : Prop := ∀ b ∈ τ, ∀ r p, b ≠ some (B.ali r p)
theorem prune_len (ρ : En) : (prune ρ).length = ρ.length := by unfold prune; rw [List.length_map]
section
variable {K : W.Frag} {H H' : Hp} {U U' : Addr → Prop} {m : Nat} {e t t' : List (Option V)} {ρ τ τ' : En}
theorem slot_of {i : Nat} {β : B} (hl : e.length = ρ.length) (h : (ρ ++ τ)[i]? = some (some β)) : (i < e.length ∧ ρ[i]? = some (some β)) ∨ (e.length ≤ i ∧ τ[i - e.length]? = some (some β)) := by
  by_cases hi : i < ρ.length
  · rw [List.getElem?_append_left hi] at h
    exact .inl ⟨by omega, h⟩
  · rw [List.getElem?_append_right (by omega)] at h
    exact .inr ⟨by omega, by rw [hl]; exact h⟩
theorem rootD_of {r : Nat} {d : D} (h : rootD ρ r = some d) : ρ[r]? = some (some (.own d)) := by
  unfold rootD at h
  split at h
  · next q => cases h; exact q
  · cases h
theorem prune_get {i : Nat} {β : B} (h : (prune ρ)[i]? = some (some β)) : ρ[i]? = some (some β) ∧ pruneB ρ (some β) = some β := by
  unfold prune at h
  rw [List.getElem?_map] at h
  cases q : ρ[i]? with
  | none => rw [q] at h; cases h
  | some o =>
    rw [q] at h
    have h : pruneB ρ o = some β := Option.some.inj h
    cases o with
    | none => cases h
    | some c =>
      cases c with
      | own d => have h : some (B.own d) = some β := h; cases h; exact ⟨rfl, rfl⟩
      | ro d => have h : some (B.ro d) = some β := h; cases h; exact ⟨rfl, rfl⟩
      | ali r p =>
        have h' : (if p = [] ∨ ((rootD ρ r).bind (getP · p)).isSome = true then some (B.ali r p) else none) = some β := h
        by_cases c : p = [] ∨ ((rootD ρ r).bind (getP · p)).isSome = true
        · rw [if_pos c] at h'; cases h'; exact ⟨rfl, h⟩
        · rw [if_neg c] at h'; cases h'
theorem EnvOk.call (h : EnvOk K H U m (e ++ t) (ρ ++ τ)) (hl : e.length = ρ.length) (hm : m ≤ e.length) (hτ : noAli τ) :
    ∃ Ut : Addr → Prop, (∀ b, Ut b → U b) ∧ EnvOk K H Ut 0 t τ ∧ (∀ (i : Nat) (v : V) (d : D), e[i]? = some (some v) → (ρ[i]? = some (some (.own d)) → ∃ F : Addr → Prop, Rep K H F v d ∧ ∀ b, F b → ¬ Ut b) ∧ (ρ[i]? = some (some (.ro d)) → Vw K H (fun b => ¬ Ut b) v d)) ∧
      ∀ (H' : Hp) (Ut' : Addr → Prop) (t' : List (Option V)) (τ' : En), EnvOk K H' Ut' 0 t' τ' → Stp Ut H Ut' H' → ownOnly τ' → ∃ U' : Addr → Prop, EnvOk K H' U' m (e ++ t') (prune ρ ++ τ') ∧ Stp U H U' H' := by
  obtain ⟨hlen, mu, Fs, dj, sub, sl⟩ := h
  have hle : (e ++ t).length = (ρ ++ τ).length := hlen
  rw [List.length_append, List.length_append] at hle
  refine ⟨fun b => ∃ i, e.length ≤ i ∧ Fs i b, fun b ⟨i, _, z⟩ => sub i b z, ⟨by omega, fun b ⟨i, _, z⟩ => mu b (sub i b z), fun i => Fs (e.length + i), fun i j b hi hj => by have := dj _ _ b hi hj; omega, fun i b hb => ⟨_, by omega, hb⟩, fun i β hβ => ?_⟩, ?_, ?_⟩
  · have hβ' : (ρ ++ τ)[e.length + i]? = some (some β) := by
      rw [hl, List.getElem?_append_right (by omega), show ρ.length + i - ρ.length = i by omega]
      exact hβ
    obtain ⟨v, ev, sv⟩ := sl _ _ hβ'
    rw [List.getElem?_append_right (by omega), show e.length + i - e.length = i by omega] at ev
    refine ⟨v, ev, ?_⟩
    cases β with
    | own d => exact sv
    | ro d => exact Vw.mono sv fun b nb ⟨j, _, z⟩ => nb (sub j b z)
    | ali r p => exact absurd rfl (hτ _ (List.mem_of_getElem? hβ) r p)
  · intro i v d ev
    have hi : i < e.length := by
      rcases Nat.lt_or_ge i e.length with z | z
      · exact z
      · rw [List.getElem?_eq_none_iff.mpr z] at ev; cases ev
    have ap : ∀ β, ρ[i]? = some (some β) → (ρ ++ τ)[i]? = some (some β) := fun β q => by rw [List.getElem?_append_left (by omega)]; exact q
    have ev' : (e ++ t)[i]? = some (some v) := by rw [List.getElem?_append_left hi]; exact ev
    refine ⟨fun hb => ?_, fun hb => ?_⟩
    · obtain ⟨v', ev2, sv⟩ := sl i _ (ap _ hb)
      rw [ev'] at ev2; cases ev2
      exact ⟨Fs i, sv, fun b hb ⟨j, hj, z⟩ => by have := dj i j b hb z; omega⟩
    · obtain ⟨v', ev2, sv⟩ := sl i _ (ap _ hb)
      rw [ev'] at ev2; cases ev2
      exact Vw.mono sv fun b nb ⟨j, _, z⟩ => nb (sub j b z)
  · intro H' Ut' t' τ' h' st hτ'
    obtain ⟨hlen', mu', Gs, dj', sub', sl'⟩ := h'
    have nU : ∀ i b, i < e.length → Fs i b → ¬ ∃ j, e.length ≤ j ∧ Fs j b := fun i b hi hb ⟨j, hj, z⟩ => by have := dj i j b hb z; omega
    have stay : Stay H H' := st.stay fun b ⟨i, _, z⟩ => mu b (sub i b z)
    have keep : ∀ i, i < e.length → ∀ b o, Fs i b → H b = some o → H' b = some o := fun i hi b o hb q => (st b o q (nU i b hi hb)).1
    have nUt' : ∀ i, i < e.length → ∀ b, Fs i b → ¬ Ut' b := fun i hi b hb => by
      obtain ⟨o, q⟩ := mut_some (mu b (sub i b hb))
      exact (st b o q (nU i b hi hb)).2
    have lp : (prune ρ).length = ρ.length := prune_len ρ
    refine ⟨fun b => (∃ i, i < e.length ∧ Fs i b) ∨ Ut' b, ⟨by rw [List.length_append, List.length_append, lp]; omega, fun b hb => ?_, fun i => if i < e.length then Fs i else Gs (i - e.length), fun i j b hi hj => ?_, fun i b hb => ?_, fun i β hβ => ?_⟩, fun b o q nb => ?_⟩
    · rcases hb with ⟨i, hi, z⟩ | z
      · obtain ⟨o, q⟩ := mut_some (mu b (sub i b z))
        have := mu b (sub i b z)
        rw [q] at this
        rw [keep i hi b o z q]
        exact this
      · exact mu' b z
    · have hi : (if i < e.length then Fs i else Gs (i - e.length)) b := hi
      have hj : (if j < e.length then Fs j else Gs (j - e.length)) b := hj
      by_cases ei : i < e.length
      · rw [if_pos ei] at hi
        by_cases ej : j < e.length
        · rw [if_pos ej] at hj; exact dj i j b hi hj
        · rw [if_neg ej] at hj; exact absurd (sub' _ b hj) (nUt' i ei b hi)
      · rw [if_neg ei] at hi
        by_cases ej : j < e.length
        · rw [if_pos ej] at hj; exact absurd (sub' _ b hi) (nUt' j ej b hj)
        · rw [if_neg ej] at hj; have := dj' _ _ b hi hj; omega
    · have hb : (if i < e.length then Fs i else Gs (i - e.length)) b := hb
      by_cases ei : i < e.length
      · rw [if_pos ei] at hb; exact .inl ⟨i, ei, hb⟩
      · rw [if_neg ei] at hb; exact .inr (sub' _ b hb)
    · rcases slot_of (τ := τ') (by rw [lp]; exact hl) hβ with ⟨hi, q⟩ | ⟨hi, q⟩
      · obtain ⟨q1, q2⟩ := prune_get q
        obtain ⟨v, ev, sv⟩ := sl i β (by rw [List.getElem?_append_left (by omega)]; exact q1)
        rw [List.getElem?_append_left hi] at ev
        refine ⟨v, by rw [List.getElem?_append_left hi]; exact ev, ?_⟩
        simp only [if_pos hi]
        cases β with
        | own d => exact Rep.frame sv (keep i hi) stay
        | ro d =>
          exact Vw.over sv (fun b o nb q => by
            have nt : ¬ ∃ j, e.length ≤ j ∧ Fs j b := fun ⟨j, _, z⟩ => nb (sub j b z)
            exact ⟨(st b o q nt).1, fun z => z.elim (fun ⟨j, _, z⟩ => nb (sub j b z)) (st b o q nt).2⟩) stay
        | ali r p =>
          obtain ⟨hr, vr, er, hp⟩ := sv
          rw [List.getElem?_append_left (by omega)] at er
          refine ⟨hr, vr, by rw [List.getElem?_append_left (by omega)]; exact er, ?_⟩
          have q2 : (if p = [] ∨ ((rootD ρ r).bind (getP · p)).isSome = true then some (B.ali r p) else none) = some (B.ali r p) := q2
          by_cases c : p = [] ∨ ((rootD ρ r).bind (getP · p)).isSome = true
          · rcases c with c | c
            · subst c
              cases hp
              exact .nil _
            · cases hd : rootD ρ r with
              | none => rw [hd] at c; cases c
              | some d =>
                rw [hd] at c
                have hro := rootD_of hd
                obtain ⟨v2, ev2, sv2⟩ := sl r _ (by rw [List.getElem?_append_left (by omega)]; exact hro)
                rw [List.getElem?_append_left (by omega), er] at ev2
                cases ev2
                obtain ⟨d1, g⟩ := Option.isSome_iff_exists.mp c
                have sv2 : Rep K H (Fs r) vr d := sv2
                exact sv2.pathStay (d1 := d1) g hp (keep r (by omega)) stay
          · rw [if_neg c] at q2; cases q2
      · obtain ⟨v, ev, sv⟩ := sl' _ β q
        refine ⟨v, by rw [List.getElem?_append_right hi]; exact ev, ?_⟩
        have nlt : ¬ i < e.length := by omega
        simp only [if_neg nlt]
        cases β with
        | own d => exact sv
        | ro d => rcases hτ' _ (List.mem_of_getElem? q) with z | ⟨_, z⟩ <;> cases z
        | ali r p => rcases hτ' _ (List.mem_of_getElem? q) with z | ⟨_, z⟩ <;> cases z
    · have nt : ¬ ∃ j, e.length ≤ j ∧ Fs j b := fun ⟨j, _, z⟩ => nb (sub j b z)
      exact ⟨(st b o q nt).1, fun z => z.elim (fun ⟨j, _, z⟩ => nb (sub j b z)) (st b o q nt).2⟩
theorem plainL_set {cs : List D} {n : Nat} {x : D} (hn : n < cs.length) (hx : plain x = false) : plainL (cs.set n x) = false := by
  cases q : plainL (cs.set n x) with
  | false => rfl
  | true =>
    have := plainL_get q (List.getElem?_set_self hn)
    rw [hx] at this; cases this
theorem plain_setP : ∀ {p : List Nat} {d d1 x : D}, getP d p = some d1 → plain x = false → plain (setP d p x) = false
  | [], d, d1, x, g, hx => by rw [setP]; exact hx
  | n :: p, .sc _, d1, x, g, hx => by rw [getP] at g; cases g
  | n :: p, .hl _, d1, x, g, hx => by rw [getP] at g; cases g
  | n :: p, .nd k cs, d1, x, g, hx => by
    rw [getP] at g
    by_cases hpl : imm k = true ∧ plainL cs = true
    · rw [if_pos hpl] at g; cases g
    rw [if_neg hpl] at g
    cases hc : cs[n]? with
    | none => rw [hc] at g; cases g
    | some c =>
      rw [hc] at g
      rw [setP, hc]
      cases k with
      | tup => exact plainL_set (List.getElem?_eq_some_iff.mp hc).1 (plain_setP g hx)
      | frl => exact plainL_set (List.getElem?_eq_some_iff.mp hc).1 (plain_setP g hx)
      | _ => rfl
theorem getP_setP : ∀ {p : List Nat} {d d1 x : D}, getP d p = some d1 → plain x = false → getP (setP d p x) p = some x
  | [], d, d1, x, g, hx => by rw [setP, getP]
  | n :: p, .sc _, d1, x, g, hx => by rw [getP] at g; cases g
  | n :: p, .hl _, d1, x, g, hx => by rw [getP] at g; cases g
  | n :: p, .nd k cs, d1, x, g, hx => by
    rw [getP] at g
    by_cases hpl : imm k = true ∧ plainL cs = true
    · rw [if_pos hpl] at g; cases g
    rw [if_neg hpl] at g
    cases hc : cs[n]? with
    | none => rw [hc] at g; cases g
    | some c =>
      rw [hc] at g
      have hn := (List.getElem?_eq_some_iff.mp hc).1
      rw [setP, hc]
      show getP (.nd k (cs.set n (setP c p x))) (n :: p) = some x
      rw [getP, if_neg, List.getElem?_set_self hn]
      · exact getP_setP g hx
      · rintro ⟨_, q⟩
        rw [plainL_set hn (plain_setP g hx)] at q
        cases q
theorem setP_setP : ∀ {p : List Nat} {d d1 x y : D}, getP d p = some d1 → setP (setP d p x) p y = setP d p y
  | [], d, d1, x, y, g => by simp only [setP]
  | n :: p, .sc _, d1, x, y, g => by rw [getP] at g; cases g
  | n :: p, .hl _, d1, x, y, g => by rw [getP] at g; cases g
  | n :: p, .nd k cs, d1, x, y, g => by
    rw [getP] at g
    by_cases hpl : imm k = true ∧ plainL cs = true
    · rw [if_pos hpl] at g; cases g
    rw [if_neg hpl] at g
    cases hc : cs[n]? with
    | none => rw [hc] at g; cases g
    | some c =>
      rw [hc] at g
      have hn := (List.getElem?_eq_some_iff.mp hc).1
      have e1 : setP (.nd k cs) (n :: p) x = .nd k (cs.set n (setP c p x)) := by rw [setP, hc]
      have e2 : setP (.nd k cs) (n :: p) y = .nd k (cs.set n (setP c p y)) := by rw [setP, hc]
      have e3 : setP (.nd k (cs.set n (setP c p x))) (n :: p) y = .nd k ((cs.set n (setP c p x)).set n (setP (setP c p x) p y)) := by rw [setP, List.getElem?_set_self hn]
      rw [e1, e2, e3, List.set_set, setP_setP g]
theorem SlotOk.slots {F : Addr → Prop} {e e' : List (Option V)} {v : V} {β : B} (h : SlotOk K H U F m e v β) (he : ∀ r, r < m → e'[r]? = e[r]?) : SlotOk K H U F m e' v β := by
  cases β with
  | own d => exact h
  | ro d => exact h
  | ali r p =>
    obtain ⟨hr, vr, er, hp⟩ := h
    exact ⟨hr, vr, (he r hr).trans er, hp⟩
theorem EnvOk.take {r : Nat} {d d1 : D} {vr u : V} {p : List Nat} (h : EnvOk K H U m e ρ) (hm : m ≤ e.length) (hr : ρ[r]? = some (some (.own d))) (er : e[r]? = some (some vr)) (hp : PathV H vr p u) (g : getP d p = some d1) :
    EnvOk K H U m (e ++ [some u]) (ρ.set r (some (.own (setP d p (.hl u)))) ++ [some (.own d1)]) := by
  obtain ⟨hlen, mu, Fs, dj, sub, sl⟩ := h
  have hrl : r < e.length := by
    rcases Nat.lt_or_ge r e.length with z | z
    · exact z
    · rw [List.getElem?_eq_none_iff.mpr z] at er; cases er
  obtain ⟨v, ev, sv⟩ := sl r _ hr
  rw [er] at ev; cases ev
  have sv : Rep K H (Fs r) vr d := sv
  obtain ⟨F1, m1, r1, put⟩ := sv.focus hp g
  have key := put H (fun _ => False) (.hl u) (fun b o _ _ z => z) (Stay.refl H) (.hl _ _) fun b z => z.elim
  have hsl : (ρ.set r (some (.own (setP d p (.hl u))))).length = ρ.length := List.length_set
  refine ⟨by rw [List.length_append, List.length_append, hsl, hlen]; rfl, mu, fun i b => if i = e.length then F1 b else if i = r then Fs r b ∧ ¬ F1 b else Fs i b ∧ i < e.length, fun i j b hi hj => ?_, fun i b hb => ?_, fun i β hβ => ?_⟩
  · have hi : if i = e.length then F1 b else if i = r then Fs r b ∧ ¬ F1 b else Fs i b ∧ i < e.length := hi
    have hj : if j = e.length then F1 b else if j = r then Fs r b ∧ ¬ F1 b else Fs j b ∧ j < e.length := hj
    have fi : ∀ k, (if k = e.length then F1 b else if k = r then Fs r b ∧ ¬ F1 b else Fs k b ∧ k < e.length) → (k = e.length ∧ F1 b) ∨ (k = r ∧ Fs r b ∧ ¬ F1 b) ∨ (k ≠ r ∧ k ≠ e.length ∧ Fs k b) := fun k hk => by
      by_cases c1 : k = e.length
      · rw [if_pos c1] at hk; exact .inl ⟨c1, hk⟩
      · rw [if_neg c1] at hk
        by_cases c2 : k = r
        · rw [if_pos c2] at hk; exact .inr (.inl ⟨c2, hk⟩)
        · rw [if_neg c2] at hk; exact .inr (.inr ⟨c2, c1, hk.1⟩)
    rcases fi i hi with ⟨a1, a2⟩ | ⟨a1, a2, a3⟩ | ⟨a1, a2, a3⟩ <;> rcases fi j hj with ⟨b1, b2⟩ | ⟨b1, b2, b3⟩ | ⟨b1, b2, b3⟩
    · omega
    · exact absurd a2 b3
    · exact absurd (dj j r b b3 (m1 b a2)) b1
    · exact absurd b2 a3
    · omega
    · exact absurd (dj j r b b3 a2) b1
    · exact absurd (dj i r b a3 (m1 b b2)) a1
    · exact absurd (dj i r b a3 b2) a1
    · exact dj i j b a3 b3
  · have hb : if i = e.length then F1 b else if i = r then Fs r b ∧ ¬ F1 b else Fs i b ∧ i < e.length := hb
    by_cases c1 : i = e.length
    · rw [if_pos c1] at hb; exact sub r b (m1 b hb)
    · rw [if_neg c1] at hb
      by_cases c2 : i = r
      · rw [if_pos c2] at hb; exact sub r b hb.1
      · rw [if_neg c2] at hb; exact sub i b hb.1
  · have hlA : ∀ r, r < m → (e ++ [some u])[r]? = e[r]? := fun r hr => List.getElem?_append_left (by omega)
    rcases slot_of (by rw [hsl]; exact hlen) hβ with ⟨hi, q⟩ | ⟨hi, q⟩
    · by_cases c : r = i
      · subst c
        rw [List.getElem?_set_self (by omega)] at q
        cases q
        refine ⟨vr, by rw [List.getElem?_append_left hi]; exact er, ?_⟩
        have n1 : ¬ r = e.length := by omega
        show Rep K H (fun b => if r = e.length then F1 b else if r = r then Fs r b ∧ ¬ F1 b else _) vr _
        simp only [if_neg n1, if_pos rfl]
        exact key.mono fun b z => z.elim (fun z => z) fun z => z.elim
      · rw [List.getElem?_set_ne c] at q
        obtain ⟨v, ev, sv⟩ := sl i β q
        refine ⟨v, by rw [List.getElem?_append_left hi]; exact ev, ?_⟩
        have n1 : ¬ i = e.length := by omega
        have n2 : ¬ i = r := fun z => c z.symm
        have sv := SlotOk.slots sv hlA
        cases β with
        | own dd =>
          show Rep K H (fun b => if i = e.length then F1 b else if i = r then Fs r b ∧ ¬ F1 b else Fs i b ∧ i < e.length) v dd
          simp only [if_neg n1, if_neg n2]
          exact Rep.mono sv fun b z => ⟨z, hi⟩
        | ro dd => exact sv
        | ali _ _ => exact sv
    · have : i - e.length = 0 := by
        have := (List.getElem?_eq_some_iff.mp q).1
        simp at this; omega
      rw [this] at q
      cases q
      have ei : i = e.length := by omega
      subst ei
      refine ⟨u, by rw [List.getElem?_append_right (Nat.le_refl _), Nat.sub_self]; rfl, ?_⟩
      show Rep K H (fun b => if e.length = e.length then F1 b else _) u d1
      simp only [if_pos rfl]
      exact r1
theorem EnvOk.put {r : Nat} {d0 d1 : D} {u : V} {p : List Nat} (h : EnvOk K H U m (e ++ [some u]) (ρ ++ [some (.own d1)])) (hl : e.length = ρ.length) (hm : m ≤ e.length) (hr : ρ[r]? = some (some (.own d0))) (g : getP d0 p = some (.hl u)) :
    EnvOk K H U m e (ρ.set r (some (.own (setP d0 p d1)))) := by
  obtain ⟨hlen, mu, Fs, dj, sub, sl⟩ := h
  have hrl : r < e.length := by rw [hl]; exact (List.getElem?_eq_some_iff.mp hr).1
  obtain ⟨vr, ev, sv⟩ := sl r _ (by rw [List.getElem?_append_left (by omega)]; exact hr)
  rw [List.getElem?_append_left hrl] at ev
  have sv : Rep K H (Fs r) vr d0 := sv
  obtain ⟨u', hp⟩ := sv.path g
  obtain ⟨F1, m1, r1, put⟩ := sv.focus hp g
  have := r1.hole
  subst this
  obtain ⟨u2, eu, su⟩ := sl e.length (.own d1) (by rw [hl, List.getElem?_append_right (Nat.le_refl _), Nat.sub_self]; rfl)
  rw [List.getElem?_append_right (Nat.le_refl _), Nat.sub_self] at eu
  have eu : some (some u') = some (some u2) := eu
  cases eu
  have su : Rep K H (Fs e.length) u' d1 := su
  have key := put H (Fs e.length) d1 (fun b o _ _ z => z) (Stay.refl H) su fun b z => .inr fun w => by have := dj _ _ b z w; omega
  refine ⟨by rw [List.length_set]; exact hl, mu, fun i b => if i = r then (Fs r b ∧ ¬ F1 b) ∨ Fs e.length b else Fs i b ∧ i < e.length, fun i j b hi hj => ?_, fun i b hb => ?_, fun i β hβ => ?_⟩
  · have hi : if i = r then (Fs r b ∧ ¬ F1 b) ∨ Fs e.length b else Fs i b ∧ i < e.length := hi
    have hj : if j = r then (Fs r b ∧ ¬ F1 b) ∨ Fs e.length b else Fs j b ∧ j < e.length := hj
    by_cases c1 : i = r
    · rw [if_pos c1] at hi
      by_cases c2 : j = r
      · omega
      · rw [if_neg c2] at hj
        rcases hi with hi | hi
        · exact absurd (dj j r b hj.1 hi.1) c2
        · have := dj j _ b hj.1 hi; omega
    · rw [if_neg c1] at hi
      by_cases c2 : j = r
      · rw [if_pos c2] at hj
        rcases hj with hj | hj
        · exact absurd (dj i r b hi.1 hj.1) c1
        · have := dj i _ b hi.1 hj; omega
      · rw [if_neg c2] at hj
        exact dj i j b hi.1 hj.1
  · have hb : if i = r then (Fs r b ∧ ¬ F1 b) ∨ Fs e.length b else Fs i b ∧ i < e.length := hb
    by_cases c1 : i = r
    · rw [if_pos c1] at hb
      rcases hb with hb | hb
      · exact sub r b hb.1
      · exact sub _ b hb
    · rw [if_neg c1] at hb
      exact sub i b hb.1
  · have hlA : ∀ r, r < m → e[r]? = (e ++ [some u'])[r]? := fun r hr => (List.getElem?_append_left (by omega)).symm
    by_cases c : r = i
    · subst c
      rw [List.getElem?_set_self (by omega)] at hβ
      cases hβ
      refine ⟨vr, ev, ?_⟩
      show Rep K H (fun b => if r = r then (Fs r b ∧ ¬ F1 b) ∨ Fs e.length b else _) vr _
      simp only [if_pos rfl]
      exact key
    · rw [List.getElem?_set_ne c] at hβ
      have hi : i < e.length := by rw [hl]; exact (List.getElem?_eq_some_iff.mp hβ).1
      obtain ⟨v, ev2, sv2⟩ := sl i β (by rw [List.getElem?_append_left (by omega)]; exact hβ)
      rw [List.getElem?_append_left hi] at ev2
      refine ⟨v, ev2, ?_⟩
      have n2 : ¬ i = r := fun z => c z.symm
      have sv2 := SlotOk.slots sv2 hlA
      cases β with
      | own dd =>
        show Rep K H (fun b => if i = r then (Fs r b ∧ ¬ F1 b) ∨ Fs e.length b else Fs i b ∧ i < e.length) v dd
        simp only [if_neg n2]
        exact Rep.mono sv2 fun b z => ⟨z, hi⟩
      | ro dd => exact sv2
      | ali _ _ => exact sv2
end
end VL
namespace VL
open PySem L2
abbrev T1 : Addr → Prop := fun _ => True
def Own (K : W.Frag) (H H' : Hp) (v : V) (d : D) : Prop := ∃ G : Addr → Prop, Rep K H' G v d ∧ ∀ b, G b → H b = none ∧ Mut (H' b)
section
variable {K : W.Frag} {H H' H1 H2 : Hp} {U U' N : Addr → Prop} {m : Nat} {e t t' : List (Option V)} {ρ τ τ' : En} {v : V} {d : D}
theorem Own.sc (v : V) : Own K H H' v (.sc v) := ⟨fun _ => False, .sc _ _, fun _ z => z.elim⟩
theorem Own.plain (h : Vw K H' N v d) (p : VL.plain d = true) : Own K H H' v d := ⟨_, h.plain p, fun _ z => z.elim⟩
theorem Own.vw (h : Own K H H' v d) : Vw K H' T1 v d := let ⟨_, r, _⟩ := h; r.vw
theorem Own.early (h : Own K H1 H2 v d) (s : Same H H1) : Own K H H2 v d := by
  obtain ⟨G, r, f⟩ := h
  refine ⟨G, r, fun b z => ⟨?_, (f b z).2⟩⟩
  cases q : H b with
  | none => rfl
  | some o => have := (f b z).1; rw [s b o q] at this; cases this
theorem PathV.same {u : V} {p : List Nat} (h : PathV H v p u) (s : Same H H') : PathV H' v p u := by
  induction h with
  | nil => exact .nil _
  | cons e1 e2 _ ih => exact .cons (s _ _ e1) e2 ih
theorem mut_same {b : Addr} (h : Mut (H b)) (s : Same H H') : Mut (H' b) := by
  obtain ⟨o, w⟩ := mut_some h
  rw [w] at h
  rw [s b o w]
  exact h
theorem EnvOk.same (h : EnvOk K H U m e ρ) (s : Same H H') : EnvOk K H' U m e ρ := by
  obtain ⟨hl, mu, Fs, dj, sub, sl⟩ := h
  refine ⟨hl, fun b z => mut_same (mu b z) s, Fs, dj, sub, fun i β hβ => ?_⟩
  obtain ⟨v, ev, sv⟩ := sl i β hβ
  refine ⟨v, ev, ?_⟩
  cases β with
  | own d => exact Rep.same sv s
  | ro d => exact Vw.same sv s
  | ali r p => obtain ⟨a, vr, b, c⟩ := sv; exact ⟨a, vr, b, c.same s⟩
theorem EnvOk.push (h : EnvOk K H U m e ρ) (s : Same H H') (hm : m ≤ e.length) (ow : Own K H H' v d) : ∃ U' : Addr → Prop, EnvOk K H' U' m (e ++ [some v]) (ρ ++ [some (.own d)]) ∧ Stp U H U' H' := by
  obtain ⟨hl, mu, Fs, dj, sub, sl⟩ := h.same s
  obtain ⟨G, r, fr⟩ := ow
  have nG : ∀ b, G b → ¬ U b := fun b z u => by
    obtain ⟨o, w⟩ := mut_some (h.mu b u)
    rw [(fr b z).1] at w; cases w
  refine ⟨fun b => U b ∨ G b, ⟨by rw [List.length_append, List.length_append, hl]; rfl, fun b z => z.elim (mu b) fun z => (fr b z).2, fun i b => if i = e.length then G b else Fs i b, fun i j b hi hj => ?_, fun i b hb => ?_, fun i β hβ => ?_⟩, fun b o q nu => ⟨s b o q, fun z => z.elim nu fun z => by rw [(fr b z).1] at q; cases q⟩⟩
  · have hi : if i = e.length then G b else Fs i b := hi
    have hj : if j = e.length then G b else Fs j b := hj
    by_cases ci : i = e.length
    · rw [if_pos ci] at hi
      by_cases cj : j = e.length
      · omega
      · rw [if_neg cj] at hj; exact absurd (sub j b hj) (nG b hi)
    · rw [if_neg ci] at hi
      by_cases cj : j = e.length
      · rw [if_pos cj] at hj; exact absurd (sub i b hi) (nG b hj)
      · rw [if_neg cj] at hj; exact dj i j b hi hj
  · have hb : if i = e.length then G b else Fs i b := hb
    by_cases ci : i = e.length
    · rw [if_pos ci] at hb; exact .inr hb
    · rw [if_neg ci] at hb; exact .inl (sub i b hb)
  · rcases slot_of hl hβ with ⟨hi, q⟩ | ⟨hi, q⟩
    · obtain ⟨v', ev, sv⟩ := sl i β q
      refine ⟨v', by rw [List.getElem?_append_left hi]; exact ev, ?_⟩
      have ni : ¬ i = e.length := by omega
      have sv := SlotOk.slots sv (e' := e ++ [some v]) fun r hr => List.getElem?_append_left (by omega)
      cases β with
      | own dd =>
        show Rep K H' (fun b => if i = e.length then G b else Fs i b) v' dd
        simp only [if_neg ni]
        exact sv
      | ro dd =>
        obtain ⟨v2, ev2, sv0⟩ := h.ex.choose_spec.2.2 i _ q
        rw [ev] at ev2; cases ev2
        have sv0 : Vw K H (fun b => ¬ U b) v' dd := sv0
        exact sv0.over (fun b o nb q => ⟨s b o q, fun z => z.elim nb fun z => by rw [(fr b z).1] at q; cases q⟩) (Stay.of s)
      | ali _ _ => exact sv
    · have : i - e.length = 0 := by
        have := (List.getElem?_eq_some_iff.mp q).1
        simp at this; omega
      rw [this] at q
      cases q
      have ei : i = e.length := by omega
      subst ei
      refine ⟨v, by rw [List.getElem?_append_right (Nat.le_refl _), Nat.sub_self]; rfl, ?_⟩
      show Rep K H' (fun b => if e.length = e.length then G b else _) v d
      simp only [if_pos rfl]
      exact r
theorem EnvOk.drop (h : EnvOk K H U m (e ++ t) (ρ ++ τ)) (hl : e.length = ρ.length) (hm : m ≤ e.length) : EnvOk K H U m e ρ := by
  obtain ⟨_, mu, Fs, dj, sub, sl⟩ := h
  refine ⟨hl, mu, Fs, dj, sub, fun i β hβ => ?_⟩
  have hi : i < ρ.length := (List.getElem?_eq_some_iff.mp hβ).1
  obtain ⟨v, ev, sv⟩ := sl i β (by rw [List.getElem?_append_left hi]; exact hβ)
  rw [List.getElem?_append_left (by omega)] at ev
  exact ⟨v, ev, SlotOk.slots sv fun r hr => (List.getElem?_append_left (by omega)).symm⟩
def unroot (i : Nat) (ρ : En) : En := ρ.map fun
  | some (.ali r p) => if r = i then none else some (.ali r p)
  | b => b
theorem unroot_len (i : Nat) (ρ : En) : (unroot i ρ).length = ρ.length := by unfold unroot; rw [List.length_map]
theorem unroot_get {i j : Nat} {β : B} (h : (unroot i ρ)[j]? = some (some β)) : ρ[j]? = some (some β) ∧ ∀ r p, β = .ali r p → r ≠ i := by
  unfold unroot at h
  rw [List.getElem?_map] at h
  cases q : ρ[j]? with
  | none => rw [q] at h; cases h
  | some o =>
    rw [q] at h
    cases o with
    | none => cases h
    | some c =>
      cases c with
      | own d => cases h; exact ⟨rfl, fun _ _ z => nomatch z⟩
      | ro d => cases h; exact ⟨rfl, fun _ _ z => nomatch z⟩
      | ali r p =>
        have h : some (if r = i then none else some (B.ali r p)) = some (some β) := h
        by_cases c : r = i
        · rw [if_pos c] at h; cases h
        · rw [if_neg c] at h; cases h; exact ⟨rfl, fun r' p' z => by cases z; exact c⟩
theorem EnvOk.set {i : Nat} (h : EnvOk K H U m (e ++ [some v]) (ρ ++ [some (.own d)])) (hl : e.length = ρ.length) (hm : m ≤ e.length) (hi : i < e.length) : EnvOk K H U m (e.set i (some v)) ((unroot i ρ).set i (some (.own d))) := by
  obtain ⟨_, mu, Fs, dj, sub, sl⟩ := h
  obtain ⟨v', ev, sv⟩ := sl e.length (.own d) (by rw [hl, List.getElem?_append_right (Nat.le_refl _), Nat.sub_self]; rfl)
  rw [List.getElem?_append_right (Nat.le_refl _), Nat.sub_self] at ev
  cases ev
  have sv : Rep K H (Fs e.length) v d := sv
  refine ⟨by rw [List.length_set, List.length_set, unroot_len]; exact hl, mu, fun j b => if j = i then Fs e.length b else Fs j b ∧ j < e.length, fun j k b hj hk => ?_, fun j b hb => ?_, fun j β hβ => ?_⟩
  · have hj : if j = i then Fs e.length b else Fs j b ∧ j < e.length := hj
    have hk : if k = i then Fs e.length b else Fs k b ∧ k < e.length := hk
    by_cases cj : j = i
    · rw [if_pos cj] at hj
      by_cases ck : k = i
      · omega
      · rw [if_neg ck] at hk; have := dj _ _ b hj hk.1; omega
    · rw [if_neg cj] at hj
      by_cases ck : k = i
      · rw [if_pos ck] at hk; have := dj _ _ b hj.1 hk; omega
      · rw [if_neg ck] at hk; exact dj _ _ b hj.1 hk.1
  · have hb : if j = i then Fs e.length b else Fs j b ∧ j < e.length := hb
    by_cases cj : j = i
    · rw [if_pos cj] at hb; exact sub _ b hb
    · rw [if_neg cj] at hb; exact sub _ b hb.1
  · by_cases cj : i = j
    · subst cj
      rw [List.getElem?_set_self (by rw [unroot_len]; omega)] at hβ
      cases hβ
      refine ⟨v, List.getElem?_set_self hi, ?_⟩
      show Rep K H (fun b => if i = i then Fs e.length b else _) v d
      simp only [if_pos rfl]
      exact sv
    · rw [List.getElem?_set_ne cj] at hβ
      obtain ⟨q1, q2⟩ := unroot_get hβ
      have hj : j < e.length := by rw [hl]; exact (List.getElem?_eq_some_iff.mp q1).1
      obtain ⟨v2, ev2, sv2⟩ := sl j β (by rw [List.getElem?_append_left (by omega)]; exact q1)
      rw [List.getElem?_append_left hj] at ev2
      refine ⟨v2, by rw [List.getElem?_set_ne cj]; exact ev2, ?_⟩
      have nj : ¬ j = i := fun z => cj z.symm
      cases β with
      | own dd =>
        show Rep K H (fun b => if j = i then Fs e.length b else Fs j b ∧ j < e.length) v2 dd
        simp only [if_neg nj]
        exact Rep.mono sv2 fun b z => ⟨z, hj⟩
      | ro dd => exact sv2
      | ali r p =>
        obtain ⟨a, vr, b, c⟩ := sv2
        rw [List.getElem?_append_left (by omega)] at b
        exact ⟨a, vr, by rw [List.getElem?_set_ne fun z => q2 r p rfl z.symm]; exact b, c⟩
theorem EnvOk.bind {i : Nat} {β : B} (h : EnvOk K H U m e ρ) (hi : i < e.length) (hb : match β with | .own _ => False | .ro d => Vw K H (fun b => ¬ U b) v d | .ali r p => r < m ∧ r ≠ i ∧ ∃ vr, e[r]? = some (some vr) ∧ PathV H vr p v) :
    EnvOk K H U m (e.set i (some v)) ((unroot i ρ).set i (some β)) := by
  obtain ⟨hl, mu, Fs, dj, sub, sl⟩ := h
  refine ⟨by rw [List.length_set, List.length_set, unroot_len]; exact hl, mu, Fs, dj, sub, fun j γ hγ => ?_⟩
  by_cases cj : i = j
  · subst cj
    rw [List.getElem?_set_self (by rw [unroot_len]; omega)] at hγ
    cases hγ
    refine ⟨v, List.getElem?_set_self hi, ?_⟩
    cases β with
    | own d => exact hb.elim
    | ro d => exact hb
    | ali r p =>
      obtain ⟨a, b, vr, c, q⟩ := hb
      exact ⟨a, vr, by rw [List.getElem?_set_ne fun z => b z.symm]; exact c, q⟩
  · rw [List.getElem?_set_ne cj] at hγ
    obtain ⟨q1, q2⟩ := unroot_get hγ
    obtain ⟨v2, ev2, sv2⟩ := sl j γ q1
    refine ⟨v2, by rw [List.getElem?_set_ne cj]; exact ev2, ?_⟩
    cases γ with
    | own dd => exact sv2
    | ro dd => exact sv2
    | ali r p =>
      obtain ⟨a, vr, b, c⟩ := sv2
      exact ⟨a, vr, by rw [List.getElem?_set_ne fun z => q2 r p rfl z.symm]; exact b, c⟩
end
structure Sit (K : W.Frag) (n : Nat) (H : Hp) (U : Addr → Prop) (σ hv : List (Option V)) (ρ : En) (τv : List V) (τd : List D) : Prop where
  ok : EnvOk K H U ρ.length (σ ++ hv ++ τv.map some) (ρ ++ τd.map fun d => some (.own d))
  len : σ.length + hv.length = ρ.length
  nn : σ.length = n
inductive Fl where
  | nx (ρ : En) | rt (d : D) (ρ : En) | bk (ρ : En) | ct (ρ : En)
def EndOk (K : W.Frag) (n : Nat) (H : Hp) (U : Addr → Prop) (hv : List (Option V)) (τv : List V) (τd : List D) (E : Ends) : Fl → Prop
  | .nx ρ' => ∀ σ' H' U', Sit K n H' U' σ' hv ρ' τv τd → Stp U H U' H' → E.nx σ' H'
  | .rt d ρ' => ∀ v σ' H' U', Sit K n H' U' σ' hv ρ' (τv ++ [v]) (τd ++ [d]) → Stp U H U' H' → E.rt v H'
  | .bk ρ' => ∀ σ' H' U', Sit K n H' U' σ' hv ρ' τv τd → Stp U H U' H' → E.bk σ' H'
  | .ct ρ' => ∀ σ' H' U', Sit K n H' U' σ' hv ρ' τv τd → Stp U H U' H' → E.ct σ' H'
class SV (K : W.Frag) (n : Nat) (t : TE) (f : outParam (En → Option D)) : Prop where
  s : ∀ {σ hv : List (Option V)} {H : Hp} {U : Addr → Prop} {ρ : En} {τv : List V} {τd : List D} {d : D} {Q : VK}, Sit K n H U σ hv ρ τv τd → f ρ = some d → (∀ v H', Same H H' → Vw K H' T1 v d → Q v H') → t σ H Q
class SF (K : W.Frag) (n : Nat) (t : TE) (f : outParam (En → Option D)) : Prop where
  s : ∀ {σ hv : List (Option V)} {H : Hp} {U : Addr → Prop} {ρ : En} {τv : List V} {τd : List D} {d : D} {Q : VK}, Sit K n H U σ hv ρ τv τd → f ρ = some d → (∀ v H', Same H H' → Own K H H' v d → Q v H') → t σ H Q
class SM (K : W.Frag) (n : Nat) (t : TE) (f : outParam (En → Option (D × En))) : Prop where
  s : ∀ {σ hv : List (Option V)} {H : Hp} {U : Addr → Prop} {ρ ρ' : En} {τv : List V} {τd : List D} {d : D} {Q : VK}, Sit K n H U σ hv ρ τv τd → f ρ = some (d, ρ') →
    (∀ v H' U', Sit K n H' U' σ hv ρ' (τv ++ [v]) (τd ++ [d]) → Stp U H U' H' → Q v H') → t σ H Q
inductive Pl where
  | rt (r : Nat) (p : List Nat) | ro (d : D)
def PlOk (K : W.Frag) (H : Hp) (U : Addr → Prop) (e : List (Option V)) (ρ : En) (v : V) : Pl → Prop
  | .rt r p => r < ρ.length ∧ ∃ vr d, e[r]? = some (some vr) ∧ rootD ρ r = some d ∧ (getP d p).isSome = true ∧ PathV H vr p v
  | .ro d => Vw K H (fun b => ¬ U b) v d
class SP (K : W.Frag) (n : Nat) (t : TE) (f : outParam (En → Option Pl)) : Prop where
  s : ∀ {σ hv : List (Option V)} {H : Hp} {U : Addr → Prop} {ρ : En} {τv : List V} {τd : List D} {q : Pl} {Q : VK}, Sit K n H U σ hv ρ τv τd → f ρ = some q → (∀ v H', Same H H' → PlOk K H' U (σ ++ hv) ρ v q → Q v H') → t σ H Q
class SVT (K : W.Frag) (n : Nat) (t : TT) (f : outParam (En → Option Bool)) : Prop where
  s : ∀ {σ hv : List (Option V)} {H : Hp} {U : Addr → Prop} {ρ : En} {τv : List V} {τd : List D} {b : Bool} {Q : Bool → Hp → Prop}, Sit K n H U σ hv ρ τv τd → f ρ = some b → (∀ H', Same H H' → Q b H') → t σ H Q
class ST (K : W.Frag) (n : Nat) (t : TT) (f : outParam (En → Option (Bool × En))) : Prop where
  s : ∀ {σ hv : List (Option V)} {H : Hp} {U : Addr → Prop} {ρ ρ' : En} {τv : List V} {τd : List D} {b : Bool} {Q : Bool → Hp → Prop}, Sit K n H U σ hv ρ τv τd → f ρ = some (b, ρ') →
    (∀ H' U', Sit K n H' U' σ hv ρ' τv τd → Stp U H U' H' → Q b H') → t σ H Q
def VwL (K : W.Frag) (H : Hp) (N : Addr → Prop) (vs : List V) (ds : List D) : Prop := vs.length = ds.length ∧ ∀ (i : Nat) (v : V) (d : D), vs[i]? = some v → ds[i]? = some d → Vw K H N v d
class SA (K : W.Frag) (n : Nat) (t : TA) (f : outParam (En → Option (List D))) : Prop where
  s : ∀ {σ hv : List (Option V)} {H : Hp} {U : Addr → Prop} {ρ : En} {τv : List V} {τd : List D} {ds : List D} {Q : List V → Hp → Prop}, Sit K n H U σ hv ρ τv τd → f ρ = some ds → (∀ vs H', Same H H' → VwL K H' T1 vs ds → Q vs H') → t σ H Q
class SMA (K : W.Frag) (n : Nat) (t : TA) (f : outParam (En → Option (List D × En))) : Prop where
  s : ∀ {σ hv : List (Option V)} {H : Hp} {U : Addr → Prop} {ρ ρ' : En} {τv : List V} {τd : List D} {ds : List D} {Q : List V → Hp → Prop}, Sit K n H U σ hv ρ τv τd → f ρ = some (ds, ρ') →
    (∀ vs H' U', vs.length = ds.length → Sit K n H' U' σ hv ρ' (τv ++ vs) (τd ++ ds) → Stp U H U' H' → Q vs H') → t σ H Q
class SS (K : W.Frag) (n : Nat) (t : TS) (f : outParam (En → Option Fl)) : Prop where
  s : ∀ {σ hv : List (Option V)} {H : Hp} {U : Addr → Prop} {ρ : En} {τv : List V} {τd : List D} {fl : Fl} {E : Ends}, Sit K n H U σ hv ρ τv τd → f ρ = some fl → EndOk K n H U hv τv τd E fl → t E σ H
section
variable {K : W.Frag} {n : Nat} {H H' : Hp} {U U' : Addr → Prop} {σ hv : List (Option V)} {ρ ρ' : En} {τv vs : List V} {τd ds : List D} {v : V} {d : D}
theorem Sit.same (h : Sit K n H U σ hv ρ τv τd) (s : Same H H') : Sit K n H' U σ hv ρ τv τd := ⟨h.ok.same s, h.len, h.nn⟩
theorem Sit.push (h : Sit K n H U σ hv ρ τv τd) (s : Same H H') (o : Own K H H' v d) : ∃ U', Sit K n H' U' σ hv ρ (τv ++ [v]) (τd ++ [d]) ∧ Stp U H U' H' := by
  obtain ⟨U', k, st⟩ := h.ok.push s (by have := h.len; simp; omega) o
  refine ⟨U', ⟨?_, h.len, h.nn⟩, st⟩
  rw [List.map_append, List.map_append, ← List.append_assoc, ← List.append_assoc]
  exact k
theorem Sit.drop (h : Sit K n H U σ hv ρ (τv ++ vs) (τd ++ ds)) (hl : vs.length = ds.length) : Sit K n H U σ hv ρ τv τd := by
  refine ⟨?_, h.len, h.nn⟩
  have k := h.ok
  have e := k.len
  have l := h.len
  rw [List.map_append, List.map_append, ← List.append_assoc, ← List.append_assoc] at k
  refine k.drop ?_ (by simp; omega)
  simp at e ⊢
  omega
theorem Sit.drop1 (h : Sit K n H U σ hv ρ (τv ++ [v]) (τd ++ [d])) : Sit K n H U σ hv ρ τv τd := h.drop (vs := [v]) (ds := [d]) rfl
theorem Sit.tl (h : Sit K n H U σ hv ρ τv τd) : τv.length = τd.length := by
  have e := h.ok.len
  have l := h.len
  simp at e
  omega
theorem Sit.last (h : Sit K n H U σ hv ρ (τv ++ [v]) (τd ++ [d])) : Vw K H T1 v d := by
  have tl := h.tl
  have l := h.len
  obtain ⟨_, mu, Fs, dj, sub, sl⟩ := h.ok
  obtain ⟨v', ev, sv⟩ := sl (ρ.length + τd.length) (.own d) (by simp)
  have : v' = v := by
    have e2 : (σ ++ hv ++ (τv ++ [v]).map some)[ρ.length + τd.length]? = some (some v) := by
      rw [List.getElem?_append_right (by simp; omega)]
      simp at tl ⊢
      rw [show ρ.length + τd.length - (σ.length + hv.length) = τv.length by omega]
      simp
    rw [e2] at ev
    cases ev; rfl
  subst this
  exact Rep.vw sv
end
end VL
namespace VL
open PySem L2
class LtN (i n : Nat) : Prop where
  h : i < n
instance {n : Nat} : LtN 0 (n + 1) := ⟨Nat.succ_pos n⟩
instance {i n : Nat} [h : LtN i n] : LtN (i + 1) (n + 1) := ⟨Nat.succ_lt_succ h.h⟩
section
variable {K : W.Frag} {n : Nat} {H H' : Hp} {U U' : Addr → Prop} {σ hv : List (Option V)} {ρ ρ' : En} {τv vs : List V} {τd ds : List D} {v : V} {d : D}
instance (priority := 100) sv_of_sf {t : TE} {f : En → Option D} [S : SF K n t f] : SV K n t f := ⟨fun I h k => S.s I h fun v H' s o => k v H' s o.vw⟩
instance (priority := 200) sm_of_sf {t : TE} {f : En → Option D} [S : SF K n t f] : SM K n t (fun ρ => (f ρ).map fun d => (d, ρ)) := ⟨fun {σ hv H U ρ ρ' τv τd d Q} I h k => by
  obtain ⟨d', h1, h2⟩ := Option.map_eq_some_iff.mp h
  cases h2
  refine S.s I h1 fun v H' s o => ?_
  obtain ⟨U', I', st⟩ := I.push s o
  exact k v H' U' I' st⟩
def plainM (f : En → Option D) (ρ : En) : Option (D × En) := (f ρ).bind fun d => if plain d = true then some (d, ρ) else none
instance (priority := 90) sm_of_sv {t : TE} {f : En → Option D} [S : SV K n t f] : SM K n t (plainM f) := ⟨fun {σ hv H U ρ ρ' τv τd d Q} I h k => by
  obtain ⟨d', h1, h2⟩ := Option.bind_eq_some_iff.mp h
  by_cases p : plain d' = true
  · rw [if_pos p] at h2
    cases h2
    refine S.s I h1 fun v H' s w => ?_
    obtain ⟨U', I', st⟩ := I.push s (Own.plain w p)
    exact k v H' U' I' st
  · rw [if_neg p] at h2; cases h2⟩
instance (priority := 100) st_of_svt {t : TT} {f : En → Option Bool} [S : SVT K n t f] : ST K n t (fun ρ => (f ρ).map fun b => (b, ρ)) := ⟨fun {σ hv H U ρ ρ' τv τd b Q} I h k => by
  obtain ⟨b', h1, h2⟩ := Option.map_eq_some_iff.mp h
  cases h2
  refine S.s I h1 fun H' s => k H' U (I.same s) fun b o q nu => ⟨s b o q, nu⟩⟩
def bD (ρ : En) : Option B → Option D
  | some (.own d) => some d
  | some (.ro d) => some d
  | some (.ali r p) => (rootD ρ r).bind (getP · p)
  | none => none
def dVar (i : Nat) (ρ : En) : Option D := (ρ[i]?).bind (bD ρ)
theorem Sit.slot {i : Nat} {β : B} (I : Sit K n H U σ hv ρ τv τd) (h : ρ[i]? = some (some β)) : ∃ v F, (σ ++ hv)[i]? = some (some v) ∧ (∀ b, F b → U b) ∧ SlotOk K H U F ρ.length (σ ++ hv) v β := by
  have l := I.len
  have hi : i < ρ.length := (List.getElem?_eq_some_iff.mp h).1
  obtain ⟨_, mu, Fs, dj, sub, sl⟩ := I.ok
  obtain ⟨v, ev, sv⟩ := sl i β (by rw [List.getElem?_append_left hi]; exact h)
  rw [List.getElem?_append_left (by simp; omega)] at ev
  exact ⟨v, Fs i, ev, sub i, SlotOk.slots sv fun r hr => (List.getElem?_append_left (by simp; omega)).symm⟩
theorem Sit.name {i : Nat} (I : Sit K n H U σ hv ρ τv τd) (hi : i < n) : (σ ++ hv)[i]? = σ[i]? := List.getElem?_append_left (by rw [I.nn]; exact hi)
theorem Sit.rootV {r : Nat} (I : Sit K n H U σ hv ρ τv τd) (h : rootD ρ r = some d) : ∃ v F, (σ ++ hv)[r]? = some (some v) ∧ (∀ b, F b → U b) ∧ Rep K H F v d := by
  obtain ⟨v, F, a, b, c⟩ := I.slot (rootD_of h)
  exact ⟨v, F, a, b, c⟩
def plD (ρ : En) : Pl → Option D
  | .rt r p => (rootD ρ r).bind (getP · p)
  | .ro d => some d
theorem Sit.at {q : Pl} (I : Sit K n H U σ hv ρ τv τd) (h : PlOk K H U (σ ++ hv) ρ v q) (hd : plD ρ q = some d) : Vw K H T1 v d := by
  cases q with
  | ro d' => cases hd; exact h.any
  | rt r p =>
    obtain ⟨_, vr, d0, er, hr, _, hp⟩ := h
    have hd : (rootD ρ r).bind (getP · p) = some d := hd
    rw [hr] at hd
    obtain ⟨v', F, ev, _, rp⟩ := I.rootV hr
    rw [er] at ev; cases ev
    exact rp.sub hd hp fun _ _ => trivial
instance sv_var {i : Nat} [L : LtN i n] : SV K n (tVar i) (dVar i) := ⟨fun {σ hv H U ρ τv τd d Q} I h k => by
  obtain ⟨o, h1, h2⟩ := Option.bind_eq_some_iff.mp h
  cases o with
  | none => cases h2
  | some β =>
    obtain ⟨v, F, ev, sub, sv⟩ := I.slot h1
    rw [I.name L.h] at ev
    refine ⟨v, ev, k v H (Same.refl H) ?_⟩
    cases β with
    | own d' => cases h2; exact Rep.vw sv
    | ro d' => cases h2; exact Vw.any sv
    | ali r p =>
      obtain ⟨d0, hr, g⟩ := Option.bind_eq_some_iff.mp h2
      obtain ⟨_, vr, er, hp⟩ := sv
      obtain ⟨v', F', ev', _, rp⟩ := I.rootV hr
      rw [er] at ev'; cases ev'
      exact rp.sub g hp fun _ _ => trivial⟩
def plVar (i : Nat) (ρ : En) : Option Pl := match ρ[i]? with
  | some (some (.own _)) => some (.rt i [])
  | some (some (.ro d)) => some (.ro d)
  | some (some (.ali r p)) => if ((rootD ρ r).bind (getP · p)).isSome = true then some (.rt r p) else none
  | _ => none
instance sp_var {i : Nat} [L : LtN i n] : SP K n (tVar i) (plVar i) := ⟨fun {σ hv H U ρ τv τd q Q} I h k => by
  unfold plVar at h
  split at h
  · next d e1 =>
    cases h
    obtain ⟨v, F, ev, sub, sv⟩ := I.slot e1
    have ev' := ev
    rw [I.name L.h] at ev
    have hr : rootD ρ i = some d := by unfold rootD; rw [e1]
    exact ⟨v, ev, k v H (Same.refl H) ⟨(List.getElem?_eq_some_iff.mp e1).1, v, d, ev', hr, rfl, .nil v⟩⟩
  · next d e1 =>
    cases h
    obtain ⟨v, F, ev, sub, sv⟩ := I.slot e1
    rw [I.name L.h] at ev
    exact ⟨v, ev, k v H (Same.refl H) sv⟩
  · next r p e1 =>
    by_cases c : ((rootD ρ r).bind (getP · p)).isSome = true
    · rw [if_pos c] at h
      cases h
      obtain ⟨v, F, ev, sub, sv⟩ := I.slot e1
      rw [I.name L.h] at ev
      obtain ⟨hr, vr, er, hp⟩ := sv
      cases hd : rootD ρ r with
      | none => rw [hd] at c; cases c
      | some d0 =>
        rw [hd] at c
        exact ⟨v, ev, k v H (Same.refl H) ⟨hr, vr, d0, er, hd, c, hp⟩⟩
    · rw [if_neg c] at h; cases h
  · cases h⟩
instance sf_c {v : V} : SF K n (tC v) (fun _ => some (.sc v)) := ⟨fun I h k => by cases h; exact k v _ (Same.refl _) (.sc v)⟩
class OpD (K : W.Frag) (r : R2) (g : outParam (D → D → Option D)) : Prop where
  s : ∀ {H : Hp} {x y : V} {dx dy d : D} {Q : VK}, Vw K H T1 x dx → Vw K H T1 y dy → g dx dy = some d → (∀ v H', Same H H' → Own K H H' v d → Q v H') → r x y H Q
def op2 (g : D → D → Option D) (fa fb : En → Option D) (ρ : En) : Option D := (fa ρ).bind fun a => (fb ρ).bind fun b => g a b
instance sf_op {r : R2} {ta tb : TE} {fa fb : En → Option D} {g : D → D → Option D} [A : SV K n ta fa] [B' : SV K n tb fb] [O : OpD K r g] : SF K n (tOp r ta tb) (op2 g fa fb) := ⟨fun {σ hv H U ρ τv τd d Q} I h k => by
  obtain ⟨a, ha, h⟩ := Option.bind_eq_some_iff.mp h
  obtain ⟨b, hb, h⟩ := Option.bind_eq_some_iff.mp h
  refine A.s I ha fun x H1 s1 w1 => ?_
  refine B'.s (I.same s1) hb fun y H2 s2 w2 => ?_
  exact O.s (w1.same s2) w2 h fun v H3 s3 o => k v H3 (s1.trans (s2.trans s3)) (o.early (s1.trans s2))⟩
def op2M (g : D → D → Option D) (fa fb : En → Option (D × En)) (ρ : En) : Option (D × En) := (fa ρ).bind fun a => (fb a.2).bind fun b => (g a.1 b.1).map fun d => (d, b.2)
theorem Sit.two {v1 v2 : V} {d1 d2 : D} (I : Sit K n H U σ hv ρ (τv ++ [v1] ++ [v2]) (τd ++ [d1] ++ [d2])) : Vw K H T1 v1 d1 ∧ Vw K H T1 v2 d2 := ⟨I.drop1.last, I.last⟩
instance (priority := 80) sm_op {r : R2} {ta tb : TE} {fa fb : En → Option (D × En)} {g : D → D → Option D} [A : SM K n ta fa] [B' : SM K n tb fb] [O : OpD K r g] : SM K n (tOp r ta tb) (op2M g fa fb) := ⟨fun {σ hv H U ρ ρ' τv τd d Q} I h k => by
  obtain ⟨⟨a, ρ1⟩, ha, h⟩ := Option.bind_eq_some_iff.mp h
  obtain ⟨⟨b, ρ2⟩, hb, h⟩ := Option.bind_eq_some_iff.mp h
  obtain ⟨d', hg, h⟩ := Option.map_eq_some_iff.mp h
  cases h
  refine A.s I ha fun x H1 U1 I1 st1 => ?_
  refine B'.s I1 hb fun y H2 U2 I2 st2 => ?_
  refine O.s I2.two.1 I2.two.2 hg fun v H3 s3 o => ?_
  obtain ⟨U3, I3, st3⟩ := (I2.drop1.drop1).push s3 o
  exact k v H3 U3 I3 (st1.trans (st2.trans st3))⟩
instance sa_nil : SA K n tNil (fun _ => some []) := ⟨fun I h k => by cases h; exact k [] _ (Same.refl _) ⟨rfl, fun i v d hv => by simp at hv⟩⟩
def consA (fa : En → Option D) (fr : En → Option (List D)) (ρ : En) : Option (List D) := (fa ρ).bind fun a => (fr ρ).map (a :: ·)
theorem VwL.cons {N : Addr → Prop} (h : Vw K H N v d) (t : VwL K H N vs ds) : VwL K H N (v :: vs) (d :: ds) := ⟨by rw [List.length_cons, List.length_cons, t.1], fun i x y hx hy => by
  cases i with
  | zero => cases hx; cases hy; exact h
  | succ i => exact t.2 i x y (by simpa using hx) (by simpa using hy)⟩
instance sa_cons {ta : TE} {tr : TA} {fa : En → Option D} {fr : En → Option (List D)} [A : SV K n ta fa] [R : SA K n tr fr] : SA K n (tCons ta tr) (consA fa fr) := ⟨fun {σ hv H U ρ τv τd ds Q} I h k => by
  obtain ⟨a, ha, h⟩ := Option.bind_eq_some_iff.mp h
  obtain ⟨r, hr, h⟩ := Option.map_eq_some_iff.mp h
  cases h
  refine A.s I ha fun x H1 s1 w1 => ?_
  exact R.s (I.same s1) hr fun xs H2 s2 w2 => k (x :: xs) H2 (s1.trans s2) (.cons (w1.same s2) w2)⟩
instance sma_nil : SMA K n tNil (fun ρ => some ([], ρ)) := ⟨fun {σ hv H U ρ ρ' τv τd ds Q} I h k => by cases h; exact k [] H U rfl (by rw [List.append_nil, List.append_nil]; exact I) (Stp.refl U H)⟩
def consM (fa : En → Option (D × En)) (fr : En → Option (List D × En)) (ρ : En) : Option (List D × En) := (fa ρ).bind fun a => (fr a.2).map fun r => (a.1 :: r.1, r.2)
instance sma_cons {ta : TE} {tr : TA} {fa : En → Option (D × En)} {fr : En → Option (List D × En)} [A : SM K n ta fa] [R : SMA K n tr fr] : SMA K n (tCons ta tr) (consM fa fr) := ⟨fun {σ hv H U ρ ρ' τv τd ds Q} I h k => by
  obtain ⟨⟨a, ρ1⟩, ha, h⟩ := Option.bind_eq_some_iff.mp h
  obtain ⟨⟨r, ρ2⟩, hr, h⟩ := Option.map_eq_some_iff.mp h
  cases h
  refine A.s I ha fun x H1 U1 I1 st1 => ?_
  refine R.s I1 hr fun xs H2 U2 hl I2 st2 => ?_
  refine k (x :: xs) H2 U2 (by rw [List.length_cons, List.length_cons, hl]) ?_ (st1.trans st2)
  rw [List.append_cons, List.append_cons τd]
  exact I2⟩
theorem sat_get {α β : Type} {vs : List α} {ds : List β} {i : Nat} {d : β} (h : vs.length = ds.length) (hd : ds[i]? = some d) : ∃ v, vs[i]? = some v := ⟨_, List.getElem?_eq_getElem (by rw [h]; exact (List.getElem?_eq_some_iff.mp hd).1)⟩
theorem Sit.gather {k : Kd} {p : Addr} {o : HO} (I : Sit K n H U σ hv ρ (τv ++ vs) (τd ++ ds)) (hl : vs.length = ds.length) (hp : H p = none)
    (hold : (imm k = true ∧ k = .tup ∧ o = .tup vs) ∨ (imm k = false ∧ fits K k vs.length ∧ ∃ dx, o = ho k dx vs)) :
    ∃ U', Sit K n (upd H p o) U' σ hv ρ (τv ++ [.ref p]) (τd ++ [.nd k ds]) ∧ Stp U H U' (upd H p o) := by
  have l := I.len
  have s : Same H (upd H p o) := fun b u q => by rw [upd_ne (ne_of_none q hp)]; exact q
  have tl := I.tl
  obtain ⟨he, mu, Fs, dj, sub, sl⟩ := I.ok.same s
  have np : ∀ i, ¬ Fs i p := fun i z => by
    obtain ⟨u, w⟩ := mut_some (I.ok.mu p (sub i p z))
    rw [hp] at w; cases w
  have base : (σ ++ hv ++ τv.map some).length = ρ.length + τd.length := by simp at tl ⊢; omega
  have mup : imm k = false → Mut (upd H p o p) := fun hk => by
    rcases hold with ⟨z, _⟩ | ⟨_, z, dx, w⟩
    · rw [hk] at z; cases z
    · rw [upd_same, w]
      have : CellM K (upd H p o) p k vs := ⟨hk, z, dx, by rw [upd_same, w]⟩
      have := this.mu
      rw [upd_same, w] at this
      exact this
  refine ⟨fun b => U b ∨ (imm k = false ∧ b = p), ⟨⟨by simp at tl ⊢; omega, fun b z => ?_, fun i b => if i = ρ.length + τd.length then (∃ j, ρ.length + τd.length ≤ j ∧ Fs j b) ∨ (imm k = false ∧ b = p) else Fs i b ∧ i < ρ.length + τd.length, fun i j b hi hj => ?_, fun i b hb => ?_, fun i β hβ => ?_⟩, l, I.nn⟩, fun b u q nu => ⟨s b u q, fun z => z.elim nu fun ⟨_, z⟩ => by rw [z, hp] at q; cases q⟩⟩
  · rcases z with z | ⟨z, w⟩
    · exact mu b z
    · rw [w]; exact mup z
  · have hi : if i = ρ.length + τd.length then (∃ j, ρ.length + τd.length ≤ j ∧ Fs j b) ∨ (imm k = false ∧ b = p) else Fs i b ∧ i < ρ.length + τd.length := hi
    have hj : if j = ρ.length + τd.length then (∃ j, ρ.length + τd.length ≤ j ∧ Fs j b) ∨ (imm k = false ∧ b = p) else Fs j b ∧ j < ρ.length + τd.length := hj
    by_cases ci : i = ρ.length + τd.length
    · rw [if_pos ci] at hi
      by_cases cj : j = ρ.length + τd.length
      · omega
      · rw [if_neg cj] at hj
        rcases hi with ⟨x, hx, hi⟩ | ⟨_, hi⟩
        · have := dj _ _ b hi hj.1; omega
        · rw [hi] at hj; exact absurd hj.1 (np j)
    · rw [if_neg ci] at hi
      by_cases cj : j = ρ.length + τd.length
      · rw [if_pos cj] at hj
        rcases hj with ⟨x, hx, hj⟩ | ⟨_, hj⟩
        · have := dj _ _ b hi.1 hj; omega
        · rw [hj] at hi; exact absurd hi.1 (np i)
      · rw [if_neg cj] at hj
        exact dj _ _ b hi.1 hj.1
  · have hb : if i = ρ.length + τd.length then (∃ j, ρ.length + τd.length ≤ j ∧ Fs j b) ∨ (imm k = false ∧ b = p) else Fs i b ∧ i < ρ.length + τd.length := hb
    by_cases ci : i = ρ.length + τd.length
    · rw [if_pos ci] at hb
      rcases hb with ⟨x, _, hb⟩ | hb
      · exact .inl (sub x b hb)
      · exact .inr hb
    · rw [if_neg ci] at hb
      exact .inl (sub i b hb.1)
  · have hβ' : ((ρ ++ τd.map fun d => some (B.own d)) ++ [some (.own (.nd k ds))])[i]? = some (some β) := by
      rw [List.map_append, ← List.append_assoc] at hβ; exact hβ
    have hlen2 : (σ ++ hv ++ τv.map some).length = (ρ ++ τd.map fun d => some (B.own d)).length := by rw [base]; simp
    have lft : ∀ {i : Nat} (hi : i < (σ ++ hv ++ τv.map some).length) {x : V}, (σ ++ hv ++ (τv ++ [x]).map some)[i]? = (σ ++ hv ++ τv.map some)[i]? := fun {i} hi {x} => by
      rw [List.map_append, ← List.append_assoc, List.getElem?_append_left hi]
    have lft2 : ∀ {i : Nat} (hi : i < (σ ++ hv ++ τv.map some).length), (σ ++ hv ++ (τv ++ vs).map some)[i]? = (σ ++ hv ++ τv.map some)[i]? := fun {i} hi => by
      rw [List.map_append, ← List.append_assoc, List.getElem?_append_left hi]
    rcases slot_of hlen2 hβ' with ⟨hi, q⟩ | ⟨hi, q⟩
    · obtain ⟨v', ev, sv⟩ := sl i β (by rw [List.map_append, ← List.append_assoc, List.getElem?_append_left (by rw [← hlen2]; exact hi)]; exact q)
      rw [lft2 hi] at ev
      refine ⟨v', by rw [lft hi]; exact ev, ?_⟩
      have ni : ¬ i = ρ.length + τd.length := by omega
      have sv := SlotOk.slots sv (e' := σ ++ hv ++ (τv ++ [V.ref p]).map some) fun r hr => by rw [lft (by omega), lft2 (by omega)]
      cases β with
      | own dd =>
        show Rep K (upd H p o) (fun b => if i = ρ.length + τd.length then _ else Fs i b ∧ i < ρ.length + τd.length) v' dd
        simp only [if_neg ni]
        exact Rep.mono sv fun b z => ⟨z, by omega⟩
      | ro dd =>
        obtain ⟨v2, ev2, sv0⟩ := I.ok.ex.choose_spec.2.2 i _ (by rw [List.map_append, ← List.append_assoc, List.getElem?_append_left (by rw [← hlen2]; exact hi)]; exact q)
        rw [lft2 hi, ev] at ev2; cases ev2
        have sv0 : Vw K H (fun b => ¬ U b) v' dd := sv0
        exact sv0.over (fun b o nb q => ⟨s b o q, fun z => z.elim nb fun ⟨_, z⟩ => by rw [z, hp] at q; cases q⟩) (Stay.of s)
      | ali _ _ => exact sv
    · have e0 : i - (σ ++ hv ++ τv.map some).length = 0 := by
        have := (List.getElem?_eq_some_iff.mp q).1
        simp at this ⊢; omega
      rw [e0] at q
      cases q
      have ei : i = ρ.length + τd.length := by omega
      subst ei
      refine ⟨.ref p, by rw [List.map_append, ← List.append_assoc, List.getElem?_append_right (by omega), base, Nat.sub_self]; rfl, ?_⟩
      have kid : ∀ (j : Nat) (v : V) (d : D), vs[j]? = some v → ds[j]? = some d → Rep K (upd H p o) (Fs (ρ.length + τd.length + j)) v d := fun j v d hv hd => by
        obtain ⟨v', ev, sv⟩ := sl (ρ.length + τd.length + j) (.own d) (by
          rw [List.map_append, ← List.append_assoc, List.getElem?_append_right (by simp), List.getElem?_map]
          simp [hd])
        have : v' = v := by
          rw [List.map_append, ← List.append_assoc, List.getElem?_append_right (by omega), base] at ev
          simp [hv] at ev
          exact ev.symm
        subst this
        exact sv
      show Rep K (upd H p o) (fun b => if ρ.length + τd.length = ρ.length + τd.length then (∃ j, ρ.length + τd.length ≤ j ∧ Fs j b) ∨ (imm k = false ∧ b = p) else _) (.ref p) (.nd k ds)
      simp only [if_pos rfl]
      refine .nd (fun j => Fs (ρ.length + τd.length + j)) ?_ hl (fun i j b hi hj => by have := dj _ _ b hi hj; omega) (fun j b hb => ⟨.inl ⟨_, by omega, hb⟩, fun _ z => by rw [z] at hb; exact np _ hb⟩) kid
      rcases hold with ⟨_, h1, h2⟩ | ⟨h1, h2, dx, h3⟩
      · subst h1
        show upd H p o p = some (.tup vs)
        rw [upd_same, h2]
      · exact Hold.put h1 (.inr ⟨h1, rfl⟩) ⟨h1, h2, dx, by rw [upd_same, h3]⟩
def tupM (f : En → Option (List D × En)) (ρ : En) : Option (D × En) := (f ρ).bind fun r => if r.1.length ≤ sizeLine then some (.nd .tup r.1, r.2) else none
def lstM (f : En → Option (List D × En)) (ρ : En) : Option (D × En) := (f ρ).bind fun r => if r.1.length ≤ sizeLine then some (.nd .lst r.1, r.2) else none
instance (priority := 300) sm_tup {ta : TA} {fa : En → Option (List D × En)} [A : SMA K n ta fa] : SM K n (tTup ta) (tupM fa) := ⟨fun {σ hv H U ρ ρ' τv τd d Q} I h k => by
  obtain ⟨⟨a, ρ1⟩, ha, h⟩ := Option.bind_eq_some_iff.mp h
  by_cases c : a.length ≤ sizeLine
  · rw [if_pos c] at h
    cases h
    refine A.s I ha fun xs H1 U1 hl I1 st1 => ⟨by rw [hl]; exact c, fun p hp => ?_⟩
    obtain ⟨U2, I2, st2⟩ := I1.gather (k := .tup) (o := .tup xs) hl hp (.inl ⟨rfl, rfl, rfl⟩)
    exact k _ _ U2 I2 (st1.trans st2)
  · rw [if_neg c] at h; cases h⟩
instance (priority := 300) sm_lst {ta : TA} {fa : En → Option (List D × En)} [A : SMA K n ta fa] : SM K n (tLst ta) (lstM fa) := ⟨fun {σ hv H U ρ ρ' τv τd d Q} I h k => by
  obtain ⟨⟨a, ρ1⟩, ha, h⟩ := Option.bind_eq_some_iff.mp h
  by_cases c : a.length ≤ sizeLine
  · rw [if_pos c] at h
    cases h
    refine A.s I ha fun xs H1 U1 hl I1 st1 => ⟨by rw [hl]; exact c, fun p hp => ?_⟩
    obtain ⟨U2, I2, st2⟩ := I1.gather (k := .lst) (o := .lst xs) hl hp (.inr ⟨rfl, trivial, 0, rfl⟩)
    exact k _ _ U2 I2 (st1.trans st2)
  · rw [if_neg c] at h; cases h⟩
end
end VL
namespace VL
open PySem L2
section
variable {K : W.Frag} {n : Nat} {H H' : Hp} {U U' : Addr → Prop} {m : Nat} {e : List (Option V)} {σ hv : List (Option V)} {ρ ρ' ρ2 : En} {τv vs xs : List V} {τd ds : List D} {v : V} {d : D}
def owns (ds : List D) : En := ds.map fun d => some (.own d)
theorem owns_only (ds : List D) : ownOnly (owns ds) := fun b hb => by
  obtain ⟨d, _, rfl⟩ := List.mem_map.mp hb
  exact .inr ⟨d, rfl⟩
theorem owns_noAli (ds : List D) : noAli (owns ds) := fun b hb r p => by
  obtain ⟨d, _, rfl⟩ := List.mem_map.mp hb
  exact fun z => nomatch z
theorem EnvOk.weaken (h : EnvOk K H U m e ρ2) (hl : ρ.length = ρ2.length) (w : ∀ (i : Nat) (β : B), ρ[i]? = some (some β) → ρ2[i]? = some (some β)) : EnvOk K H U m e ρ := by
  obtain ⟨a, mu, Fs, dj, sub, sl⟩ := h
  exact ⟨a.trans hl.symm, mu, Fs, dj, sub, fun i β hβ => sl i β (w i β hβ)⟩
theorem stay_upd {a : Addr} {o : HO} (h : Mut (H a)) : Stay H (upd H a o) := fun b u nm q => by
  have : b ≠ a := fun z => by subst z; rw [q] at h; exact nm h
  rw [upd_ne this]; exact q
theorem mut_ho {a : Addr} {k : Kd} {dx : Addr} (hk : imm k = false) : Mut (some (ho k dx vs)) := by
  cases k with
  | tup => cases hk
  | frl => cases hk
  | lst => trivial
  | dic ks => trivial
  | dit ks => trivial
  | obj C ns => trivial
theorem EnvOk.edit {k : Kd} {cs : List D} (h : EnvOk K H U 0 (xs.map some ++ [some v]) (owns ds ++ [some (.own (.nd k cs))])) (hl : xs.length = ds.length) (hk : imm k = false) :
    ∃ (a dx : Addr) (vs : List V), v = .ref a ∧ H a = some (ho k dx vs) ∧ fits K k vs.length ∧ vs.length = cs.length ∧ VwL K H T1 vs cs ∧ ∀ (k' : Kd) (vs' : List V) (cs' : List D) (π : Nat → Nat), imm k' = false → fits K k' vs'.length → vs'.length = cs'.length →
      (∀ i j, i < vs'.length → j < vs'.length → π i = π j → i = j) → (∀ (i : Nat) (x : V), vs'[i]? = some x → (vs ++ xs)[π i]? = some x) → (∀ (i : Nat) (y : D), cs'[i]? = some y → (cs ++ ds)[π i]? = some y) →
      EnvOk K (upd H a (ho k' dx vs')) U 0 [some v] [some (.own (.nd k' cs'))] ∧ Stp U H U (upd H a (ho k' dx vs')) := by
  obtain ⟨hlen, mu, Fs, dj, sub, sl⟩ := h
  have lo : (owns ds).length = xs.length := by unfold owns; rw [List.length_map, hl]
  obtain ⟨v', ev, sv⟩ := sl xs.length (.own (.nd k cs)) (by rw [List.getElem?_append_right (by omega), lo, Nat.sub_self]; rfl)
  rw [List.getElem?_append_right (by simp)] at ev
  have : v' = v := by simp at ev; exact ev.symm
  subst this
  have sv : Rep K H (Fs xs.length) v' (.nd k cs) := sv
  obtain ⟨a, vs, rfl, h1, h2, Gs, g3, g4, g5⟩ := sv.node
  obtain ⟨Fa, _, hf, dx, ha⟩ := h1.own hk
  have nGa : ∀ i, ¬ Gs i a := fun i z => (g4 i a z).2 hk rfl
  refine ⟨a, dx, vs, rfl, ha, hf, h2, ⟨h2, fun i v d hv hd => (g5 i v d hv hd).vw⟩, fun k' vs' cs' π hk' hf' hl' inj hv' hc' => ?_⟩
  have hMa : Mut (H a) := mu a (sub _ a Fa)
  have st : Stay H (upd H a (ho k' dx vs')) := stay_upd hMa
  have keep : ∀ b u, b ≠ a → H b = some u → upd H a (ho k' dx vs') b = some u := fun b u ne q => by rw [upd_ne ne]; exact q
  -- the footprint of what comes from place j
  let Fp : Nat → Addr → Prop := fun j => if j < cs.length then Gs j else fun b => Fs (j - cs.length) b ∧ j - cs.length < xs.length
  have FpL : ∀ j, j < cs.length → Fp j = Gs j := fun j hj => if_pos hj
  have FpR : ∀ j, ¬ j < cs.length → Fp j = fun b => Fs (j - cs.length) b ∧ j - cs.length < xs.length := fun j hj => if_neg hj
  have Fpin : ∀ j b, Fp j b → (j < cs.length ∧ Gs j b) ∨ (¬ j < cs.length ∧ Fs (j - cs.length) b ∧ j - cs.length < xs.length) := fun j b hb => by
    by_cases c : j < cs.length
    · rw [FpL j c] at hb; exact .inl ⟨c, hb⟩
    · rw [FpR j c] at hb; exact .inr ⟨c, hb.1, hb.2⟩
  have FpU : ∀ j b, Fp j b → U b := fun j b hb => by
    rcases Fpin j b hb with ⟨_, z⟩ | ⟨_, z, _⟩
    · exact sub _ b (g4 j b z).1
    · exact sub _ b z
  have Fpna : ∀ j, ¬ Fp j a := fun j z => by
    rcases Fpin j a z with ⟨_, z⟩ | ⟨_, z, w⟩
    · exact nGa j z
    · have := dj _ _ a z Fa; omega
  have Fpdj : ∀ i j b, Fp i b → Fp j b → i = j := fun i j b hi hj => by
    rcases Fpin i b hi with ⟨c1, z1⟩ | ⟨c1, z1, w1⟩ <;> rcases Fpin j b hj with ⟨c2, z2⟩ | ⟨c2, z2, w2⟩
    · exact g3 i j b z1 z2
    · have := dj _ _ b (g4 i b z1).1 z2; omega
    · have := dj _ _ b (g4 j b z2).1 z1; omega
    · have := dj _ _ b z1 z2; omega
  have Fprep : ∀ (j : Nat) (x : V) (y : D), (vs ++ xs)[j]? = some x → (cs ++ ds)[j]? = some y → Rep K H (Fp j) x y := fun j x y hx hy => by
    by_cases c : j < cs.length
    · rw [FpL j c]
      rw [List.getElem?_append_left (by omega)] at hx
      rw [List.getElem?_append_left c] at hy
      exact g5 j x y hx hy
    · rw [FpR j c]
      rw [List.getElem?_append_right (by omega)] at hx
      rw [List.getElem?_append_right (by omega)] at hy
      rw [h2] at hx
      have hjx : j - cs.length < xs.length := (List.getElem?_eq_some_iff.mp hx).1
      obtain ⟨x', ex, sx⟩ := sl (j - cs.length) (.own y) (by rw [List.getElem?_append_left (by rw [lo]; exact hjx)]; unfold owns; rw [List.getElem?_map, hy]; rfl)
      have : x' = x := by
        rw [List.getElem?_append_left (by simp; exact hjx), List.getElem?_map, hx] at ex
        cases ex; rfl
      subst this
      exact Rep.mono sx fun b z => ⟨z, hjx⟩
  refine ⟨⟨rfl, fun b ub => ?_, fun i b => i = 0 ∧ (b = a ∨ ∃ j, j < vs'.length ∧ Fp (π j) b), fun i j b hi hj => by rw [hi.1, hj.1], fun i b hb => ?_, fun i β hβ => ?_⟩, fun b u q nu => ?_⟩
  · by_cases c : b = a
    · subst c; rw [upd_same]; exact mut_ho (a := b) hk'
    · rw [upd_ne c]; exact mu b ub
  · rcases hb.2 with z | ⟨j, _, z⟩
    · subst z; exact sub _ b Fa
    · exact FpU _ b z
  · cases i with
    | succ i => simp at hβ
    | zero =>
      cases hβ
      refine ⟨.ref a, rfl, ?_⟩
      refine .nd (fun i b => i < vs'.length ∧ Fp (π i) b) (Hold.put hk' ⟨rfl, .inl rfl⟩ ⟨hk', hf', dx, upd_same⟩) hl' (fun i j b hi hj => inj i j hi.1 hj.1 (Fpdj _ _ b hi.2 hj.2)) (fun i b hb => ⟨⟨rfl, .inr ⟨i, hb.1, hb.2⟩⟩, fun _ z => by subst z; exact Fpna _ hb.2⟩) fun i x y hx hy => ?_
      have hi : i < vs'.length := (List.getElem?_eq_some_iff.mp hx).1
      have r := Fprep (π i) x y (hv' i x hx) (hc' i y hy)
      refine (r.frame (H' := upd H a (ho k' dx vs')) (fun b u hb q => keep b u (fun z => by subst z; exact Fpna _ hb) q) st).mono fun b z => ⟨hi, z⟩
  · have : b ≠ a := fun z => by subst z; exact nu (sub _ b Fa)
    exact ⟨keep b u this q, nu⟩
theorem getP_hole : ∀ {p q : List Nat} {d d1 x y : D}, getP d p = some d1 → plain x = false → plain y = false → (∀ n r, getP x (n :: r) = none) → (∀ n r, getP y (n :: r) = none) → (getP (setP d p x) q).isSome = (getP (setP d p y) q).isSome
  | [], [], d, d1, x, y, g, hx, hy, zx, zy => by rw [setP, setP, getP, getP]; rfl
  | [], n :: r, d, d1, x, y, g, hx, hy, zx, zy => by rw [setP, setP, zx, zy]
  | n :: p, q, .sc _, d1, x, y, g, hx, hy, zx, zy => by rw [getP] at g; cases g
  | n :: p, q, .hl _, d1, x, y, g, hx, hy, zx, zy => by rw [getP] at g; cases g
  | n :: p, q, .nd k cs, d1, x, y, g, hx, hy, zx, zy => by
    rw [getP] at g
    by_cases hpl : imm k = true ∧ plainL cs = true
    · rw [if_pos hpl] at g; cases g
    rw [if_neg hpl] at g
    cases hc : cs[n]? with
    | none => rw [hc] at g; cases g
    | some c =>
      rw [hc] at g
      have hn := (List.getElem?_eq_some_iff.mp hc).1
      have e1 : setP (.nd k cs) (n :: p) x = .nd k (cs.set n (setP c p x)) := by rw [setP, hc]
      have e2 : setP (.nd k cs) (n :: p) y = .nd k (cs.set n (setP c p y)) := by rw [setP, hc]
      rw [e1, e2]
      cases q with
      | nil => rw [getP, getP]; rfl
      | cons i q =>
        have px := plainL_set hn (plain_setP g hx)
        have py := plainL_set hn (plain_setP g hy)
        rw [getP, getP, if_neg (by rintro ⟨_, z⟩; rw [px] at z; cases z), if_neg (by rintro ⟨_, z⟩; rw [py] at z; cases z)]
        by_cases ci : n = i
        · subst ci
          rw [List.getElem?_set_self hn, List.getElem?_set_self hn]
          exact getP_hole g hx hy zx zy
        · rw [List.getElem?_set_ne ci, List.getElem?_set_ne ci]
def editE (ρ : En) (r : Nat) (d0 : D) (p : List Nat) (d' : D) : En := (prune (ρ.set r (some (.own (setP d0 p (.hl .non)))))).set r (some (.own (setP d0 p d')))
theorem editE_len (ρ : En) (r : Nat) (d0 : D) (p : List Nat) (d' : D) : (editE ρ r d0 p d').length = ρ.length := by unfold editE; rw [List.length_set, prune_len, List.length_set]
theorem rootD_set_ne {r s : Nat} {b : Option B} (h : r ≠ s) : rootD (ρ.set r b) s = rootD ρ s := by
  unfold rootD
  rw [List.getElem?_set_ne h]
theorem rootD_set_self {r : Nat} (h : r < ρ.length) : rootD (ρ.set r (some (.own d))) r = some d := by
  unfold rootD
  rw [List.getElem?_set_self h]
theorem prune_own {i : Nat} {d : D} (h : ρ[i]? = some (some (.own d))) : (prune ρ)[i]? = some (some (.own d)) := by
  unfold prune
  rw [List.getElem?_map, h]
  rfl
theorem rootD_app {r : Nat} {d : D} {τ : En} (h : rootD ρ r = some d) : rootD (ρ ++ τ) r = some d := by
  have q := rootD_of h
  have hr : r < ρ.length := (List.getElem?_eq_some_iff.mp q).1
  unfold rootD
  rw [List.getElem?_append_left hr, q]
theorem prune_app {τ : En} (hτ : noAli τ) : ∀ (i : Nat) (β : B), (prune ρ ++ τ)[i]? = some (some β) → (prune (ρ ++ τ))[i]? = some (some β) := fun i β h => by
  unfold prune at h ⊢
  rw [List.map_append]
  by_cases hi : i < ρ.length
  · rw [List.getElem?_append_left (by rw [List.length_map]; exact hi)] at h
    rw [List.getElem?_append_left (by rw [List.length_map]; exact hi)]
    rw [List.getElem?_map] at h ⊢
    cases q : ρ[i]? with
    | none => rw [q] at h; cases h
    | some o =>
      rw [q] at h
      have h : pruneB ρ o = some β := Option.some.inj h
      show some (pruneB (ρ ++ τ) o) = _
      cases o with
      | none => exact congrArg some h
      | some c =>
        cases c with
        | own d => exact congrArg some h
        | ro d => exact congrArg some h
        | ali r p =>
          have h : (if p = [] ∨ ((rootD ρ r).bind (getP · p)).isSome = true then some (B.ali r p) else none) = some β := h
          show some (if p = [] ∨ ((rootD (ρ ++ τ) r).bind (getP · p)).isSome = true then some (B.ali r p) else none) = _
          by_cases c : p = [] ∨ ((rootD ρ r).bind (getP · p)).isSome = true
          · rw [if_pos c] at h
            have c' : p = [] ∨ ((rootD (ρ ++ τ) r).bind (getP · p)).isSome = true := by
              rcases c with c | c
              · exact .inl c
              · cases hd : rootD ρ r with
                | none => rw [hd] at c; cases c
                | some d => rw [rootD_app hd]; rw [hd] at c; exact .inr c
            rw [if_pos c', h]
          · rw [if_neg c] at h; cases h
  · rw [List.getElem?_append_right (by rw [List.length_map]; omega)] at h ⊢
    rw [List.length_map] at h ⊢
    rw [List.getElem?_map, h]
    cases β with
    | own d => rfl
    | ro d => rfl
    | ali r p => exact absurd rfl (hτ _ (List.mem_of_getElem? h) r p)
theorem prune_hole {r : Nat} {d0 d1 : D} {p : List Nat} {v : V} (hr : r < ρ.length) (g : getP d0 p = some d1) : ∀ (i : Nat) (β : B), i ≠ r → (prune (ρ.set r (some (.own (setP d0 p (.hl .non))))))[i]? = some (some β) → (prune (ρ.set r (some (.own (setP d0 p (.hl v))))))[i]? = some (some β) := fun i β ni h => by
  unfold prune at h ⊢
  rw [List.getElem?_map, List.getElem?_set_ne (Ne.symm ni)] at h ⊢
  cases q : ρ[i]? with
  | none => rw [q] at h; cases h
  | some o =>
    rw [q] at h
    have h := Option.some.inj h
    show some (pruneB _ o) = _
    cases o with
    | none => exact congrArg some h
    | some c =>
      cases c with
      | own d => exact congrArg some h
      | ro d => exact congrArg some h
      | ali s p' =>
        have h : (if p' = [] ∨ ((rootD (ρ.set r (some (.own (setP d0 p (.hl .non))))) s).bind (getP · p')).isSome = true then some (B.ali s p') else none) = some β := h
        show some (if p' = [] ∨ ((rootD (ρ.set r (some (.own (setP d0 p (.hl v))))) s).bind (getP · p')).isSome = true then some (B.ali s p') else none) = _
        by_cases cs : r = s
        · subst cs
          rw [rootD_set_self hr] at h ⊢
          have e : ((some (setP d0 p (.hl v))).bind (getP · p')).isSome = ((some (setP d0 p (.hl .non))).bind (getP · p')).isSome := getP_hole g rfl rfl (fun _ _ => by rw [getP]) fun _ _ => by rw [getP]
          rw [e, h]
        · rw [rootD_set_ne cs] at h ⊢
          rw [h]
theorem Sit.edit {r : Nat} {p : List Nat} {d0 : D} {k : Kd} {cs : List D} (I : Sit K n H U σ hv ρ (τv ++ xs) (τd ++ ds)) (hl : xs.length = ds.length) (hp : PlOk K H U (σ ++ hv) ρ v (.rt r p)) (hr : rootD ρ r = some d0) (hg : getP d0 p = some (.nd k cs)) (hk : imm k = false) :
    ∃ (a dx : Addr) (vs : List V), v = .ref a ∧ H a = some (ho k dx vs) ∧ fits K k vs.length ∧ vs.length = cs.length ∧ VwL K H T1 vs cs ∧ ∀ (k' : Kd) (vs' : List V) (cs' : List D) (π : Nat → Nat), imm k' = false → fits K k' vs'.length → vs'.length = cs'.length →
      (∀ i j, i < vs'.length → j < vs'.length → π i = π j → i = j) → (∀ (i : Nat) (x : V), vs'[i]? = some x → (vs ++ xs)[π i]? = some x) → (∀ (i : Nat) (y : D), cs'[i]? = some y → (cs ++ ds)[π i]? = some y) →
      ∃ U', Sit K n (upd H a (ho k' dx vs')) U' σ hv (editE ρ r d0 p (.nd k' cs')) τv τd ∧ Stp U H U' (upd H a (ho k' dx vs')) := by
  have l := I.len
  have tl := I.tl
  rw [List.length_append, List.length_append] at tl
  obtain ⟨hrl, vr, d0', er, hr', _, hpv⟩ := hp
  rw [hr] at hr'; cases hr'
  have hro := rootD_of hr
  -- all in one row
  have ok0 : EnvOk K H U ρ.length ((σ ++ hv ++ τv.map some) ++ xs.map some) ((ρ ++ owns τd) ++ owns ds) := by
    have := I.ok
    rw [List.map_append, List.map_append, ← List.append_assoc, ← List.append_assoc] at this
    exact this
  have lE : (σ ++ hv ++ τv.map some).length = (ρ ++ owns τd).length := by unfold owns; simp; omega
  have hm : ρ.length ≤ (σ ++ hv ++ τv.map some).length := by simp; omega
  have ok1 := ok0.take (r := r) (vr := vr) (u := v) (d := d0) (p := p) (by rw [List.length_append]; omega) (by rw [List.getElem?_append_left (by rw [List.length_append]; omega), List.getElem?_append_left hrl]; exact hro)
    (by rw [List.getElem?_append_left (by omega), List.getElem?_append_left (by simp; omega)]; exact er) hpv hg
  have es : ((ρ ++ owns τd) ++ owns ds).set r (some (.own (setP d0 p (.hl v)))) ++ [some (B.own (.nd k cs))] = (ρ.set r (some (.own (setP d0 p (.hl v)))) ++ owns τd) ++ (owns ds ++ [some (.own (.nd k cs))]) := by
    rw [List.set_append_left _ _ (by rw [List.length_append]; omega), List.set_append_left _ _ hrl]
    simp
  rw [es, List.append_assoc] at ok1
  have nA : noAli (owns ds ++ [some (B.own (.nd k cs))]) := fun b hb q p => by
    rcases List.mem_append.mp hb with z | z
    · exact owns_noAli ds b z q p
    · rw [List.mem_singleton.mp z]; exact fun w => nomatch w
  have lE' : (σ ++ hv ++ τv.map some).length = (ρ.set r (some (.own (setP d0 p (.hl v)))) ++ owns τd).length := by
    rw [lE, List.length_append, List.length_append, List.length_set]
  obtain ⟨Ut, _, small, _, back⟩ := ok1.call lE' hm nA
  obtain ⟨a, dx, vs, ev, ha, hf, hlv, vw, ed⟩ := small.edit hl hk
  refine ⟨a, dx, vs, ev, ha, hf, hlv, vw, fun k' vs' cs' π hk' hf' hl' inj hv' hc' => ?_⟩
  obtain ⟨okE, stE⟩ := ed k' vs' cs' π hk' hf' hl' inj hv' hc'
  obtain ⟨U', ok2, st2⟩ := back _ Ut [some v] [some (.own (.nd k' cs'))] okE stE fun b hb => by rw [List.mem_singleton.mp hb]; exact .inr ⟨_, rfl⟩
  refine ⟨U', ⟨?_, by rw [editE_len]; exact l, I.nn⟩, st2⟩
  have hrl2 : r < (ρ.set r (some (.own (setP d0 p (.hl v))))).length := by rw [List.length_set]; exact hrl
  have gh : getP (setP d0 p (.hl v)) p = some (.hl v) := getP_setP hg rfl
  have ok3 := ok2.put (r := r) (d0 := setP d0 p (.hl v)) (u := v) (p := p) (d1 := .nd k' cs') (by rw [prune_len]; exact lE') hm (by
    refine prune_own ?_
    rw [List.getElem?_append_left hrl2, List.getElem?_set_self hrl]) gh
  rw [setP_setP hg] at ok3
  rw [editE_len]
  refine ok3.weaken (by rw [List.length_append, editE_len, List.length_set, prune_len, List.length_append, List.length_set]; unfold owns; rfl) fun i β hβ => ?_
  have hβ : (editE ρ r d0 p (.nd k' cs') ++ owns τd)[i]? = some (some β) := hβ
  by_cases ci : r = i
  · subst ci
    rw [List.getElem?_append_left (by rw [editE_len]; exact hrl)] at hβ
    unfold editE at hβ
    rw [List.getElem?_set_self (by rw [prune_len, List.length_set]; exact hrl)] at hβ
    rw [List.getElem?_set_self (by rw [prune_len, List.length_append, List.length_set]; omega)]
    exact hβ
  · rw [List.getElem?_set_ne ci]
    refine prune_app (owns_noAli τd) i β ?_
    by_cases hi : i < ρ.length
    · rw [List.getElem?_append_left (by rw [editE_len]; exact hi)] at hβ
      rw [List.getElem?_append_left (by rw [prune_len, List.length_set]; exact hi)]
      unfold editE at hβ
      rw [List.getElem?_set_ne ci] at hβ
      exact prune_hole hrl hg i β (fun z => ci z.symm) hβ
    · rw [List.getElem?_append_right (by rw [editE_len]; omega), editE_len] at hβ
      rw [List.getElem?_append_right (by rw [prune_len, List.length_set]; omega), prune_len, List.length_set]
      exact hβ
end
end VL
namespace VL
open PySem L2
section
variable {K : W.Frag} {n : Nat} {H H' : Hp} {U U' : Addr → Prop} {σ hv : List (Option V)} {ρ ρ' : En} {τv vs : List V} {τd ds : List D} {v : V} {d : D} {E : Ends}
theorem Sit.bound {i : Nat} (I : Sit K n H U σ hv ρ (τv ++ [v]) (τd ++ [d])) (hi : i < n) (hτ : τv = [] ∧ τd = [] ∨ True) : Sit K n H U (σ.set i (some v)) hv ((unroot i ρ).set i (some (.own d))) τv τd := by
  have l := I.len
  have nn := I.nn
  have tl := I.tl
  rw [List.length_append, List.length_append] at tl
  have tl : τv.length = τd.length := by simp at tl; omega
  refine ⟨?_, by rw [List.length_set, List.length_set, unroot_len]; exact l, by rw [List.length_set]; exact nn⟩
  have ok := I.ok
  rw [List.map_append, List.map_append, ← List.append_assoc, ← List.append_assoc] at ok
  have k := ok.set (i := i) (by simp; omega) (by simp; omega) (by simp; omega)
  have e1 : (σ ++ hv ++ τv.map some).set i (some v) = σ.set i (some v) ++ hv ++ τv.map some := by
    rw [List.set_append_left _ _ (by simp; omega), List.set_append_left _ _ (by omega)]
  rw [e1] at k
  have lu : ((unroot i ρ).set i (some (B.own d))).length = ρ.length := by rw [List.length_set, unroot_len]
  rw [lu]
  refine k.weaken (by simp [unroot_len]) fun j β hβ => ?_
  by_cases hj : j < ρ.length
  · rw [List.getElem?_append_left (by rw [lu]; exact hj)] at hβ
    by_cases c : i = j
    · subst c
      rw [List.getElem?_set_self (by rw [unroot_len]; exact hj)] at hβ
      rw [List.getElem?_set_self (by rw [unroot_len]; simp; omega)]
      exact hβ
    · rw [List.getElem?_set_ne c] at hβ ⊢
      unfold unroot at hβ ⊢
      rw [List.map_append, List.getElem?_append_left (by simpa using hj)]
      exact hβ
  · rw [List.getElem?_append_right (by rw [lu]; omega), lu] at hβ
    rw [List.getElem?_set_ne (by omega)]
    unfold unroot
    rw [List.map_append, List.getElem?_append_right (by simp; omega), List.length_map, List.getElem?_map]
    have : (τd.map fun d => some (B.own d))[j - ρ.length]? = some (some β) := hβ
    rw [this]
    rw [List.getElem?_map] at this
    cases q : τd[j - ρ.length]? with
    | none => rw [q] at this; cases this
    | some x => rw [q] at this; cases this; rfl
theorem Sit.named {i : Nat} {β : B} (I : Sit K n H U σ hv ρ τv τd) (hi : i < n) (hb : match β with | .own _ => False | .ro d => Vw K H (fun b => ¬ U b) v d | .ali r p => r < ρ.length ∧ r ≠ i ∧ ∃ vr, (σ ++ hv)[r]? = some (some vr) ∧ PathV H vr p v) :
    Sit K n H U (σ.set i (some v)) hv ((unroot i ρ).set i (some β)) τv τd := by
  have l := I.len
  have nn := I.nn
  have tl := I.tl
  refine ⟨?_, by rw [List.length_set, List.length_set, unroot_len]; exact l, by rw [List.length_set]; exact nn⟩
  have k := I.ok.bind (i := i) (β := β) (v := v) (by simp; omega) (by
    cases β with
    | own d => exact hb
    | ro d => exact hb
    | ali r p =>
      obtain ⟨h1, h2, vr, h3, h4⟩ := hb
      exact ⟨h1, h2, vr, by rw [List.getElem?_append_left (by simp; omega)]; exact h3, h4⟩)
  have e1 : (σ ++ hv ++ τv.map some).set i (some v) = σ.set i (some v) ++ hv ++ τv.map some := by
    rw [List.set_append_left _ _ (by simp; omega), List.set_append_left _ _ (by omega)]
  rw [e1] at k
  have lu : ((unroot i ρ).set i (some β)).length = ρ.length := by rw [List.length_set, unroot_len]
  rw [lu]
  refine k.weaken (by simp [unroot_len]) fun j γ hγ => ?_
  by_cases hj : j < ρ.length
  · rw [List.getElem?_append_left (by rw [lu]; exact hj)] at hγ
    by_cases c : i = j
    · subst c
      rw [List.getElem?_set_self (by rw [unroot_len]; exact hj)] at hγ
      rw [List.getElem?_set_self (by rw [unroot_len]; simp; omega)]
      exact hγ
    · rw [List.getElem?_set_ne c] at hγ ⊢
      unfold unroot at hγ ⊢
      rw [List.map_append, List.getElem?_append_left (by simpa using hj)]
      exact hγ
  · rw [List.getElem?_append_right (by rw [lu]; omega), lu] at hγ
    rw [List.getElem?_set_ne (by omega)]
    unfold unroot
    rw [List.map_append, List.getElem?_append_right (by simp; omega), List.length_map, List.getElem?_map]
    have : (τd.map fun d => some (B.own d))[j - ρ.length]? = some (some γ) := hγ
    rw [this]
    rw [List.getElem?_map] at this
    cases q : τd[j - ρ.length]? with
    | none => rw [q] at this; cases this
    | some x => rw [q] at this; cases this; rfl
theorem Sit.moved {i : Nat} (I : Sit K n H U σ hv ρ τv τd) (hi : i < n) (h : ρ[i]? = some (some (.own d))) : ∃ v, σ[i]? = some (some v) ∧ Sit K n H U σ hv (ρ.set i none) (τv ++ [v]) (τd ++ [d]) := by
  have l := I.len
  have nn := I.nn
  have tl := I.tl
  have hil : i < ρ.length := (List.getElem?_eq_some_iff.mp h).1
  obtain ⟨v, F, ev, _, _⟩ := I.slot h
  rw [I.name hi] at ev
  refine ⟨v, ev, ?_, by rw [List.length_set]; exact l, nn⟩
  have hi2 : (ρ ++ τd.map fun d => some (B.own d))[i]? = some (some (.own d)) := by rw [List.getElem?_append_left hil]; exact h
  have he2 : (σ ++ hv ++ τv.map some)[i]? = some (some v) := by rw [List.getElem?_append_left (by simp; omega), List.getElem?_append_left (by omega)]; exact ev
  have k := I.ok.take (r := i) (p := []) (by simp; omega) hi2 he2 (.nil v) rfl
  rw [List.length_set, List.map_append, List.map_append, ← List.append_assoc, ← List.append_assoc]
  refine k.weaken (by simp; omega) fun j β hβ => ?_
  rw [List.set_append_left _ _ hil]
  by_cases hj : j < ρ.length
  · rw [List.append_assoc, List.getElem?_append_left (by simpa using hj)] at hβ ⊢
    by_cases c : i = j
    · subst c
      rw [List.getElem?_set_self hil] at hβ
      cases hβ
    · rw [List.getElem?_set_ne c] at hβ ⊢
      exact hβ
  · rw [List.append_assoc, List.getElem?_append_right (by simp; omega)] at hβ ⊢
    rw [List.length_set] at hβ ⊢
    exact hβ
def mvVar (i : Nat) (ρ : En) : Option (D × En) := (dVar i ρ).bind fun d => if plain d = true then some (d, ρ) else match ρ[i]? with
  | some (some (.own d')) => some (d', ρ.set i none)
  | _ => none
instance (priority := 400) sm_var {i : Nat} [L : LtN i n] : SM K n (tVar i) (mvVar i) := ⟨fun {σ hv H U ρ ρ' τv τd d Q} I h k => by
  obtain ⟨d1, h1, h2⟩ := Option.bind_eq_some_iff.mp h
  by_cases p : plain d1 = true
  · rw [if_pos p] at h2
    cases h2
    refine (sv_var (i := i)).s I h1 fun v H' s w => ?_
    obtain ⟨U', I', st⟩ := I.push s (Own.plain w p)
    exact k v H' U' I' st
  · rw [if_neg p] at h2
    split at h2
    · next d' e1 =>
      cases h2
      obtain ⟨v, ev, I'⟩ := I.moved L.h e1
      exact ⟨v, ev, k v H U I' (Stp.refl U H)⟩
    · cases h2⟩
instance ss_next : SS K n tNext (fun ρ => some (.nx ρ)) := ⟨fun I h k => by cases h; exact k _ _ _ I (Stp.refl _ _)⟩
instance ss_never : SS K n tNever (fun _ => none) := ⟨fun I h k => by cases h⟩
def thenF (u : En → Option Fl) : Fl → Option Fl
  | .nx ρ => u ρ
  | fl => some fl
def seqF (t u : En → Option Fl) (ρ : En) : Option Fl := (t ρ).bind (thenF u)
theorem EndOk.step {fl : Fl} (h : EndOk K n H U hv τv τd E fl) (st : Stp U H U' H') : EndOk K n H' U' hv τv τd E fl := by
  cases fl with
  | nx ρ => exact fun σ H2 U2 I s => h σ H2 U2 I (st.trans s)
  | rt d ρ => exact fun v σ H2 U2 I s => h v σ H2 U2 I (st.trans s)
  | bk ρ => exact fun σ H2 U2 I s => h σ H2 U2 I (st.trans s)
  | ct ρ => exact fun σ H2 U2 I s => h σ H2 U2 I (st.trans s)
instance ss_seq {t u : TS} {ft fu : En → Option Fl} [A : SS K n t ft] [B' : SS K n u fu] : SS K n (tSeq t u) (seqF ft fu) := ⟨fun {σ hv H U ρ τv τd fl E} I h k => by
  obtain ⟨f1, h1, h2⟩ := Option.bind_eq_some_iff.mp h
  refine A.s I h1 ?_
  cases f1 with
  | nx ρ1 => exact fun σ1 H1 U1 I1 st1 => B'.s I1 h2 (k.step st1)
  | rt d ρ1 => cases h2; exact k
  | bk ρ1 => cases h2; exact k
  | ct ρ1 => cases h2; exact k⟩
def ifF (c : En → Option (Bool × En)) (t u : En → Option Fl) (ρ : En) : Option Fl := (c ρ).bind fun b => if b.1 = true then t b.2 else u b.2
instance ss_if {c : TT} {t u : TS} {fc : En → Option (Bool × En)} {ft fu : En → Option Fl} [C : ST K n c fc] [A : SS K n t ft] [B' : SS K n u fu] : SS K n (tIfS c t u) (ifF fc ft fu) := ⟨fun {σ hv H U ρ τv τd fl E} I h k => by
  obtain ⟨⟨b, ρ1⟩, h1, h2⟩ := Option.bind_eq_some_iff.mp h
  refine C.s I h1 fun H1 U1 I1 st1 => ?_
  cases b with
  | true => rw [if_pos rfl]; exact A.s I1 h2 (k.step st1)
  | false => rw [if_neg Bool.false_ne_true]; exact B'.s I1 h2 (k.step st1)⟩
def retF (f : En → Option (D × En)) (ρ : En) : Option Fl := (f ρ).map fun r => .rt r.1 r.2
instance ss_ret {te : TE} {fe : En → Option (D × En)} [A : SM K n te fe] : SS K n (tRet te) (retF fe) := ⟨fun {σ hv H U ρ τv τd fl E} I h k => by
  obtain ⟨⟨d, ρ1⟩, h1, h2⟩ := Option.map_eq_some_iff.mp h
  cases h2
  exact A.s I h1 fun v H1 U1 I1 st1 => k v σ H1 U1 I1 st1⟩
instance ss_retN : SS K n tRetN (fun ρ => some (.rt (.sc .non) ρ)) := ⟨fun {σ hv H U ρ τv τd fl E} I h k => by
  cases h
  obtain ⟨U', I', st⟩ := I.push (Same.refl H) (Own.sc (K := K) .non)
  exact k .non σ H U' I' st⟩
def dropF (f : En → Option (D × En)) (ρ : En) : Option Fl := (f ρ).map fun r => .nx r.2
instance ss_drop {te : TE} {fe : En → Option (D × En)} [A : SM K n te fe] : SS K n (tDrop te) (dropF fe) := ⟨fun {σ hv H U ρ τv τd fl E} I h k => by
  obtain ⟨⟨d, ρ1⟩, h1, h2⟩ := Option.map_eq_some_iff.mp h
  cases h2
  exact A.s I h1 fun v H1 U1 I1 st1 => k σ H1 U1 I1.drop1 st1⟩
def bindE (i : Nat) (β : B) (ρ : En) : En := (unroot i ρ).set i (some β)
def asgM (i : Nat) (f : En → Option (D × En)) (ρ : En) : Option Fl := (f ρ).map fun r => .nx (bindE i (.own r.1) r.2)
instance (priority := 100) ss_asgM {i : Nat} {te : TE} {fe : En → Option (D × En)} [L : LtN i n] [A : SM K n te fe] : SS K n (tAsg te (gName i)) (asgM i fe) := ⟨fun {σ hv H U ρ τv τd fl E} I h k => by
  obtain ⟨⟨d, ρ1⟩, h1, h2⟩ := Option.map_eq_some_iff.mp h
  cases h2
  exact A.s I h1 fun v H1 U1 I1 st1 => k _ H1 U1 (I1.bound L.h (.inr trivial)) st1⟩
def asgP (i : Nat) (f : En → Option Pl) (ρ : En) : Option Fl := (f ρ).bind fun q => (plD ρ q).bind fun d => if plain d = true then some (.nx (bindE i (.own d) ρ)) else match q with
  | .ro d => some (.nx (bindE i (.ro d) ρ))
  | .rt r p => if r = i then none else some (.nx (bindE i (.ali r p) ρ))
instance (priority := 500) ss_asgP {i : Nat} {te : TE} {fe : En → Option Pl} [L : LtN i n] [A : SP K n te fe] : SS K n (tAsg te (gName i)) (asgP i fe) := ⟨fun {σ hv H U ρ τv τd fl E} I h k => by
  obtain ⟨q, h1, h2⟩ := Option.bind_eq_some_iff.mp h
  obtain ⟨d, h3, h4⟩ := Option.bind_eq_some_iff.mp h2
  refine A.s I h1 fun v H1 s1 w1 => ?_
  have I1 := I.same s1
  have stS : Stp U H U H1 := fun b o q nu => ⟨s1 b o q, nu⟩
  by_cases p : plain d = true
  · rw [if_pos p] at h4
    cases h4
    obtain ⟨U', I', st⟩ := I1.push (Same.refl H1) (Own.plain (I1.at w1 h3) p)
    exact k _ H1 U' (I'.bound L.h (.inr trivial)) (stS.trans st)
  · rw [if_neg p] at h4
    cases q with
    | ro d' =>
      cases h4
      exact k _ H1 U (I1.named L.h (β := .ro d') w1) stS
    | rt r p' =>
      have h4 : (if r = i then none else some (Fl.nx (bindE i (.ali r p') ρ))) = some fl := h4
      by_cases c : r = i
      · rw [if_pos c] at h4; cases h4
      · rw [if_neg c] at h4
        cases h4
        obtain ⟨hr, vr, d0, er, _, _, hp⟩ := w1
        exact k _ H1 U (I1.named L.h (β := .ali r p') ⟨hr, c, vr, er, hp⟩) stS⟩
instance svt_b {t : TE} {f : En → Option D} [A : SV K n t f] : SVT K n (tB t) (fun ρ => (f ρ).bind fun | .sc (.bl b) => some b | _ => none) := ⟨fun {σ hv H U ρ τv τd b Q} I h k => by
  obtain ⟨d, h1, h2⟩ := Option.bind_eq_some_iff.mp h
  refine A.s I h1 fun v H1 s1 w1 => ?_
  split at h2
  · cases h2; exact ⟨b, w1.scal, k H1 s1⟩
  · cases h2⟩
instance svt_test {t : TE} {f : En → Option D} [A : SV K n t f] : SVT K n (tTest t) (fun ρ => (f ρ).bind fun | .sc (.bl b) => some b | _ => none) := ⟨fun {σ hv H U ρ τv τd b Q} I h k => by
  obtain ⟨d, h1, h2⟩ := Option.bind_eq_some_iff.mp h
  refine A.s I h1 fun v H1 s1 w1 => ?_
  split at h2
  · cases h2; exact ⟨b, w1.scal, k H1 s1⟩
  · cases h2⟩
def tstM (f : En → Option (D × En)) (ρ : En) : Option (Bool × En) := (f ρ).bind fun r => match r.1 with
  | .sc (.bl b) => some (b, r.2)
  | _ => none
instance (priority := 50) st_b {t : TE} {f : En → Option (D × En)} [A : SM K n t f] : ST K n (tB t) (tstM f) := ⟨fun {σ hv H U ρ ρ' τv τd b Q} I h k => by
  obtain ⟨⟨d, ρ1⟩, h1, h2⟩ := Option.bind_eq_some_iff.mp h
  refine A.s I h1 fun v H1 U1 I1 st1 => ?_
  split at h2
  · next b' e =>
    have e : d = .sc (.bl b') := e
    subst e
    cases h2; exact ⟨b, I1.last.scal, k H1 U1 I1.drop1 st1⟩
  · cases h2⟩
instance (priority := 50) st_test {t : TE} {f : En → Option (D × En)} [A : SM K n t f] : ST K n (tTest t) (tstM f) := ⟨fun {σ hv H U ρ ρ' τv τd b Q} I h k => by
  obtain ⟨⟨d, ρ1⟩, h1, h2⟩ := Option.bind_eq_some_iff.mp h
  refine A.s I h1 fun v H1 U1 I1 st1 => ?_
  split at h2
  · next b' e =>
    have e : d = .sc (.bl b') := e
    subst e
    cases h2; exact ⟨b, I1.last.scal, k H1 U1 I1.drop1 st1⟩
  · cases h2⟩
def andT (a b : En → Option Bool) (ρ : En) : Option Bool := (a ρ).bind fun x => if x = true then b ρ else some false
def orT (a b : En → Option Bool) (ρ : En) : Option Bool := (a ρ).bind fun x => if x = true then some true else b ρ
instance svt_and {t u : TT} {f g : En → Option Bool} [A : SVT K n t f] [B' : SVT K n u g] : SVT K n (tAnd t u) (andT f g) := ⟨fun {σ hv H U ρ τv τd b Q} I h k => by
  obtain ⟨x, h1, h2⟩ := Option.bind_eq_some_iff.mp h
  refine A.s I h1 fun H1 s1 => ?_
  cases x with
  | true => rw [if_pos rfl]; exact B'.s (I.same s1) h2 fun H2 s2 => k H2 (s1.trans s2)
  | false => cases h2; rw [if_neg Bool.false_ne_true]; exact k H1 s1⟩
instance svt_or {t u : TT} {f g : En → Option Bool} [A : SVT K n t f] [B' : SVT K n u g] : SVT K n (tOr t u) (orT f g) := ⟨fun {σ hv H U ρ τv τd b Q} I h k => by
  obtain ⟨x, h1, h2⟩ := Option.bind_eq_some_iff.mp h
  refine A.s I h1 fun H1 s1 => ?_
  cases x with
  | true => cases h2; rw [if_pos rfl]; exact k H1 s1
  | false => rw [if_neg Bool.false_ne_true]; exact B'.s (I.same s1) h2 fun H2 s2 => k H2 (s1.trans s2)⟩
instance svt_not {t : TT} {f : En → Option Bool} [A : SVT K n t f] : SVT K n (tNot t) (fun ρ => (f ρ).map (!·)) := ⟨fun {σ hv H U ρ τv τd b Q} I h k => by
  obtain ⟨x, h1, h2⟩ := Option.map_eq_some_iff.mp h
  cases h2
  exact A.s I h1 fun H1 s1 => k H1 s1⟩
def andM (a b : En → Option (Bool × En)) (ρ : En) : Option (Bool × En) := (a ρ).bind fun x => if x.1 = true then b x.2 else some (false, x.2)
def orM (a b : En → Option (Bool × En)) (ρ : En) : Option (Bool × En) := (a ρ).bind fun x => if x.1 = true then some (true, x.2) else b x.2
instance (priority := 50) st_and {t u : TT} {f g : En → Option (Bool × En)} [A : ST K n t f] [B' : ST K n u g] : ST K n (tAnd t u) (andM f g) := ⟨fun {σ hv H U ρ ρ' τv τd b Q} I h k => by
  obtain ⟨⟨x, ρ1⟩, h1, h2⟩ := Option.bind_eq_some_iff.mp h
  refine A.s I h1 fun H1 U1 I1 s1 => ?_
  cases x with
  | true => rw [if_pos rfl]; exact B'.s I1 h2 fun H2 U2 I2 s2 => k H2 U2 I2 (s1.trans s2)
  | false => cases h2; rw [if_neg Bool.false_ne_true]; exact k H1 U1 I1 s1⟩
instance (priority := 50) st_or {t u : TT} {f g : En → Option (Bool × En)} [A : ST K n t f] [B' : ST K n u g] : ST K n (tOr t u) (orM f g) := ⟨fun {σ hv H U ρ ρ' τv τd b Q} I h k => by
  obtain ⟨⟨x, ρ1⟩, h1, h2⟩ := Option.bind_eq_some_iff.mp h
  refine A.s I h1 fun H1 U1 I1 s1 => ?_
  cases x with
  | true => cases h2; rw [if_pos rfl]; exact k H1 U1 I1 s1
  | false => rw [if_neg Bool.false_ne_true]; exact B'.s I1 h2 fun H2 U2 I2 s2 => k H2 U2 I2 (s1.trans s2)⟩
instance (priority := 50) st_not {t : TT} {f : En → Option (Bool × En)} [A : ST K n t f] : ST K n (tNot t) (fun ρ => (f ρ).map fun r => (!r.1, r.2)) := ⟨fun {σ hv H U ρ ρ' τv τd b Q} I h k => by
  obtain ⟨⟨x, ρ1⟩, h1, h2⟩ := Option.map_eq_some_iff.mp h
  cases h2
  exact A.s I h1 fun H1 U1 I1 s1 => k H1 U1 I1 s1⟩
instance sv_andV {ta tb : TE} {fa fb : En → Option D} [A : SV K n ta fa] [B' : SV K n tb fb] : SV K n (tAndV ta tb) (fun ρ => (fa ρ).bind fun | .sc (.bl true) => fb ρ | .sc (.bl false) => some (.sc (.bl false)) | _ => none) := ⟨fun {σ hv H U ρ τv τd d Q} I h k => by
  obtain ⟨x, h1, h2⟩ := Option.bind_eq_some_iff.mp h
  refine A.s I h1 fun v H1 s1 w1 => ?_
  split at h2
  · exact ⟨true, w1.scal, by rw [if_pos rfl]; exact B'.s (I.same s1) h2 fun v H2 s2 w => k v H2 (s1.trans s2) w⟩
  · cases h2; exact ⟨false, w1.scal, by rw [if_neg Bool.false_ne_true]; exact k _ H1 s1 (.sc _)⟩
  · cases h2⟩
instance sv_notV {ta : TE} {fa : En → Option D} [A : SV K n ta fa] : SV K n (tNotV ta) (fun ρ => (fa ρ).bind fun | .sc (.bl b) => some (.sc (.bl (!b))) | _ => none) := ⟨fun {σ hv H U ρ τv τd d Q} I h k => by
  obtain ⟨x, h1, h2⟩ := Option.bind_eq_some_iff.mp h
  refine A.s I h1 fun v H1 s1 w1 => ?_
  split at h2
  · next b => cases h2; exact ⟨b, w1.scal, k _ H1 s1 (.sc _)⟩
  · cases h2⟩
def ifV (c : En → Option Bool) (a b : En → Option D) (ρ : En) : Option D := (c ρ).bind fun x => if x = true then a ρ else b ρ
instance sv_if {c : TT} {ta tb : TE} {fc : En → Option Bool} {fa fb : En → Option D} [C : SVT K n c fc] [A : SV K n ta fa] [B' : SV K n tb fb] : SV K n (tIf c ta tb) (ifV fc fa fb) := ⟨fun {σ hv H U ρ τv τd d Q} I h k => by
  obtain ⟨x, h1, h2⟩ := Option.bind_eq_some_iff.mp h
  refine C.s I h1 fun H1 s1 => ?_
  cases x with
  | true => rw [if_pos rfl]; exact A.s (I.same s1) h2 fun v H2 s2 w => k v H2 (s1.trans s2) w
  | false => rw [if_neg Bool.false_ne_true]; exact B'.s (I.same s1) h2 fun v H2 s2 w => k v H2 (s1.trans s2) w⟩
end
end VL
namespace VL
open PySem L2
def posF (f : Str) : List Str → Option Nat
  | [] => none
  | g :: r => if f == g then some 0 else (posF f r).map (· + 1)
theorem posF_lookup {f : Str} : ∀ {ns : List Str} {vs : List V} {i : Nat}, posF f ns = some i → ns.length = vs.length → (ns.zip vs).lookup f = vs[i]?
  | [], _, _, h, _ => by cases h
  | g :: r, [], _, _, h => by cases h
  | g :: r, v :: vs, i, h, hl => by
    rw [posF] at h
    rw [List.zip_cons_cons, List.lookup_cons]
    by_cases c : (f == g) = true
    · rw [if_pos c] at h; cases h; rw [c]; rfl
    · rw [if_neg c] at h
      obtain ⟨j, h1, h2⟩ := Option.map_eq_some_iff.mp h
      subst h2
      rw [Bool.not_eq_true] at c
      rw [c]
      exact posF_lookup h1 (Nat.succ.inj hl)
theorem posF_lt {f : Str} : ∀ {ns : List Str} {i : Nat}, posF f ns = some i → i < ns.length
  | [], _, h => by cases h
  | g :: r, i, h => by
    rw [posF] at h
    by_cases c : (f == g) = true
    · rw [if_pos c] at h; cases h; exact Nat.succ_pos _
    · rw [if_neg c] at h
      obtain ⟨j, h1, h2⟩ := Option.map_eq_some_iff.mp h
      subst h2
      exact Nat.succ_lt_succ (posF_lt h1)
theorem posF_mem {f : Str} : ∀ {ns : List Str} {i : Nat}, posF f ns = some i → f ∈ ns
  | [], _, h => by cases h
  | g :: r, i, h => by
    rw [posF] at h
    by_cases c : (f == g) = true
    · have : f = g := by simpa using c
      rw [this]; exact .head _
    · rw [if_neg c] at h
      obtain ⟨j, h1, _⟩ := Option.map_eq_some_iff.mp h
      exact .tail _ (posF_mem h1)
theorem posF_put {f : Str} {y : V} : ∀ {ns : List Str} {vs : List V} {i : Nat}, posF f ns = some i → ns.length = vs.length → putF f y (ns.zip vs) = ns.zip (vs.set i y)
  | [], _, _, h, _ => by cases h
  | g :: r, [], _, _, h => by cases h
  | g :: r, v :: vs, i, h, hl => by
    rw [posF] at h
    rw [List.zip_cons_cons, putF]
    by_cases c : (f == g) = true
    · have e : g = f := by have : f = g := by simpa using c
                           exact this.symm
      rw [if_pos c] at h; cases h
      rw [if_pos e]; rfl
    · have ne : ¬ g = f := fun z => c (by rw [z]; simp)
      rw [if_neg c] at h
      obtain ⟨j, h1, h2⟩ := Option.map_eq_some_iff.mp h
      subst h2
      rw [if_neg ne, posF_put h1 (Nat.succ.inj hl)]
      rfl
theorem posF_new {f : Str} {y : V} : ∀ {ns : List Str} {vs : List V}, posF f ns = none → ns.length = vs.length → putF f y (ns.zip vs) = (ns ++ [f]).zip (vs ++ [y])
  | [], [], _, _ => rfl
  | [], _ :: _, _, h => by cases h
  | g :: r, [], _, h => by cases h
  | g :: r, v :: vs, h, hl => by
    rw [posF] at h
    rw [List.zip_cons_cons, putF]
    by_cases c : (f == g) = true
    · rw [if_pos c] at h; cases h
    · have ne : ¬ g = f := fun z => c (by rw [z]; simp)
      rw [if_neg c] at h
      rw [if_neg ne, posF_new (Option.map_eq_none_iff.mp h) (Nat.succ.inj hl)]
      rfl
section
variable {K : W.Frag} {n : Nat} {H H' : Hp} {U U' : Addr → Prop} {σ hv : List (Option V)} {ρ ρ' : En} {τv vs : List V} {τd ds : List D} {v : V} {d : D} {E : Ends}
def fldI (f : Str) : D → Option Nat
  | .nd (.obj _ ns) _ => posF f ns
  | _ => none
def kidD : D → Nat → Option D
  | .nd _ cs, i => cs[i]?
  | _, _ => none
def fldD (f : Str) (d : D) : Option D := (fldI f d).bind (kidD d)
instance sv_fld {ta : TE} {fa : En → Option D} {f : Str} [A : SV K n ta fa] : SV K n (tFld K ta f) (fun ρ => (fa ρ).bind (fldD f)) := ⟨fun {σ hv H U ρ τv τd d Q} I h k => by
  obtain ⟨x, h1, h2⟩ := Option.bind_eq_some_iff.mp h
  obtain ⟨i, h3, h4⟩ := Option.bind_eq_some_iff.mp h2
  refine A.s I h1 fun v H1 s1 w1 => ?_
  unfold fldI at h3
  split at h3
  · next C ns cs =>
    obtain ⟨a, vs, rfl, _, ⟨⟨hl, hC, hA⟩, dx, hc⟩, hl2, kid⟩ := w1.node
    have h4 : cs[i]? = some d := h4
    obtain ⟨u, hu⟩ := sat_get hl2 h4
    exact ⟨a, C, dx, _, u, rfl, hc, hC, hA f (posF_mem h3), (posF_lookup h3 hl).trans hu, k u H1 s1 (kid i u d hu h4)⟩
  · cases h3⟩
def plKid (ρ : En) (q : Pl) (i : Nat) : Option Pl := (plD ρ q).bind fun d => (kidD d i).bind fun c => match q with
  | .rt r p => if plain d = true then some (.ro c) else some (.rt r (p ++ [i]))
  | .ro _ => some (.ro c)
theorem getP_app : ∀ {p : List Nat} {d d1 : D} {i : Nat}, getP d p = some d1 → getP d (p ++ [i]) = getP d1 [i]
  | [], d, d1, i, g => by cases g; rfl
  | n :: p, .sc _, d1, i, g => by rw [getP] at g; cases g
  | n :: p, .hl _, d1, i, g => by rw [getP] at g; cases g
  | n :: p, .nd k cs, d1, i, g => by
    rw [getP] at g
    rw [List.cons_append, getP]
    by_cases hpl : imm k = true ∧ plainL cs = true
    · rw [if_pos hpl] at g; cases g
    rw [if_neg hpl] at g ⊢
    cases hc : cs[n]? with
    | none => rw [hc] at g; cases g
    | some c => rw [hc] at g; exact getP_app g
theorem PathV.app {u w : V} {p q : List Nat} (h : PathV H v p u) (h2 : PathV H u q w) : PathV H v (p ++ q) w := by
  induction h with
  | nil => exact h2
  | cons e1 e2 _ ih => exact .cons e1 e2 (ih h2)
theorem plain_imm {k : Kd} {cs : List D} (h : ¬ plain (.nd k cs) = true) : ¬ (imm k = true ∧ plainL cs = true) := fun ⟨a, b⟩ => by
  cases k with
  | tup => exact h b
  | frl => exact h b
  | _ => cases a
theorem Sit.kid {q q' : Pl} {i : Nat} (I : Sit K n H U σ hv ρ τv τd) (h : PlOk K H U (σ ++ hv) ρ v q) (hq : plKid ρ q i = some q') :
    ∃ (a : Addr) (k : Kd) (vs : List V) (cs : List D) (u : V) (c : D), v = .ref a ∧ plD ρ q = some (.nd k cs) ∧ Cell K H a k vs ∧ vs.length = cs.length ∧ vs[i]? = some u ∧ cs[i]? = some c ∧ PlOk K H U (σ ++ hv) ρ u q' ∧ plD ρ q' = some c := by
  obtain ⟨d, h1, h2⟩ := Option.bind_eq_some_iff.mp hq
  obtain ⟨c, h3, h4⟩ := Option.bind_eq_some_iff.mp h2
  cases d with
  | sc _ => cases h3
  | hl _ => cases h3
  | nd k cs =>
    have h3 : cs[i]? = some c := h3
    cases q with
    | ro d' =>
      cases h4
      cases h1
      obtain ⟨a, vs, rfl, _, hc, hl, kid⟩ := Vw.node (show Vw K H (fun b => ¬ U b) v (.nd k cs) from h)
      obtain ⟨u, hu⟩ := sat_get hl h3
      exact ⟨a, k, vs, cs, u, c, rfl, rfl, hc, hl, hu, h3, kid i u c hu h3, rfl⟩
    | rt r p =>
      have h4 : (if plain (.nd k cs) = true then some (Pl.ro c) else some (.rt r (p ++ [i]))) = some q' := h4
      by_cases pd : plain (.nd k cs) = true
      · rw [if_pos pd] at h4
        cases h4
        obtain ⟨a, vs, rfl, _, hc, hl, kid⟩ := (I.at h h1).node
        obtain ⟨u, hu⟩ := sat_get hl h3
        have pc : plain c = true := by
          cases k with
          | tup => exact plainL_get pd h3
          | frl => exact plainL_get pd h3
          | _ => cases pd
        exact ⟨a, k, vs, cs, u, c, rfl, h1, hc, hl, hu, h3, ((kid i u c hu h3).plain pc).view fun _ z => z.elim, rfl⟩
      · rw [if_neg pd] at h4
        cases h4
        obtain ⟨hr, vr, d0, er, hd0, hg, hp⟩ := h
        have h1' : (rootD ρ r).bind (getP · p) = some (.nd k cs) := h1
        rw [hd0] at h1'
        have h1' : getP d0 p = some (.nd k cs) := h1'
        have g2 : getP d0 (p ++ [i]) = some c := by
          rw [getP_app h1', getP, if_neg (plain_imm pd), h3]
          rfl
        obtain ⟨vr', F, ev, _, rp⟩ := I.rootV hd0
        rw [er] at ev; cases ev
        obtain ⟨F1, _, r1, _⟩ := rp.focus hp h1'
        obtain ⟨a, vs, rfl, ho, hl, Fs, _, _, kid⟩ := r1.node
        obtain ⟨u, hu⟩ := sat_get hl h3
        have hoo : ∃ o, H a = some o := by
          cases k with
          | tup => exact ⟨_, ho⟩
          | frl => exact absurd ⟨rfl, ho.1⟩ (plain_imm pd)
          | _ => obtain ⟨_, _, _, dx, x⟩ := ho; exact ⟨_, x⟩
        obtain ⟨o, eo⟩ := hoo
        have hp2 : PathV H vr (p ++ [i]) u := hp.app (.cons eo (by rw [ho.kids (plain_imm pd) eo]; exact hu) (.nil u))
        exact ⟨a, k, vs, cs, u, c, rfl, h1, ho.cell, hl, hu, h3, ⟨hr, vr, d0, er, hd0, by rw [g2]; rfl, hp2⟩, by show (rootD ρ r).bind (getP · (p ++ [i])) = some c; rw [hd0]; exact g2⟩
def fldP (f : Str) (fa : En → Option Pl) (ρ : En) : Option Pl := (fa ρ).bind fun q => (plD ρ q).bind fun d => (fldI f d).bind (plKid ρ q)
instance sp_fld {ta : TE} {fa : En → Option Pl} {f : Str} [A : SP K n ta fa] : SP K n (tFld K ta f) (fldP f fa) := ⟨fun {σ hv H U ρ τv τd q' Q} I h k => by
  obtain ⟨q, h1, h⟩ := Option.bind_eq_some_iff.mp h
  obtain ⟨d, h2, h⟩ := Option.bind_eq_some_iff.mp h
  obtain ⟨i, h3, h4⟩ := Option.bind_eq_some_iff.mp h
  refine A.s I h1 fun v H1 s1 w1 => ?_
  obtain ⟨a, kk, vs, cs, u, c, rfl, e1, hc, hl, hu, h5, ok, _⟩ := (I.same s1).kid w1 h4
  rw [h2] at e1; cases e1
  unfold fldI at h3
  split at h3
  · next C ns cs' e =>
    cases e
    obtain ⟨⟨hl2, hC, hA⟩, dx, hc⟩ := hc
    exact ⟨a, C, dx, _, u, rfl, hc, hC, hA f (posF_mem h3), (posF_lookup h3 hl2).trans hu, k u H1 s1 ok⟩
  · cases h3⟩
def ixD (d i : D) : Option Nat := match d, i with
  | .nd .tup cs, .sc (.int j) => ixN cs.length j
  | .nd .lst cs, .sc (.int j) => ixN cs.length j
  | .nd .frl cs, .sc (.int j) => ixN cs.length j
  | _, _ => none
class IxD (K : W.Frag) (r : R2) (g : outParam (D → D → Option Nat)) (gs : outParam (V → D → Option V)) : Prop where
  t : ∀ {H : Hp} {x y w : V} {dy : D} {Q : VK}, Vw K H T1 y dy → gs x dy = some w → Q w H → r x y H Q
  s : ∀ {H : Hp} {a : Addr} {k : Kd} {vs : List V} {cs : List D} {y u : V} {dy : D} {i : Nat} {Q : VK}, Cell K H a k vs → vs.length = cs.length → Vw K H T1 y dy → g (.nd k cs) dy = some i → vs[i]? = some u → Q u H → r (.ref a) y H Q
def ixV (g : D → D → Option Nat) (gs : V → D → Option V) (a b : D) : Option D := match a with
  | .sc x => (gs x b).map .sc
  | a => (g a b).bind (kidD a)
instance (priority := 900) sv_ix {r : R2} {ta tb : TE} {fa fb : En → Option D} {g : D → D → Option Nat} {gs : V → D → Option V} [A : SV K n ta fa] [B' : SV K n tb fb] [O : IxD K r g gs] : SV K n (tOp r ta tb) (op2 (ixV g gs) fa fb) := ⟨fun {σ hv H U ρ τv τd d Q} I h k => by
  obtain ⟨a, ha, h⟩ := Option.bind_eq_some_iff.mp h
  obtain ⟨b, hb, h⟩ := Option.bind_eq_some_iff.mp h
  refine A.s I ha fun x H1 s1 w1 => ?_
  refine B'.s (I.same s1) hb fun y H2 s2 w2 => ?_
  cases a with
  | sc z =>
    obtain ⟨w, h1, h2⟩ := Option.map_eq_some_iff.mp h
    subst h2
    rw [w1.scal]
    exact O.t w2 h1 (k w H2 (s1.trans s2) (.sc w))
  | hl _ =>
    obtain ⟨i, hi, h⟩ := Option.bind_eq_some_iff.mp h
    cases h
  | nd kk cs =>
    obtain ⟨i, hi, h⟩ := Option.bind_eq_some_iff.mp h
    have h : cs[i]? = some d := h
    obtain ⟨a, vs, rfl, _, hc, hl, kid⟩ := (w1.same s2).node
    obtain ⟨u, hu⟩ := sat_get hl h
    exact O.s hc hl w2 hi hu (k u H2 (s1.trans s2) (kid i u d hu h))⟩
def ixP (g : D → D → Option Nat) (fa : En → Option Pl) (fb : En → Option D) (ρ : En) : Option Pl := (fa ρ).bind fun q => (fb ρ).bind fun b => (plD ρ q).bind fun d => (g d b).bind (plKid ρ q)
theorem PlOk.same {q : Pl} {e : List (Option V)} (h : PlOk K H U e ρ v q) (s : Same H H') : PlOk K H' U e ρ v q := by
  cases q with
  | ro d => exact Vw.same h s
  | rt r p =>
    obtain ⟨a, vr, d, b, c, e, f⟩ := h
    exact ⟨a, vr, d, b, c, e, f.same s⟩
instance sp_ix {r : R2} {ta tb : TE} {fa : En → Option Pl} {fb : En → Option D} {g : D → D → Option Nat} {gs : V → D → Option V} [A : SP K n ta fa] [B' : SV K n tb fb] [O : IxD K r g gs] : SP K n (tOp r ta tb) (ixP g fa fb) := ⟨fun {σ hv H U ρ τv τd q' Q} I h k => by
  obtain ⟨q, ha, h⟩ := Option.bind_eq_some_iff.mp h
  obtain ⟨b, hb, h⟩ := Option.bind_eq_some_iff.mp h
  obtain ⟨d, hd, h⟩ := Option.bind_eq_some_iff.mp h
  obtain ⟨i, hi, h⟩ := Option.bind_eq_some_iff.mp h
  refine A.s I ha fun x H1 s1 w1 => ?_
  refine B'.s (I.same s1) hb fun y H2 s2 w2 => ?_
  obtain ⟨a, kk, vs, cs, u, c, rfl, e1, hc, hl, hu, h5, ok, _⟩ := ((I.same s1).same s2).kid (w1.same s2) h
  rw [hd] at e1; cases e1
  exact O.s hc hl w2 hi hu (k u H2 (s1.trans s2) ok)⟩
def ixS (x : V) (i : D) : Option V := match x, i with
  | .str z, .sc (.int j) => if z.length ≤ sizeLine then (atI z.cps.toList j).map fun c => .str ⟨#[c]⟩ else none
  | _, _ => none
theorem ixN_lt {m : Nat} {j : Int} {i : Nat} (h : ixN m j = some i) : i < m := by
  unfold ixN at h
  split at h
  · split at h
    · cases h; omega
    · cases h
  · split at h
    · cases h; omega
    · cases h
instance ix_seqD : IxD K (rIx K) ixD ixS where
  t := fun {H x y w dy Q} w2 h q => by
    unfold ixS at h
    split at h
    · next z j =>
      by_cases c : z.length ≤ sizeLine
      · rw [if_pos c] at h
        obtain ⟨ch, h1, h2⟩ := Option.map_eq_some_iff.mp h
        subst h2
        rw [w2.scal]
        exact .inr (.inr ⟨z, j, ch, rfl, rfl, c, h1, q⟩)
      · rw [if_neg c] at h; cases h
    · cases h
  s := fun {H a k vs cs y u dy i Q} hc hl w2 h hu q => by
    unfold ixD at h
    have at_ : ∀ j, ixN cs.length j = some i → atI vs j = some u := fun j e => by
      unfold atI
      rw [hl, e]
      exact hu
    split at h
    · next cs' j e =>
      cases e
      rw [w2.scal]
      exact .inr (.inl ⟨a, vs, j, u, rfl, rfl, SqT.of hc.2, at_ j h, q⟩)
    · next cs' j e =>
      cases e
      rw [w2.scal]
      exact .inl ⟨a, vs, j, u, rfl, rfl, .inl (.inl hc.2), at_ j h, q⟩
    · next cs' j e =>
      cases e
      rw [w2.scal]
      exact .inl ⟨a, vs, j, u, rfl, rfl, hc.2.sq, at_ j h, q⟩
    · cases h
class SQ (K : W.Frag) (n : Nat) (t : TE) (f : outParam (En → Option D)) : Prop where
  o : ∀ {σ hv : List (Option V)} {H : Hp} {U : Addr → Prop} {ρ : En} {τv : List V} {τd : List D} {d : D} {Q : VK}, Sit K n H U σ hv ρ τv τd → f ρ = some d → (∀ v H', Same H H' → Own K H H' v d → Q v H') → t σ H Q
theorem SQ.s {t : TE} {f : En → Option D} [S : SQ K n t f] {Q : VK} (I : Sit K n H U σ hv ρ τv τd) (h : f ρ = some d) (k : ∀ v H' U', Sit K n H' U' σ hv ρ (τv ++ [v]) (τd ++ [d]) → Stp U H U' H' → Same H H' → Q v H') : t σ H Q :=
  S.o I h fun v H' s o => by
    obtain ⟨U', I', st⟩ := I.push s o
    exact k v H' U' I' st s
instance (priority := 200) sq_of_sf {t : TE} {f : En → Option D} [S : SF K n t f] : SQ K n t f := ⟨fun I h k => S.s I h k⟩
def plainQ (f : En → Option D) (ρ : En) : Option D := (f ρ).bind fun d => if plain d = true then some d else none
instance (priority := 100) sq_of_sv {t : TE} {f : En → Option D} [S : SV K n t f] : SQ K n t (plainQ f) := ⟨fun {σ hv H U ρ τv τd d Q} I h k => by
  obtain ⟨d', h1, h2⟩ := Option.bind_eq_some_iff.mp h
  by_cases p : plain d' = true
  · rw [if_pos p] at h2
    cases h2
    exact S.s I h1 fun v H' s w => k v H' s (Own.plain w p)
  · rw [if_neg p] at h2; cases h2⟩
def nodeAt (ρ : En) (r : Nat) (p : List Nat) : Option (D × Kd × List D) := (rootD ρ r).bind fun d0 => (getP d0 p).bind fun
  | .nd k cs => some (d0, k, cs)
  | _ => none
theorem nodeAt_of {r : Nat} {p : List Nat} {d0 : D} {k : Kd} {cs : List D} (h : nodeAt ρ r p = some (d0, k, cs)) : rootD ρ r = some d0 ∧ getP d0 p = some (.nd k cs) := by
  obtain ⟨x, h1, h2⟩ := Option.bind_eq_some_iff.mp h
  obtain ⟨y, h3, h4⟩ := Option.bind_eq_some_iff.mp h2
  cases y with
  | sc _ => cases h4
  | hl _ => cases h4
  | nd k' cs' => cases h4; exact ⟨h1, h3⟩
open Classical in
noncomputable def fldPut (K : W.Frag) (f : Str) (k : Kd) (cs : List D) (d : D) : Option D := match k with
  | .obj C ns => if cs.length < 1000 then (match posF f ns with
    | some i => some (.nd (.obj C ns) (cs.set i d))
    | none => if NoAttr K C f then some (.nd (.obj C (ns ++ [f])) (cs ++ [d])) else none) else none
  | _ => none
noncomputable def fldF (K : W.Frag) (f : Str) (fv : En → Option (D × En)) (fp : En → Option Pl) (ρ : En) : Option Fl := (fv ρ).bind fun a => (fp a.2).bind fun
  | .rt r p => (nodeAt a.2 r p).bind fun z => (fldPut K f z.2.1 z.2.2 a.1).map fun d' => .nx (editE a.2 r z.1 p d')
  | .ro _ => none
theorem sel_set {α : Type} {xs : List α} {x : α} {i : Nat} (hi : i < xs.length) : ∀ (j : Nat) (y : α), (xs.set i x)[j]? = some y → (xs ++ [x])[if j = i then xs.length else j]? = some y := fun j y h => by
  by_cases c : j = i
  · subst c
    rw [List.getElem?_set_self hi] at h
    rw [if_pos rfl, List.getElem?_append_right (Nat.le_refl _), Nat.sub_self]
    exact h
  · rw [List.getElem?_set_ne (Ne.symm c)] at h
    rw [if_neg c, List.getElem?_append_left (List.getElem?_eq_some_iff.mp h).1]
    exact h
theorem sel_inj {i m : Nat} (hi : i < m) : ∀ a b, a < m → b < m → (if a = i then m else a) = (if b = i then m else b) → a = b := fun a b ha hb h => by
  by_cases c1 : a = i
  · by_cases c2 : b = i
    · omega
    · rw [if_pos c1, if_neg c2] at h; omega
  · by_cases c2 : b = i
    · rw [if_neg c1, if_pos c2] at h; omega
    · rw [if_neg c1, if_neg c2] at h; exact h
instance ss_fld {ta tv : TE} {f : Str} {fv : En → Option (D × En)} {fp : En → Option Pl} [A : SM K n tv fv] [P : SP K n ta fp] : SS K n (sFld K ta tv f) (fldF K f fv fp) := ⟨fun {σ hv H U ρ τv τd fl E} I h k => by
  obtain ⟨⟨d, ρ1⟩, h1, h⟩ := Option.bind_eq_some_iff.mp h
  obtain ⟨q, h2, h⟩ := Option.bind_eq_some_iff.mp h
  cases q with
  | ro _ => cases h
  | rt r p =>
    obtain ⟨⟨d0, kk, cs⟩, h3, h⟩ := Option.bind_eq_some_iff.mp h
    obtain ⟨d', h4, h⟩ := Option.map_eq_some_iff.mp h
    subst h
    obtain ⟨hr, hg⟩ := nodeAt_of h3
    refine A.s I h1 fun y H1 U1 I1 st1 => ?_
    refine P.s I1 h2 fun x H2 s2 w2 => ?_
    have I2 := I1.same s2
    have stS : Stp U1 H1 U1 H2 := fun b o q nu => ⟨s2 b o q, nu⟩
    unfold fldPut at h4
    split at h4
    · next C ns e =>
      have e : kk = .obj C ns := e
      subst e
      by_cases c : cs.length < 1000
      · rw [if_pos c] at h4
        obtain ⟨a, dx, vs, rfl, ha, hf, hl, _, ed⟩ := Sit.edit (xs := [y]) (ds := [d]) I2 rfl w2 hr hg rfl
        obtain ⟨hf1, hC, hA⟩ := hf
        split at h4
        · next i e2 =>
          cases h4
          have hi : i < vs.length := by rw [← hf1]; exact posF_lt e2
          refine ⟨a, C, dx, _, rfl, ha, hC, hA f (posF_mem e2), by rw [List.length_zip]; omega, ?_⟩
          rw [posF_put e2 hf1]
          obtain ⟨U3, I3, st3⟩ := ed (.obj C ns) (vs.set i y) (cs.set i d) (fun j => if j = i then vs.length else j) rfl ⟨by rw [List.length_set]; exact hf1, hC, hA⟩ (by rw [List.length_set, List.length_set]; exact hl)
            (fun x z hx hz => sel_inj hi x z (by rw [List.length_set] at hx; exact hx) (by rw [List.length_set] at hz; exact hz)) (sel_set hi) (by rw [hl]; exact sel_set (by omega))
          exact k σ _ U3 I3 (st1.trans (stS.trans st3))
        · next e2 =>
          by_cases cn : NoAttr K C f
          · rw [if_pos cn] at h4
            cases h4
            refine ⟨a, C, dx, _, rfl, ha, hC, cn, by rw [List.length_zip]; omega, ?_⟩
            rw [posF_new e2 hf1]
            obtain ⟨U3, I3, st3⟩ := ed (.obj C (ns ++ [f])) (vs ++ [y]) (cs ++ [d]) id rfl ⟨by simp; exact hf1, hC, fun g hg => by
              rcases List.mem_append.mp hg with z | z
              · exact hA g z
              · rw [List.mem_singleton.mp z]; exact cn⟩ (by simp; exact hl) (fun x z _ _ h => h) (fun j x h => h) fun j x h => h
            exact k σ _ U3 I3 (st1.trans (stS.trans st3))
          · rw [if_neg cn] at h4; cases h4
      · rw [if_neg c] at h4; cases h4
    · cases h4⟩
def lstEd (ρ : En) (r : Nat) (p : List Nat) (g : List D → Option (List D)) : Option En := (nodeAt ρ r p).bind fun z => match z.2.1 with
  | .lst => (g z.2.2).map fun cs' => editE ρ r z.1 p (.nd .lst cs')
  | _ => none
theorem tyV_list {p : Addr} {xs : List V} (h : H p = some (.lst xs)) : tyV K "list" (.ref p) H := .inl ⟨rfl, xs, .inl (.inl h)⟩
theorem PlOk.root {r : Nat} {ρ2 : En} {e : List (Option V)} (h : PlOk K H U e ρ v (.rt r [])) (hd : rootD ρ2 r = some d) : PlOk K H' U' e ρ2 v (.rt r []) := by
  obtain ⟨_, vr, d0, er, _, _, hp⟩ := h
  cases hp
  exact ⟨(List.getElem?_eq_some_iff.mp (rootD_of hd)).1, v, d, er, hd, rfl, .nil v⟩
end
end VL
namespace VL
open PySem L2
def start' (n : Nat) (vs : List V) : St := vs.map some ++ List.replicate (n - vs.length) none
section
variable {K : W.Frag} {n : Nat} {H H' : Hp} {U U' : Addr → Prop} {m : Nat} {e t ws : List (Option V)} {τ ωs : En} {σ hv : List (Option V)} {ρ ρ' : En} {τv vs : List V} {τd ds : List D} {v : V} {d : D} {E : XK}
def spP (K : W.Frag) (m : Nat) (G : List D → Option D) : Sp := fun vs H Q _ => ∃ (ds : List D) (d : D), ds.length = m ∧ VwL K H T1 vs ds ∧ G ds = some d ∧ ∀ v H', Same H H' → Own K H H' v d → Q v H'
instance sf_call {ta : TA} {fa : En → Option (List D)} {G : List D → Option D} {m : Nat} [A : SA K n ta fa] : SF K n (tCall (spP K m G) [] E ta) (fun ρ => (fa ρ).bind fun ds => if ds.length = m then G ds else none) := ⟨fun {σ hv H U ρ τv τd d Q} I h k => by
  obtain ⟨ds, h1, h2⟩ := Option.bind_eq_some_iff.mp h
  by_cases c : ds.length = m
  · rw [if_pos c] at h2
    refine A.s I h1 fun vs H1 s1 w1 => ?_
    show spP K m G (vs ++ []) H1 Q E
    rw [List.append_nil]
    exact ⟨ds, d, c, w1, h2, fun v H' s o => k v H' (s1.trans s) (o.early s1)⟩
  · rw [if_neg c] at h2; cases h2⟩
def bodyP (n : Nat) (f : En → Option Fl) (ds : List D) : Option D := match f (ds.map (fun d => some (.ro d)) ++ List.replicate (n - ds.length) none) with
  | some (.rt d _) => some d
  | some (.nx _) => some (.sc .non)
  | _ => none
theorem VwL.get {N : Addr → Prop} (h : VwL K H N vs ds) {i : Nat} {d : D} (hd : ds[i]? = some d) : ∃ v, vs[i]? = some v ∧ Vw K H N v d := by
  obtain ⟨v, hv⟩ := sat_get h.1 hd
  exact ⟨v, hv, h.2 i v d hv hd⟩
theorem pure_fn {t : TS} {f : En → Option Fl} {m : Nat} {Q : VK} {X : XK} [S : SS K n t f] (h : spP K m (bodyP n f) vs H Q X) (hm : m ≤ n) : t { nx := fun _ H' => Q .non H', rt := Q } (start' n vs) H := by
  obtain ⟨ds, d, hd, w, hG, k⟩ := h
  have hl := w.1
  have rp : ∀ (i : Nat) (β : B), (ds.map (fun d => some (B.ro d)) ++ List.replicate (n - ds.length) none)[i]? = some (some β) → ∃ d, ds[i]? = some d ∧ β = .ro d := fun i β h => by
    by_cases hi : i < ds.length
    · rw [List.getElem?_append_left (by simpa using hi), List.getElem?_map] at h
      cases q : ds[i]? with
      | none => rw [q] at h; cases h
      | some x => rw [q] at h; cases h; exact ⟨x, rfl, rfl⟩
    · rw [List.getElem?_append_right (by simp; omega), List.getElem?_replicate] at h
      split at h <;> cases h
  have I : Sit K n H (fun _ => False) (start' n vs) [] (ds.map (fun d => some (.ro d)) ++ List.replicate (n - ds.length) none) [] [] := by
    refine ⟨⟨by unfold start'; simp [hl], fun b z => z.elim, fun _ _ => False, fun i j b z => z.elim, fun i b z => z.elim, fun i β hβ => ?_⟩, by unfold start'; simp [hl], by unfold start'; simp; omega⟩
    rw [List.map_nil, List.append_nil] at hβ
    obtain ⟨x, hx, rfl⟩ := rp i β hβ
    obtain ⟨v, hv, vw⟩ := w.get hx
    refine ⟨v, ?_, vw.mono fun _ _ z => z⟩
    rw [List.map_nil, List.append_nil, List.append_nil]
    unfold start'
    rw [List.getElem?_append_left (by simpa using (List.getElem?_eq_some_iff.mp hv).1), List.getElem?_map, hv]
    rfl
  have fin : ∀ {ρ' : En} {v : V} {σ' : List (Option V)} {H' : Hp} {U' : Addr → Prop}, Sit K n H' U' σ' [] ρ' [v] [d] → Stp (fun _ => False) H U' H' → Q v H' := fun {ρ' v σ' H' U'} J st => by
    refine k v H' (fun b o q => (st b o q fun z => z).1) ?_
    obtain ⟨_, mu, Fs, dj, sub, sl⟩ := J.ok
    have l := J.len
    obtain ⟨v', ev, sv⟩ := sl ρ'.length (.own d) (by simp)
    have : v' = v := by
      rw [List.getElem?_append_right (by simp at l ⊢; omega)] at ev
      simp at ev l
      rw [show ρ'.length - σ'.length = 0 by omega] at ev
      simp at ev; exact ev.symm
    subst this
    refine ⟨_, sv, fun b z => ⟨?_, mu b (sub _ b z)⟩⟩
    cases q : H b with
    | none => rfl
    | some o => exact absurd (sub _ b z) (st b o q fun z => z).2
  unfold bodyP at hG
  split at hG
  · next d' ρ' e =>
    cases hG
    exact S.s I e fun v σ' H' U' J st => fin J st
  · next ρ' e =>
    cases hG
    refine S.s I e fun σ' H' U' J st => ?_
    obtain ⟨U2, J2, st2⟩ := J.push (Same.refl H') (Own.sc (K := K) .non)
    exact fin J2 (st.trans st2)
  · cases hG
def ioL {α : Type} : List Bool → List α → List α
  | true :: m, x :: r => x :: ioL m r
  | false :: m, _ :: r => ioL m r
  | _, _ => []
def spI (K : W.Frag) (mask : List Bool) (G : List D → Option (D × List D)) : Sp := fun vs H Q _ => vs.length = mask.length ∧ ∃ (ds : List D) (U : Addr → Prop) (d : D) (outs : List D), ds.length = mask.length ∧ EnvOk K H U 0 ((ioL mask vs).map some) (owns (ioL mask ds)) ∧
  (∀ (i : Nat) (v : V) (d : D), mask[i]? = some false → vs[i]? = some v → ds[i]? = some d → Vw K H (fun b => ¬ U b) v d) ∧ G ds = some (d, outs) ∧
  ∀ v H' U', EnvOk K H' U' 0 (some v :: (ioL mask vs).map some) (some (.own d) :: owns outs) → Stp U H U' H' → Q v H'
def parB (n : Nat) : Nat → List Bool → List D → En
  | j, true :: m, _ :: r => some (.ali (n + j) []) :: parB n (j + 1) m r
  | j, false :: m, d :: r => some (.ro d) :: parB n j m r
  | _, _, _ => []
def allOwn : En → Option (List D)
  | [] => some []
  | some (.own d) :: r => (allOwn r).map (d :: ·)
  | _ => none
theorem allOwn_of : ∀ {ρ : En} {ds : List D}, allOwn ρ = some ds → ρ = owns ds
  | [], ds, h => by cases h; rfl
  | some (.own d) :: r, ds, h => by
    rw [allOwn] at h
    obtain ⟨x, h1, h2⟩ := Option.map_eq_some_iff.mp h
    subst h2
    rw [allOwn_of h1]; rfl
  | none :: r, ds, h => by simp [allOwn] at h
  | some (.ro d) :: r, ds, h => by simp [allOwn] at h
  | some (.ali _ _) :: r, ds, h => by simp [allOwn] at h
def envI (n : Nat) (mask : List Bool) (ds : List D) : En := parB n 0 mask ds ++ List.replicate (n - mask.length) none ++ owns (ioL mask ds)
def bodyI (n : Nat) (mask : List Bool) (f : En → Option Fl) (ds : List D) : Option (D × List D) := match f (envI n mask ds) with
  | some (.rt d ρ') => (allOwn (ρ'.drop n)).map fun o => (d, o)
  | some (.nx ρ') => (allOwn (ρ'.drop n)).map fun o => (.sc .non, o)
  | _ => none
theorem parB_len (n : Nat) : ∀ (j : Nat) {mask : List Bool} {ds : List D}, ds.length = mask.length → (parB n j mask ds).length = mask.length
  | j, [], [], _ => rfl
  | j, [], _ :: _, h => by cases h
  | j, _ :: _, [], h => by cases h
  | j, true :: m, _ :: r, h => by rw [parB, List.length_cons, parB_len n (j + 1) (Nat.succ.inj h)]; rfl
  | j, false :: m, _ :: r, h => by rw [parB, List.length_cons, parB_len n j (Nat.succ.inj h)]; rfl
theorem ioL_len {α β : Type} : ∀ {mask : List Bool} {xs : List α} {ys : List β}, xs.length = mask.length → ys.length = mask.length → (ioL mask xs).length = (ioL mask ys).length
  | [], [], [], _, _ => rfl
  | [], _ :: _, _, h, _ => by cases h
  | [], _, _ :: _, _, h => by cases h
  | _ :: _, [], _, h, _ => by cases h
  | _ :: _, _, [], _, h => by cases h
  | true :: m, x :: xs, y :: ys, h, h' => by rw [ioL, ioL, List.length_cons, List.length_cons, ioL_len (Nat.succ.inj h) (Nat.succ.inj h')]
  | false :: m, x :: xs, y :: ys, h, h' => by rw [ioL, ioL, ioL_len (Nat.succ.inj h) (Nat.succ.inj h')]
theorem parB_get (n : Nat) : ∀ (j : Nat) {mask : List Bool} {ds : List D} {vs : List V} {i : Nat} {β : B}, ds.length = mask.length → vs.length = mask.length → (parB n j mask ds)[i]? = some (some β) →
    (∃ d, β = .ro d ∧ mask[i]? = some false ∧ ds[i]? = some d) ∨ ∃ j' v, β = .ali (n + j') [] ∧ j ≤ j' ∧ (ioL mask vs)[j' - j]? = some v ∧ vs[i]? = some v
  | j, [], _, _, _, _, _, _, h => by simp [parB] at h
  | j, _ :: _, [], _, _, _, h, _, _ => by cases h
  | j, _ :: _, _, [], _, _, _, h, _ => by cases h
  | j, true :: m, d :: ds, v :: vs, 0, β, h1, h2, h => by
    rw [parB] at h
    cases h
    exact .inr ⟨j, v, rfl, Nat.le_refl _, by rw [Nat.sub_self, ioL]; rfl, rfl⟩
  | j, true :: m, d :: ds, v :: vs, i + 1, β, h1, h2, h => by
    rw [parB] at h
    rcases parB_get n (j + 1) (mask := m) (ds := ds) (vs := vs) (i := i) (Nat.succ.inj h1) (Nat.succ.inj h2) (by simpa using h) with ⟨x, a, b, c⟩ | ⟨j', x, a, b, c, e⟩
    · exact .inl ⟨x, a, by simpa using b, by simpa using c⟩
    · refine .inr ⟨j', x, a, by omega, ?_, by simpa using e⟩
      rw [ioL, show j' - j = (j' - (j + 1)) + 1 by omega]
      simpa using c
  | j, false :: m, d :: ds, v :: vs, 0, β, h1, h2, h => by
    rw [parB] at h
    cases h
    exact .inl ⟨d, rfl, rfl, rfl⟩
  | j, false :: m, d :: ds, v :: vs, i + 1, β, h1, h2, h => by
    rw [parB] at h
    rcases parB_get n j (mask := m) (ds := ds) (vs := vs) (i := i) (Nat.succ.inj h1) (Nat.succ.inj h2) (by simpa using h) with ⟨x, a, b, c⟩ | ⟨j', x, a, b, c, e⟩
    · exact .inl ⟨x, a, by simpa using b, by simpa using c⟩
    · exact .inr ⟨j', x, a, b, by rw [ioL]; exact c, by simpa using e⟩
theorem EnvOk.tail (h : EnvOk K H U m (e ++ t) (ρ ++ τ)) (hl : e.length = ρ.length) (hτ : noAli τ) : ∃ Ut : Addr → Prop, (∀ b, Ut b → U b) ∧ EnvOk K H Ut 0 t τ := by
  obtain ⟨hlen, mu, Fs, dj, sub, sl⟩ := h
  rw [List.length_append, List.length_append] at hlen
  refine ⟨fun b => ∃ i, e.length ≤ i ∧ Fs i b, fun b ⟨i, _, z⟩ => sub i b z, ⟨by omega, fun b ⟨i, _, z⟩ => mu b (sub i b z), fun i => Fs (e.length + i), fun i j b hi hj => by have := dj _ _ b hi hj; omega, fun i b hb => ⟨_, by omega, hb⟩, fun i β hβ => ?_⟩⟩
  have hβ' : (ρ ++ τ)[e.length + i]? = some (some β) := by
    rw [hl, List.getElem?_append_right (by omega), show ρ.length + i - ρ.length = i by omega]
    exact hβ
  obtain ⟨v, ev, sv⟩ := sl _ _ hβ'
  rw [List.getElem?_append_right (by omega), show e.length + i - e.length = i by omega] at ev
  refine ⟨v, ev, ?_⟩
  cases β with
  | own d => exact sv
  | ro d => exact Vw.mono sv fun b nb ⟨j, _, z⟩ => nb (sub j b z)
  | ali r p => exact absurd rfl (hτ _ (List.mem_of_getElem? hβ) r p)
theorem EnvOk.pick {vs' : List V} {ds' : List D} (h : EnvOk K H U 0 (vs.map some) (owns ds)) (hl : vs'.length = ds'.length) (π : Nat → Nat) (inj : ∀ i j, i < vs'.length → j < vs'.length → π i = π j → i = j)
    (hv : ∀ (i : Nat) (x : V), vs'[i]? = some x → vs[π i]? = some x) (hd : ∀ (i : Nat) (x : D), ds'[i]? = some x → ds[π i]? = some x) : EnvOk K H U 0 (vs'.map some) (owns ds') := by
  obtain ⟨hlen, mu, Fs, dj, sub, sl⟩ := h
  refine ⟨by unfold owns; rw [List.length_map, List.length_map]; exact hl, mu, fun i b => i < vs'.length ∧ Fs (π i) b, fun i j b hi hj => inj i j hi.1 hj.1 (dj _ _ b hi.2 hj.2), fun i b hb => sub _ b hb.2, fun i β hβ => ?_⟩
  unfold owns at hβ
  rw [List.getElem?_map] at hβ
  cases q : ds'[i]? with
  | none => rw [q] at hβ; cases hβ
  | some x =>
    rw [q] at hβ
    cases hβ
    obtain ⟨u, hu⟩ := sat_get hl q
    obtain ⟨v, ev, sv⟩ := sl (π i) (.own x) (by unfold owns; rw [List.getElem?_map, hd i x q]; rfl)
    rw [List.getElem?_map, hv i u hu] at ev
    cases ev
    exact ⟨u, by rw [List.getElem?_map, hu]; rfl, Rep.mono sv fun b z => ⟨(List.getElem?_eq_some_iff.mp hu).1, z⟩⟩
theorem rot_get {α : Type} {xs : List α} {x : α} : ∀ (i : Nat) (y : α), (x :: xs)[i]? = some y → (xs ++ [x])[if i = 0 then xs.length else i - 1]? = some y := fun i y h => by
  cases i with
  | zero => simp at h ⊢; exact h
  | succ i =>
    have h : xs[i]? = some y := by simpa using h
    rw [if_neg (Nat.succ_ne_zero i), Nat.add_sub_cancel, List.getElem?_append_left (List.getElem?_eq_some_iff.mp h).1]
    exact h
theorem EnvOk.rot (h : EnvOk K H U 0 ((vs ++ [v]).map some) (owns (ds ++ [d]))) : EnvOk K H U 0 ((v :: vs).map some) (owns (d :: ds)) := by
  have hl : vs.length = ds.length := by have := h.len; unfold owns at this; simp at this; omega
  refine h.pick (by simp [hl]) (fun i => if i = 0 then vs.length else i - 1) (fun i j hi hj q => ?_) rot_get (by rw [hl]; exact rot_get)
  rw [List.length_cons] at hi hj
  by_cases c1 : i = 0
  · by_cases c2 : j = 0
    · omega
    · simp only [if_pos c1, if_neg c2] at q; omega
  · by_cases c2 : j = 0
    · simp only [if_neg c1, if_pos c2] at q; omega
    · simp only [if_neg c1, if_neg c2] at q; omega
theorem io_fn {t : TS} {f : En → Option Fl} {mask : List Bool} {Q : VK} {X : XK} [S : SS K n t f] (h : spI K mask (bodyI n mask f) vs H Q X) (hm : mask.length ≤ n) : t { nx := fun _ H' => Q .non H', rt := Q } (start' n vs) H := by
  obtain ⟨hv, ds, U, d, outs, hd, ok, vw, hG, k⟩ := h
  have l1 := parB_len n 0 (mask := mask) (ds := ds) hd
  have l2 := ioL_len (mask := mask) hv hd
  have lE : (envI n mask ds).length = n + (ioL mask ds).length := by
    unfold envI owns
    rw [List.length_append, List.length_append, l1, List.length_replicate, List.length_map]
    omega
  have sL : (start' n vs).length = n := by unfold start'; simp; omega
  have I : Sit K n H U (start' n vs) ((ioL mask vs).map some) (envI n mask ds) [] [] := by
    obtain ⟨ol, mu, Fs, dj, sub, sl⟩ := ok
    refine ⟨⟨by rw [List.map_nil, List.map_nil, List.append_nil, List.append_nil, List.length_append, sL, lE, List.length_map, l2], mu, fun i b => n ≤ i ∧ Fs (i - n) b, fun i j b hi hj => by have := dj _ _ b hi.2 hj.2; omega, fun i b hb => sub _ b hb.2, fun i β hβ => ?_⟩, by rw [sL, List.length_map, l2, lE], sL⟩
    rw [List.map_nil, List.append_nil] at hβ
    rw [List.map_nil, List.append_nil]
    by_cases hi : i < n
    · have hβ1 : (parB n 0 mask ds ++ List.replicate (n - mask.length) none)[i]? = some (some β) := by
        unfold envI at hβ
        rw [List.getElem?_append_left (by rw [List.length_append, l1, List.length_replicate]; omega)] at hβ
        exact hβ
      by_cases hi2 : i < mask.length
      · rw [List.getElem?_append_left (by omega)] at hβ1
        have sv : ∀ v, vs[i]? = some v → (start' n vs ++ (ioL mask vs).map some)[i]? = some (some v) := fun v q => by
          rw [List.getElem?_append_left (by omega)]
          unfold start'
          rw [List.getElem?_append_left (by simp; omega), List.getElem?_map, q]; rfl
        rcases parB_get n 0 (vs := vs) hd hv hβ1 with ⟨x, rfl, b, c⟩ | ⟨j', x, rfl, _, c, q⟩
        · obtain ⟨v, hvv⟩ := sat_get (vs := vs) (by omega) c
          exact ⟨v, sv v hvv, vw i v x b hvv c⟩
        · refine ⟨x, sv x q, ?_, x, ?_, .nil x⟩
          · have := (List.getElem?_eq_some_iff.mp c).1
            rw [lE]
            omega
          · rw [List.getElem?_append_right (by omega), sL, List.getElem?_map, show n + j' - n = j' - 0 by omega, c]; rfl
      · rw [List.getElem?_append_right (by omega), List.getElem?_replicate] at hβ1
        split at hβ1 <;> cases hβ1
    · have hβ2 : (owns (ioL mask ds))[i - n]? = some (some β) := by
        unfold envI at hβ
        rw [List.getElem?_append_right (by rw [List.length_append, l1, List.length_replicate]; omega)] at hβ
        rw [List.length_append, l1, List.length_replicate, show mask.length + (n - mask.length) = n by omega] at hβ
        exact hβ
      obtain ⟨v, ev, sv⟩ := sl _ β hβ2
      refine ⟨v, by rw [List.getElem?_append_right (by omega), sL]; exact ev, ?_⟩
      cases β with
      | own x => exact Rep.mono sv fun b z => ⟨by omega, z⟩
      | ro x => exact sv
      | ali r p => exact absurd rfl (owns_noAli _ _ (List.mem_of_getElem? hβ2) r p)
  have fin : ∀ {ρ' : En} {v : V} {σ' : List (Option V)} {H' : Hp} {U' : Addr → Prop}, Sit K n H' U' σ' ((ioL mask vs).map some) ρ' [v] [d] → allOwn (ρ'.drop n) = some outs → Stp U H U' H' → Q v H' := fun {ρ' v σ' H' U'} J ho st => by
    have eo := allOwn_of ho
    have ln := J.len
    have nn := J.nn
    have er : ρ' = ρ'.take n ++ owns outs := by rw [← eo, List.take_append_drop]
    have okJ := J.ok
    have lt : σ'.length = (ρ'.take n).length := by rw [List.length_take]; omega
    -- first the names go, then the last one comes to the front
    have okJ : EnvOk K H' U' ρ'.length (σ' ++ ((ioL mask vs).map some ++ [some v])) (ρ'.take n ++ (owns outs ++ [some (.own d)])) := by
      rw [← List.append_assoc, ← List.append_assoc, ← er]; exact okJ
    obtain ⟨Ut, su, ot⟩ := okJ.tail lt fun b hb q p => by
      rcases List.mem_append.mp hb with z | z
      · exact owns_noAli outs b z q p
      · rw [List.mem_singleton.mp z]; exact fun w => nomatch w
    have ot' : EnvOk K H' Ut 0 ((ioL mask vs ++ [v]).map some) (owns (outs ++ [d])) := by
      unfold owns at ot ⊢
      rw [List.map_append, List.map_append]; exact ot
    refine k v H' Ut ot'.rot fun b o q nu => ⟨(st b o q nu).1, fun z => (st b o q nu).2 (su b z)⟩
  unfold bodyI at hG
  split at hG
  · next d' ρ' q =>
    obtain ⟨o, h1, h2⟩ := Option.map_eq_some_iff.mp hG
    cases h2
    exact S.s I q fun v σ' H' U' J st => fin J h1 st
  · next ρ' q =>
    obtain ⟨o, h1, h2⟩ := Option.map_eq_some_iff.mp hG
    cases h2
    refine S.s I q fun σ' H' U' J st => ?_
    obtain ⟨U2, J2, st2⟩ := J.push (Same.refl H') (Own.sc (K := K) .non)
    exact fin J2 h1 (st.trans st2)
  · cases hG
end
end VL
namespace VL
open PySem L2
section
variable {K : W.Frag} {n : Nat} {H H' : Hp} {U U' : Addr → Prop} {σ hv : List (Option V)} {ρ ρ' ρ1 ρ2 : En} {τv vs ws : List V} {τd ds wd : List D} {v : V} {d : D} {E : XK}
theorem Sit.ok' (I : Sit K n H U σ hv ρ τv τd) : EnvOk K H U ρ.length (σ ++ hv ++ τv.map some) (ρ ++ owns τd) := I.ok
theorem Sit.lend {r : Nat} {p : List Nat} {d0 d1 : D} (I : Sit K n H U σ hv ρ τv τd) (w : PlOk K H U (σ ++ hv) ρ v (.rt r p)) (hr : rootD ρ r = some d0) (hg : getP d0 p = some d1) :
    Sit K n H U σ hv (ρ.set r (some (.own (setP d0 p (.hl v))))) (τv ++ [v]) (τd ++ [d1]) := by
  have l := I.len
  have tl := I.tl
  obtain ⟨hrl, vr, d0', er, hr', _, hp⟩ := w
  rw [hr] at hr'; cases hr'
  refine ⟨?_, by rw [List.length_set]; exact l, I.nn⟩
  have k := I.ok'.take (r := r) (p := p) (vr := vr) (u := v) (by simp; omega) (by rw [List.getElem?_append_left hrl]; exact rootD_of hr) (by rw [List.getElem?_append_left (by simp; omega)]; exact er) hp hg
  rw [List.length_set, List.map_append, List.map_append, ← List.append_assoc, ← List.append_assoc]
  rw [List.set_append_left _ _ hrl] at k
  exact k
theorem Sit.back {r : Nat} {p : List Nat} {d0 : D} (I : Sit K n H U σ hv ρ (τv ++ [v]) (τd ++ [d])) (hr : rootD ρ r = some d0) (hg : getP d0 p = some (.hl v)) : Sit K n H U σ hv (ρ.set r (some (.own (setP d0 p d)))) τv τd := by
  have l := I.len
  have tl := I.tl
  have tl : τv.length = τd.length := by simp at tl; omega
  have hro := rootD_of hr
  have hrl : r < ρ.length := (List.getElem?_eq_some_iff.mp hro).1
  have ok := I.ok
  rw [List.map_append, List.map_append, ← List.append_assoc, ← List.append_assoc] at ok
  have k := ok.put (r := r) (p := p) (d0 := d0) (by simp; omega) (by simp; omega) (by rw [List.getElem?_append_left hrl]; exact hro) hg
  rw [List.set_append_left _ _ hrl] at k
  exact ⟨by rw [List.length_set]; exact k, by rw [List.length_set]; exact l, I.nn⟩
theorem Sit.pick {vs' : List V} {ds' : List D} (I : Sit K n H U σ hv ρ (τv ++ vs) (τd ++ ds)) (hl : vs.length = ds.length) (h2 : vs'.length = ds'.length) (π : Nat → Nat) (inj : ∀ i j, i < vs'.length → j < vs'.length → π i = π j → i = j)
    (hv' : ∀ (i : Nat) (x : V), vs'[i]? = some x → vs[π i]? = some x) (hd' : ∀ (i : Nat) (x : D), ds'[i]? = some x → ds[π i]? = some x) : Sit K n H U σ hv ρ (τv ++ vs') (τd ++ ds') := by
  have l := I.len
  have tl := I.tl
  have tl : τv.length = τd.length := by simp at tl; omega
  obtain ⟨he, mu, Fs, dj, sub, sl⟩ := I.ok
  have base : (σ ++ hv ++ τv.map some).length = ρ.length + τd.length := by simp; omega
  refine ⟨⟨by simp; omega, mu, fun i b => if i < ρ.length + τd.length then Fs i b else i < ρ.length + τd.length + vs'.length ∧ Fs (ρ.length + τd.length + π (i - (ρ.length + τd.length))) b, fun i j b hi hj => ?_, fun i b hb => ?_, fun i β hβ => ?_⟩, l, I.nn⟩
  · have hi : if i < ρ.length + τd.length then Fs i b else i < ρ.length + τd.length + vs'.length ∧ Fs (ρ.length + τd.length + π (i - (ρ.length + τd.length))) b := hi
    have hj : if j < ρ.length + τd.length then Fs j b else j < ρ.length + τd.length + vs'.length ∧ Fs (ρ.length + τd.length + π (j - (ρ.length + τd.length))) b := hj
    by_cases ci : i < ρ.length + τd.length
    · rw [if_pos ci] at hi
      by_cases cj : j < ρ.length + τd.length
      · rw [if_pos cj] at hj; exact dj i j b hi hj
      · rw [if_neg cj] at hj; have := dj _ _ b hi hj.2; omega
    · rw [if_neg ci] at hi
      by_cases cj : j < ρ.length + τd.length
      · rw [if_pos cj] at hj; have := dj _ _ b hi.2 hj; omega
      · rw [if_neg cj] at hj
        have := dj _ _ b hi.2 hj.2
        have := inj (i - (ρ.length + τd.length)) (j - (ρ.length + τd.length)) (by omega) (by omega) (by omega)
        omega
  · have hb : if i < ρ.length + τd.length then Fs i b else i < ρ.length + τd.length + vs'.length ∧ Fs (ρ.length + τd.length + π (i - (ρ.length + τd.length))) b := hb
    by_cases ci : i < ρ.length + τd.length
    · rw [if_pos ci] at hb; exact sub _ b hb
    · rw [if_neg ci] at hb; exact sub _ b hb.2
  · have e0 : ∀ (zs : List V) (j : Nat), j < ρ.length + τd.length → (σ ++ hv ++ (τv ++ zs).map some)[j]? = (σ ++ hv ++ τv.map some)[j]? := fun zs j hj => by
      rw [List.map_append, ← List.append_assoc, List.getElem?_append_left (by omega)]
    have lR : (ρ ++ τd.map fun d => some (B.own d)).length = ρ.length + τd.length := by simp
    by_cases hi : i < ρ.length + τd.length
    · have g1 : (ρ ++ (τd ++ ds).map fun d => some (B.own d))[i]? = some (some β) := by
        rw [List.map_append, ← List.append_assoc, List.getElem?_append_left (by omega)] at hβ ⊢
        exact hβ
      obtain ⟨v, ev, sv⟩ := sl i β g1
      refine ⟨v, by rw [e0 vs' i hi]; rw [e0 vs i hi] at ev; exact ev, ?_⟩
      have sv := SlotOk.slots sv (e' := σ ++ hv ++ (τv ++ vs').map some) fun r hr => by rw [e0 vs' r (by omega), e0 vs r (by omega)]
      cases β with
      | own x =>
        show Rep K H (fun b => if i < ρ.length + τd.length then Fs i b else _) v x
        simp only [if_pos hi]; exact sv
      | ro x => exact sv
      | ali r p => exact sv
    · have g0 : (ds'.map fun d => some (B.own d))[i - (ρ.length + τd.length)]? = some (some β) := by
        rw [List.map_append, ← List.append_assoc, List.getElem?_append_right (by omega), lR] at hβ
        exact hβ
      rw [List.getElem?_map] at g0
      cases q : ds'[i - (ρ.length + τd.length)]? with
      | none => rw [q] at g0; cases g0
      | some x =>
        rw [q] at g0
        cases g0
        obtain ⟨u, hu⟩ := sat_get h2 q
        have g1 : (ρ ++ (τd ++ ds).map fun d => some (B.own d))[ρ.length + τd.length + π (i - (ρ.length + τd.length))]? = some (some (.own x)) := by
          rw [List.map_append, ← List.append_assoc, List.getElem?_append_right (by omega), lR, Nat.add_sub_cancel_left, List.getElem?_map, hd' _ x q]
          rfl
        obtain ⟨v, ev, sv⟩ := sl _ _ g1
        rw [List.map_append, ← List.append_assoc, List.getElem?_append_right (by omega), base, Nat.add_sub_cancel_left, List.getElem?_map, hv' _ u hu] at ev
        cases ev
        have hlt : i - (ρ.length + τd.length) < vs'.length := (List.getElem?_eq_some_iff.mp hu).1
        refine ⟨u, by rw [List.map_append, ← List.append_assoc, List.getElem?_append_right (by omega), base, List.getElem?_map, hu]; rfl, ?_⟩
        show Rep K H (fun b => if i < ρ.length + τd.length then _ else i < ρ.length + τd.length + vs'.length ∧ Fs (ρ.length + τd.length + π (i - (ρ.length + τd.length))) b) u x
        simp only [if_neg hi]
        exact Rep.mono sv fun b z => ⟨by omega, z⟩
theorem Sit.dropMid (I : Sit K n H U σ hv ρ (τv ++ ws ++ vs) (τd ++ wd ++ ds)) (hl : ws.length = wd.length) (h2 : vs.length = ds.length) : Sit K n H U σ hv ρ (τv ++ vs) (τd ++ ds) := by
  rw [List.append_assoc, List.append_assoc] at I
  exact I.pick (by simp; omega) h2 (fun i => ws.length + i) (fun i j _ _ h => by omega) (fun i x h => by rw [List.getElem?_append_right (by omega), Nat.add_sub_cancel_left]; exact h) (fun i x h => by rw [hl, List.getElem?_append_right (by omega), Nat.add_sub_cancel_left]; exact h)
theorem rot1 {α : Type} {xs : List α} {x : α} : ∀ (i : Nat) (y : α), (xs ++ [x])[i]? = some y → (x :: xs)[if i = xs.length then 0 else i + 1]? = some y := fun i y h => by
  by_cases c : i = xs.length
  · subst c
    simp at h ⊢; exact h
  · have hi : i < xs.length := by
      have := (List.getElem?_eq_some_iff.mp h).1
      simp at this; omega
    rw [List.getElem?_append_left hi] at h
    rw [if_neg c]
    simpa using h
theorem Sit.rotF (I : Sit K n H U σ hv ρ (τv ++ (v :: vs)) (τd ++ (d :: ds))) (hl : vs.length = ds.length) : Sit K n H U σ hv ρ (τv ++ vs ++ [v]) (τd ++ ds ++ [d]) := by
  rw [List.append_assoc, List.append_assoc]
  refine I.pick (by simp; exact hl) (by simp; exact hl) (fun i => if i = vs.length then 0 else i + 1) (fun i j hi hj h => ?_) rot1 (by rw [hl]; exact rot1)
  by_cases c1 : i = vs.length
  · by_cases c2 : j = vs.length
    · omega
    · simp only [if_pos c1, if_neg c2] at h; omega
  · by_cases c2 : j = vs.length
    · simp only [if_neg c1, if_pos c2] at h; omega
    · simp only [if_neg c1, if_neg c2] at h; omega
structure Io where
  r : Nat
  p : List Nat
def holeE : En → List Io → List V → En
  | ρ, io :: L, v :: vs => match rootD ρ io.r with
    | some d0 => holeE (ρ.set io.r (some (.own (setP d0 io.p (.hl v))))) L vs
    | none => ρ
  | ρ, _, _ => ρ
def lentD : En → List Io → Option (List D)
  | _, [] => some []
  | ρ, io :: L => (rootD ρ io.r).bind fun d0 => (getP d0 io.p).bind fun d1 => (lentD ρ L).map (d1 :: ·)
def putE (ρ0 : En) : En → List Io → List D → En
  | ρ, io :: L, o :: os => match rootD ρ0 io.r with
    | some d0 => putE ρ0 (ρ.set io.r (some (.own (setP d0 io.p o)))) L os
    | none => ρ
  | ρ, _, _ => ρ
def rootsApart (L : List Io) : Prop := L.Pairwise fun a b => a.r ≠ b.r
instance (L : List Io) : Decidable (rootsApart L) := inferInstanceAs (Decidable (L.Pairwise _))
theorem Sit.lendAll : ∀ {L : List Io} {ρ : En} {τv : List V} {τd : List D} {vs : List V} {ds : List D}, Sit K n H U σ hv ρ τv τd → rootsApart L → lentD ρ L = some ds → vs.length = L.length → (∀ (i : Nat) (io : Io) (v : V), L[i]? = some io → vs[i]? = some v → PlOk K H U (σ ++ hv) ρ v (.rt io.r io.p)) →
    Sit K n H U σ hv (holeE ρ L vs) (τv ++ vs) (τd ++ ds)
  | [], ρ, τv, τd, vs, ds, I, _, h, hl, _ => by
    cases h
    have : vs = [] := List.eq_nil_of_length_eq_zero hl
    subst this
    rw [List.append_nil, List.append_nil]
    simp only [holeE]
    exact I
  | io :: L, ρ, τv, τd, [], ds, I, _, h, hl, _ => by cases hl
  | io :: L, ρ, τv, τd, v :: vs, ds, I, ha, h, hl, hp => by
    rw [lentD] at h
    obtain ⟨d0, h1, h⟩ := Option.bind_eq_some_iff.mp h
    obtain ⟨d1, h2, h⟩ := Option.bind_eq_some_iff.mp h
    obtain ⟨ds', h3, h⟩ := Option.map_eq_some_iff.mp h
    subst h
    have ap := List.pairwise_cons.mp ha
    have I1 := I.lend (hp 0 io v rfl rfl) h1 h2
    have rne : ∀ j ∈ L, rootD (ρ.set io.r (some (.own (setP d0 io.p (.hl v))))) j.r = rootD ρ j.r := fun j hj => rootD_set_ne (ap.1 j hj)
    have lent' : ∀ (M : List Io) (hM : ∀ j ∈ M, j ∈ L) (ds : List D), lentD ρ M = some ds → lentD (ρ.set io.r (some (.own (setP d0 io.p (.hl v))))) M = some ds := by
      intro M
      induction M with
      | nil => intro _ ds h; exact h
      | cons j M ih =>
        intro hM ds h
        rw [lentD] at h ⊢
        rw [rne j (hM j (.head _))]
        obtain ⟨a, x1, h⟩ := Option.bind_eq_some_iff.mp h
        obtain ⟨b, x2, h⟩ := Option.bind_eq_some_iff.mp h
        obtain ⟨c, x3, h⟩ := Option.map_eq_some_iff.mp h
        rw [x1]
        show (getP a j.p).bind _ = _
        rw [x2]
        show (lentD _ M).map _ = _
        rw [ih (fun k hk => hM k (.tail _ hk)) c x3]
        exact congrArg some h
    have I2 := I1.lendAll ap.2 (lent' L (fun j hj => hj) ds' h3) (vs := vs) (Nat.succ.inj hl) fun i j u hj hu => by
      obtain ⟨q1, vr, dd, q2, q3, q4, q5⟩ := hp (i + 1) j u (by simpa using hj) (by simpa using hu)
      exact ⟨by rw [List.length_set]; exact q1, vr, dd, q2, by rw [rne j (List.mem_of_getElem? hj)]; exact q3, q4, q5⟩
    rw [holeE, h1]
    rw [List.append_cons, List.append_cons τd]
    exact I2
def Sim (ρ1 ρ2 : En) : Prop := ∀ s q, ((rootD ρ1 s).bind (getP · q)).isSome = ((rootD ρ2 s).bind (getP · q)).isSome
theorem pruneB_sim (h : Sim ρ1 ρ2) (b : Option B) : pruneB ρ1 b = pruneB ρ2 b := by
  cases b with
  | none => rfl
  | some c =>
    cases c with
    | own d => rfl
    | ro d => rfl
    | ali r p =>
      show (if p = [] ∨ ((rootD ρ1 r).bind (getP · p)).isSome = true then some (B.ali r p) else none) = (if p = [] ∨ ((rootD ρ2 r).bind (getP · p)).isSome = true then some (B.ali r p) else none)
      rw [h r p]
theorem Sim.hole {r : Nat} {p : List Nat} {d0 e0 d1 e1 x y : D} (h : Sim ρ1 ρ2) (l1 : r < ρ1.length) (l2 : r < ρ2.length) (g : ∀ q, (getP (setP d0 p x) q).isSome = (getP (setP e0 p y) q).isSome) : Sim (ρ1.set r (some (.own (setP d0 p x)))) (ρ2.set r (some (.own (setP e0 p y)))) := fun s q => by
  by_cases c : r = s
  · subst c
    rw [rootD_set_self l1, rootD_set_self l2]
    exact g q
  · rw [rootD_set_ne c, rootD_set_ne c]
    exact h s q
theorem holeE_len : ∀ (ρ : En) (L : List Io) (vs : List V), (holeE ρ L vs).length = ρ.length
  | ρ, [], vs => by simp [holeE]
  | ρ, io :: L, [] => by simp [holeE]
  | ρ, io :: L, v :: vs => by
    rw [holeE]
    cases rootD ρ io.r with
    | none => rfl
    | some d0 => show (holeE _ L vs).length = _; rw [holeE_len, List.length_set]
theorem rootD_eq {s : Nat} (h : ρ1[s]? = ρ2[s]?) : rootD ρ1 s = rootD ρ2 s := by unfold rootD; rw [h]
theorem holeE_gen : ∀ {L : List Io} {ρ1 ρ2 : En} {vs us : List V}, rootsApart L → Sim ρ1 ρ2 → ρ1.length = ρ2.length → (∀ io ∈ L, ∃ d0 d1, rootD ρ1 io.r = some d0 ∧ rootD ρ2 io.r = some d0 ∧ getP d0 io.p = some d1) → vs.length = L.length → us.length = L.length → Sim (holeE ρ1 L vs) (holeE ρ2 L us)
  | [], ρ1, ρ2, vs, us, _, h, _, _, _, _ => by simp only [holeE]; exact h
  | io :: L, ρ1, ρ2, [], us, _, _, _, _, h, _ => by cases h
  | io :: L, ρ1, ρ2, _, [], _, _, _, _, _, h => by cases h
  | io :: L, ρ1, ρ2, v :: vs, u :: us, ha, h, hl, hr, l1, l2 => by
    obtain ⟨d0, d1, q1, q2, q3⟩ := hr io (.head _)
    have ap := List.pairwise_cons.mp ha
    have r1 : io.r < ρ1.length := (List.getElem?_eq_some_iff.mp (rootD_of q1)).1
    rw [holeE, holeE, q1, q2]
    refine holeE_gen ap.2 (h.hole (d1 := d1) (e1 := d1) r1 (by omega) fun q => getP_hole q3 rfl rfl (fun _ _ => by rw [getP]) fun _ _ => by rw [getP]) (by rw [List.length_set, List.length_set]; exact hl) (fun j hj => ?_) (Nat.succ.inj l1) (Nat.succ.inj l2)
    obtain ⟨e0, e1, x1, x2, x3⟩ := hr j (.tail _ hj)
    exact ⟨e0, e1, by rw [rootD_set_ne (ap.1 j hj)]; exact x1, by rw [rootD_set_ne (ap.1 j hj)]; exact x2, x3⟩
theorem lentD_mem : ∀ {L : List Io} {ρ : En} {ds : List D}, lentD ρ L = some ds → ∀ io ∈ L, ∃ d0 d1, rootD ρ io.r = some d0 ∧ getP d0 io.p = some d1
  | io :: L, ρ, ds, h, j, hj => by
    rw [lentD] at h
    obtain ⟨d0, h1, h⟩ := Option.bind_eq_some_iff.mp h
    obtain ⟨d1, h2, h⟩ := Option.bind_eq_some_iff.mp h
    obtain ⟨ds', h3, h⟩ := Option.map_eq_some_iff.mp h
    cases hj with
    | head => exact ⟨d0, d1, h1, h2⟩
    | tail _ hj => exact lentD_mem h3 j hj
theorem holeE_sim {L : List Io} {us : List V} (ha : rootsApart L) (h : lentD ρ L = some ds) (l1 : vs.length = L.length) (l2 : us.length = L.length) : Sim (holeE ρ L vs) (holeE ρ L us) :=
  holeE_gen ha (fun _ _ => rfl) rfl (fun io hio => let ⟨d0, d1, a, b⟩ := lentD_mem h io hio; ⟨d0, d1, a, a, b⟩) l1 l2
theorem holeE_out : ∀ {L : List Io} {ρ : En} {vs : List V} {s : Nat}, (∀ io ∈ L, io.r ≠ s) → (holeE ρ L vs)[s]? = ρ[s]?
  | [], ρ, vs, s, _ => by simp only [holeE]
  | io :: L, ρ, [], s, _ => by simp only [holeE]
  | io :: L, ρ, v :: vs, s, h => by
    rw [holeE]
    cases rootD ρ io.r with
    | none => rfl
    | some d0 =>
      show (holeE _ L vs)[s]? = _
      rw [holeE_out fun j hj => h j (.tail _ hj), List.getElem?_set_ne (h io (.head _))]
theorem holeE_in : ∀ {L : List Io} {ρ : En} {vs : List V} {i : Nat} {io : Io} {d0 : D}, rootsApart L → vs.length = L.length → L[i]? = some io → rootD ρ io.r = some d0 → (∀ j ∈ L, ∃ e, rootD ρ j.r = some e) → ∃ v, vs[i]? = some v ∧ rootD (holeE ρ L vs) io.r = some (setP d0 io.p (.hl v))
  | [], ρ, vs, i, io, d0, _, _, h, _, _ => by simp at h
  | j :: L, ρ, [], i, io, d0, _, h, _, _, _ => by cases h
  | j :: L, ρ, v :: vs, 0, io, d0, ha, hl, h, hr, al => by
    cases h
    have ap := List.pairwise_cons.mp ha
    have hrl : j.r < ρ.length := (List.getElem?_eq_some_iff.mp (rootD_of hr)).1
    refine ⟨v, rfl, ?_⟩
    rw [holeE, hr]
    show rootD (holeE _ L vs) j.r = _
    rw [rootD_eq (holeE_out fun k hk => (ap.1 k hk).symm), rootD_set_self hrl]
  | j :: L, ρ, v :: vs, i + 1, io, d0, ha, hl, h, hr, al => by
    have ap := List.pairwise_cons.mp ha
    have h : L[i]? = some io := by simpa using h
    obtain ⟨e, he⟩ := al j (.head _)
    have ne := ap.1 io (List.mem_of_getElem? h)
    rw [holeE, he]
    obtain ⟨u, hu, q⟩ := holeE_in (ρ := ρ.set j.r (some (.own (setP e j.p (.hl v))))) ap.2 (Nat.succ.inj hl) h (d0 := d0) (by rw [rootD_set_ne ne]; exact hr) fun k hk => by
      obtain ⟨x, hx⟩ := al k (.tail _ hk)
      exact ⟨x, by rw [rootD_set_ne (ap.1 k hk)]; exact hx⟩
    exact ⟨u, by simpa using hu, q⟩
end
end VL
namespace VL
open PySem L2
section
variable {K : W.Frag} {n : Nat} {H H' : Hp} {U U' : Addr → Prop} {σ hv : List (Option V)} {ρ ρ' ρ1 ρ2 : En} {τv vs ws : List V} {τd ds wd : List D} {v : V} {d : D} {E : XK}
inductive Ar where
  | io (i : Io) | tm (d : D) | rv (q : Pl) (d : D)
inductive ArgsOk (K : W.Frag) (H : Hp) (U : Addr → Prop) (e : List (Option V)) (ρ : En) : List Bool → List V → List Ar → List V → List D → Prop
  | nil : ArgsOk K H U e ρ [] [] [] [] []
  | io {m : List Bool} {v : V} {i : Io} {vs : List V} {as : List Ar} {ws : List V} {wd : List D} : PlOk K H U e ρ v (.rt i.r i.p) → ArgsOk K H U e ρ m vs as ws wd → ArgsOk K H U e ρ (true :: m) (v :: vs) (.io i :: as) ws wd
  | tm {m : List Bool} {v : V} {d : D} {vs : List V} {as : List Ar} {ws : List V} {wd : List D} : ArgsOk K H U e ρ m vs as ws wd → ArgsOk K H U e ρ (false :: m) (v :: vs) (.tm d :: as) (v :: ws) (d :: wd)
  | rv {m : List Bool} {v : V} {q : Pl} {d : D} {vs : List V} {as : List Ar} {ws : List V} {wd : List D} : PlOk K H U e ρ v q → plD ρ q = some d → ArgsOk K H U e ρ m vs as ws wd → ArgsOk K H U e ρ (false :: m) (v :: vs) (.rv q d :: as) ws wd
class SCp (K : W.Frag) (n : Nat) (mask : List Bool) (t : TA) (f : outParam (En → Option (List Ar))) : Prop where
  s : ∀ {σ hv : List (Option V)} {H : Hp} {U : Addr → Prop} {ρ : En} {τv : List V} {τd : List D} {as : List Ar} {Q : List V → Hp → Prop}, Sit K n H U σ hv ρ τv τd → f ρ = some as →
    (∀ vs ws wd H' U', Sit K n H' U' σ hv ρ (τv ++ ws) (τd ++ wd) → ws.length = wd.length → Stp U H U' H' → Same H H' → ArgsOk K H' U' (σ ++ hv) ρ mask vs as ws wd → Q vs H') → t σ H Q
class SC (K : W.Frag) (n : Nat) (mask : List Bool) (t : TA) (f : outParam (En → Option (List Ar × En))) : Prop where
  s : ∀ {σ hv : List (Option V)} {H : Hp} {U : Addr → Prop} {ρ ρ' : En} {τv : List V} {τd : List D} {as : List Ar} {Q : List V → Hp → Prop}, Sit K n H U σ hv ρ τv τd → f ρ = some (as, ρ') →
    (∀ vs ws wd H' U', Sit K n H' U' σ hv ρ' (τv ++ ws) (τd ++ wd) → ws.length = wd.length → Stp U H U' H' → ArgsOk K H' U' (σ ++ hv) ρ' mask vs as ws wd → Q vs H') → t σ H Q
theorem PlOk.step {q : Pl} {e : List (Option V)} (h : PlOk K H U e ρ v q) (s : Same H H') (st : Stp U H U' H') : PlOk K H' U' e ρ v q := by
  cases q with
  | ro d =>
    have h : Vw K H (fun b => ¬ U b) v d := h
    exact h.over (fun b o nb q => st b o q nb) (Stay.of s)
  | rt r p =>
    obtain ⟨a, vr, d, b, c, e, f⟩ := h
    exact ⟨a, vr, d, b, c, e, f.same s⟩
instance scp_nil : SCp K n [] tNil (fun _ => some []) := ⟨fun {σ hv H U ρ τv τd as Q} I h k => by
  cases h
  exact k [] [] [] H U (by rw [List.append_nil, List.append_nil]; exact I) rfl (Stp.refl U H) (Same.refl H) .nil⟩
def cIo (fp : En → Option Pl) (fr : En → Option (List Ar)) (ρ : En) : Option (List Ar) := (fp ρ).bind fun
  | .rt r p => (fr ρ).map (.io ⟨r, p⟩ :: ·)
  | .ro _ => none
instance scp_io {m : List Bool} {te : TE} {tr : TA} {fp : En → Option Pl} {fr : En → Option (List Ar)} [P : SP K n te fp] [R : SCp K n m tr fr] : SCp K n (true :: m) (tCons te tr) (cIo fp fr) := ⟨fun {σ hv H U ρ τv τd as Q} I h k => by
  obtain ⟨q, h1, h⟩ := Option.bind_eq_some_iff.mp h
  cases q with
  | ro _ => cases h
  | rt r p =>
    obtain ⟨as', h2, h⟩ := Option.map_eq_some_iff.mp h
    subst h
    refine P.s I h1 fun v H1 s1 w1 => ?_
    have stS : Stp U H U H1 := fun b o q nu => ⟨s1 b o q, nu⟩
    refine R.s (I.same s1) h2 fun vs ws wd H2 U2 I2 hl st2 s2 ao => ?_
    exact k (v :: vs) ws wd H2 U2 I2 hl (stS.trans st2) (s1.trans s2) (.io (w1.step s2 st2) ao)⟩
def cTm (fe : En → Option D) (fr : En → Option (List Ar)) (ρ : En) : Option (List Ar) := (fe ρ).bind fun d => (fr ρ).map (.tm d :: ·)
instance (priority := 200) scp_tm {m : List Bool} {te : TE} {tr : TA} {fe : En → Option D} {fr : En → Option (List Ar)} [A : SQ K n te fe] [R : SCp K n m tr fr] : SCp K n (false :: m) (tCons te tr) (cTm fe fr) := ⟨fun {σ hv H U ρ τv τd as Q} I h k => by
  obtain ⟨d, h1, h⟩ := Option.bind_eq_some_iff.mp h
  obtain ⟨as', h2, h⟩ := Option.map_eq_some_iff.mp h
  subst h
  refine SQ.s (f := fe) I h1 fun v H1 U1 I1 st1 s1 => ?_
  refine R.s I1 h2 fun vs ws wd H2 U2 I2 hl st2 s2 ao => ?_
  refine k (v :: vs) (v :: ws) (d :: wd) H2 U2 ?_ (by rw [List.length_cons, List.length_cons, hl]) (st1.trans st2) (s1.trans s2) (.tm ao)
  rw [List.append_cons, List.append_cons τd]; exact I2⟩
def cRv (fp : En → Option Pl) (fr : En → Option (List Ar)) (ρ : En) : Option (List Ar) := (fp ρ).bind fun q => (plD ρ q).bind fun d => if plain d = true then (fr ρ).map (.tm d :: ·) else (fr ρ).map (.rv q d :: ·)
instance (priority := 300) scp_rv {m : List Bool} {te : TE} {tr : TA} {fp : En → Option Pl} {fr : En → Option (List Ar)} [P : SP K n te fp] [R : SCp K n m tr fr] : SCp K n (false :: m) (tCons te tr) (cRv fp fr) := ⟨fun {σ hv H U ρ τv τd as Q} I h k => by
  obtain ⟨q, h1, h⟩ := Option.bind_eq_some_iff.mp h
  obtain ⟨d, h2, h⟩ := Option.bind_eq_some_iff.mp h
  refine P.s I h1 fun v H1 s1 w1 => ?_
  have I1 := I.same s1
  have stS : Stp U H U H1 := fun b o q nu => ⟨s1 b o q, nu⟩
  by_cases p : plain d = true
  · rw [if_pos p] at h
    obtain ⟨as', h3, h⟩ := Option.map_eq_some_iff.mp h
    subst h
    obtain ⟨U1, I1', st1⟩ := I1.push (Same.refl H1) (Own.plain (I1.at w1 h2) p)
    refine R.s I1' h3 fun vs ws wd H2 U2 I2 hl st2 s2 ao => ?_
    refine k (v :: vs) (v :: ws) (d :: wd) H2 U2 ?_ (by rw [List.length_cons, List.length_cons, hl]) (stS.trans (st1.trans st2)) (s1.trans s2) (.tm ao)
    rw [List.append_cons, List.append_cons τd]; exact I2
  · rw [if_neg p] at h
    obtain ⟨as', h3, h⟩ := Option.map_eq_some_iff.mp h
    subst h
    refine R.s I1 h3 fun vs ws wd H2 U2 I2 hl st2 s2 ao => ?_
    exact k (v :: vs) ws wd H2 U2 I2 hl (stS.trans st2) (s1.trans s2) (.rv (w1.step s2 st2) h2 ao)⟩
instance (priority := 1000) sc_of_scp {mask : List Bool} {t : TA} {f : En → Option (List Ar)} [S : SCp K n mask t f] : SC K n mask t (fun ρ => (f ρ).map fun a => (a, ρ)) := ⟨fun {σ hv H U ρ ρ' τv τd as Q} I h k => by
  obtain ⟨as', h1, h2⟩ := Option.map_eq_some_iff.mp h
  cases h2
  exact S.s I h1 fun vs ws wd H' U' I' hl st s ao => k vs ws wd H' U' I' hl st ao⟩
def cTmM (fe : En → Option (D × En)) (fr : En → Option (List Ar × En)) (ρ : En) : Option (List Ar × En) := (fe ρ).bind fun a => (fr a.2).map fun r => (.tm a.1 :: r.1, r.2)
instance (priority := 200) sc_tm {m : List Bool} {te : TE} {tr : TA} {fe : En → Option (D × En)} {fr : En → Option (List Ar × En)} [A : SM K n te fe] [R : SC K n m tr fr] : SC K n (false :: m) (tCons te tr) (cTmM fe fr) := ⟨fun {σ hv H U ρ ρ' τv τd as Q} I h k => by
  obtain ⟨⟨d, ρ1⟩, h1, h⟩ := Option.bind_eq_some_iff.mp h
  obtain ⟨⟨as', ρ2⟩, h2, h⟩ := Option.map_eq_some_iff.mp h
  cases h
  refine A.s I h1 fun v H1 U1 I1 st1 => ?_
  refine R.s I1 h2 fun vs ws wd H2 U2 I2 hl st2 ao => ?_
  refine k (v :: vs) (v :: ws) (d :: wd) H2 U2 ?_ (by rw [List.length_cons, List.length_cons, hl]) (st1.trans st2) (.tm ao)
  rw [List.append_cons, List.append_cons τd]; exact I2⟩
def cIoM (fp : En → Option Pl) (fr : En → Option (List Ar × En)) (ρ : En) : Option (List Ar × En) := (fp ρ).bind fun
  | .rt r p => if p = [] then (fr ρ).bind fun a => if (rootD a.2 r).isSome = true then some (.io ⟨r, []⟩ :: a.1, a.2) else none else none
  | .ro _ => none
instance (priority := 200) sc_io {m : List Bool} {te : TE} {tr : TA} {fp : En → Option Pl} {fr : En → Option (List Ar × En)} [P : SP K n te fp] [R : SC K n m tr fr] : SC K n (true :: m) (tCons te tr) (cIoM fp fr) := ⟨fun {σ hv H U ρ ρ' τv τd as Q} I h k => by
  obtain ⟨q, h1, h⟩ := Option.bind_eq_some_iff.mp h
  cases q with
  | ro _ => cases h
  | rt r p =>
    have h : (if p = [] then (fr ρ).bind fun a => if (rootD a.2 r).isSome = true then some (Ar.io ⟨r, []⟩ :: a.1, a.2) else none else none) = some (as, ρ') := h
    by_cases cp : p = []
    · rw [if_pos cp] at h
      subst cp
      obtain ⟨⟨as', ρ2⟩, h2, h⟩ := Option.bind_eq_some_iff.mp h
      by_cases cr : (rootD ρ2 r).isSome = true
      · have h : (if (rootD ρ2 r).isSome = true then some (Ar.io ⟨r, []⟩ :: as', ρ2) else none) = some (as, ρ') := h
        rw [if_pos cr] at h
        cases h
        obtain ⟨d', hd⟩ := Option.isSome_iff_exists.mp cr
        refine P.s I h1 fun v H1 s1 w1 => ?_
        have stS : Stp U H U H1 := fun b o q nu => ⟨s1 b o q, nu⟩
        refine R.s (I.same s1) h2 fun vs ws wd H2 U2 I2 hl st2 ao => ?_
        exact k (v :: vs) ws wd H2 U2 I2 hl (stS.trans st2) (.io (w1.root hd) ao)
      · have h : (if (rootD ρ2 r).isSome = true then some (Ar.io ⟨r, []⟩ :: as', ρ2) else none) = some (as, ρ') := h
        rw [if_neg cr] at h; cases h
    · rw [if_neg cp] at h; cases h⟩
def arIos : List Ar → List Io
  | [] => []
  | .io i :: r => i :: arIos r
  | .tm _ :: r => arIos r
  | .rv _ _ :: r => arIos r
def arD (ρ : En) : Ar → Option D
  | .io i => (rootD ρ i.r).bind (getP · i.p)
  | .tm d => some d
  | .rv _ d => some d
def arDs (ρ : En) : List Ar → Option (List D)
  | [] => some []
  | a :: r => (arD ρ a).bind fun d => (arDs ρ r).map (d :: ·)
def apartP : List Nat → List Nat → Bool
  | a :: p, b :: q => !decide (a = b) || apartP p q
  | _, _ => false
def rvOk (L : List Io) : Ar → Bool
  | .rv (.rt r p) _ => L.all fun i => !decide (i.r = r) || apartP i.p p
  | _ => true
theorem getP_apart : ∀ {p q : List Nat} {d d1 x : D}, apartP p q = true → getP d p = some d1 → plain x = false → getP (setP d p x) q = getP d q
  | [], _, _, _, _, h, _, _ => by simp [apartP] at h
  | _ :: _, [], _, _, _, h, _, _ => by simp [apartP] at h
  | a :: p, b :: q, .sc _, d1, x, h, g, hx => by rw [getP] at g; cases g
  | a :: p, b :: q, .hl _, d1, x, h, g, hx => by rw [getP] at g; cases g
  | a :: p, b :: q, .nd k cs, d1, x, h, g, hx => by
    rw [getP] at g
    by_cases hpl : imm k = true ∧ plainL cs = true
    · rw [if_pos hpl] at g; cases g
    rw [if_neg hpl] at g
    cases hc : cs[a]? with
    | none => rw [hc] at g; cases g
    | some c =>
      rw [hc] at g
      have hn := (List.getElem?_eq_some_iff.mp hc).1
      have e1 : setP (.nd k cs) (a :: p) x = .nd k (cs.set a (setP c p x)) := by rw [setP, hc]
      have px := plainL_set hn (plain_setP g hx)
      rw [e1, getP, getP, if_neg (by rintro ⟨_, z⟩; rw [px] at z; cases z), if_neg hpl]
      by_cases e : a = b
      · subst e
        rw [List.getElem?_set_self hn, hc]
        have h : apartP p q = true := by simpa [apartP] using h
        exact getP_apart h g hx
      · rw [List.getElem?_set_ne e]
def finE (ρ : En) (L : List Io) (outs : List D) : En := putE ρ (prune (holeE ρ L (L.map fun _ => V.non))) L outs
theorem ArgsOk.len {e : List (Option V)} {m : List Bool} {as : List Ar} (h : ArgsOk K H U e ρ m vs as ws wd) : vs.length = m.length ∧ as.length = m.length ∧ ws.length = wd.length := by
  induction h with
  | nil => exact ⟨rfl, rfl, rfl⟩
  | io _ _ ih => exact ⟨congrArg _ ih.1, congrArg _ ih.2.1, ih.2.2⟩
  | tm _ ih => exact ⟨congrArg _ ih.1, congrArg _ ih.2.1, congrArg _ ih.2.2⟩
  | rv _ _ _ ih => exact ⟨congrArg _ ih.1, congrArg _ ih.2.1, ih.2.2⟩
theorem ArgsOk.ios {e : List (Option V)} {m : List Bool} {as : List Ar} (h : ArgsOk K H U e ρ m vs as ws wd) : (ioL m vs).length = (arIos as).length ∧ ∀ (i : Nat) (io : Io) (v : V), (arIos as)[i]? = some io → (ioL m vs)[i]? = some v → PlOk K H U e ρ v (.rt io.r io.p) := by
  induction h with
  | nil => exact ⟨rfl, fun i io v h => by simp [arIos] at h⟩
  | @io m v i vs as ws wd p _ ih =>
    refine ⟨by rw [ioL, arIos, List.length_cons, List.length_cons, ih.1], fun j io u h1 h2 => ?_⟩
    rw [arIos] at h1
    rw [ioL] at h2
    cases j with
    | zero => cases h1; cases h2; exact p
    | succ j => exact ih.2 j io u (by simpa using h1) (by simpa using h2)
  | tm _ ih => rw [ioL, arIos]; exact ih
  | rv _ _ _ ih => rw [ioL, arIos]; exact ih
theorem ArgsOk.lent {e : List (Option V)} {m : List Bool} {as : List Ar} (h : ArgsOk K H U e ρ m vs as ws wd) : ∀ {ds : List D}, arDs ρ as = some ds → ds.length = m.length ∧ lentD ρ (arIos as) = some (ioL m ds) := by
  induction h with
  | nil => intro ds q; cases q; exact ⟨rfl, rfl⟩
  | @io m v i vs as ws wd p _ ih =>
    intro ds q
    rw [arDs] at q
    obtain ⟨x, q1, q⟩ := Option.bind_eq_some_iff.mp q
    obtain ⟨r, q2, q⟩ := Option.map_eq_some_iff.mp q
    subst q
    obtain ⟨l1, l2⟩ := ih q2
    refine ⟨congrArg _ l1, ?_⟩
    obtain ⟨d0, x1, x2⟩ := Option.bind_eq_some_iff.mp q1
    rw [arIos, lentD, ioL, x1]
    show (getP d0 i.p).bind _ = _
    rw [x2]
    show (lentD ρ (arIos as)).map _ = _
    rw [l2]; rfl
  | tm _ ih =>
    intro ds q
    rw [arDs] at q
    obtain ⟨x, q1, q⟩ := Option.bind_eq_some_iff.mp q
    obtain ⟨r, q2, q⟩ := Option.map_eq_some_iff.mp q
    subst q
    obtain ⟨l1, l2⟩ := ih q2
    exact ⟨congrArg _ l1, l2⟩
  | rv _ _ _ ih =>
    intro ds q
    rw [arDs] at q
    obtain ⟨x, q1, q⟩ := Option.bind_eq_some_iff.mp q
    obtain ⟨r, q2, q⟩ := Option.map_eq_some_iff.mp q
    subst q
    obtain ⟨l1, l2⟩ := ih q2
    exact ⟨congrArg _ l1, l2⟩
theorem ArgsOk.seen {e : List (Option V)} {m : List Bool} {as : List Ar} {N : Addr → Prop} (h : ArgsOk K H U e ρ m vs as ws wd) : ∀ {ds : List D}, arDs ρ as = some ds → (∀ (i : Nat) (w : V) (d : D), ws[i]? = some w → wd[i]? = some d → Vw K H N w d) →
    (∀ q d v, PlOk K H U e ρ v q → plD ρ q = some d → Ar.rv q d ∈ as → Vw K H N v d) → ∀ (i : Nat) (v : V) (d : D), m[i]? = some false → vs[i]? = some v → ds[i]? = some d → Vw K H N v d := by
  induction h with
  | nil => intro ds q _ _ i v d h; simp at h
  | io _ _ ih =>
    intro ds q hw hs i v d h1 h2 h3
    rw [arDs] at q
    obtain ⟨x, q1, q⟩ := Option.bind_eq_some_iff.mp q
    obtain ⟨r, q2, q⟩ := Option.map_eq_some_iff.mp q
    subst q
    cases i with
    | zero => cases h1
    | succ i => exact ih q2 hw (fun q d v a b c => hs q d v a b (.tail _ c)) i v d (by simpa using h1) (by simpa using h2) (by simpa using h3)
  | tm _ ih =>
    intro ds q hw hs i v d h1 h2 h3
    rw [arDs] at q
    obtain ⟨x, q1, q⟩ := Option.bind_eq_some_iff.mp q
    obtain ⟨r, q2, q⟩ := Option.map_eq_some_iff.mp q
    subst q
    cases q1
    cases i with
    | zero => cases h2; cases h3; exact hw 0 _ _ rfl rfl
    | succ i => exact ih q2 (fun i w d a b => hw (i + 1) w d (by simpa using a) (by simpa using b)) (fun q d v a b c => hs q d v a b (.tail _ c)) i v d (by simpa using h1) (by simpa using h2) (by simpa using h3)
  | rv p1 p2 _ ih =>
    intro ds q hw hs i v d h1 h2 h3
    rw [arDs] at q
    obtain ⟨x, q1, q⟩ := Option.bind_eq_some_iff.mp q
    obtain ⟨r, q2, q⟩ := Option.map_eq_some_iff.mp q
    subst q
    cases q1
    cases i with
    | zero => cases h2; cases h3; exact hs _ _ _ p1 p2 (.head _)
    | succ i => exact ih q2 hw (fun q d v a b c => hs q d v a b (.tail _ c)) i v d (by simpa using h1) (by simpa using h2) (by simpa using h3)
theorem Sit.backAll (ρ0 : En) : ∀ {L : List Io} {ρ : En} {vs : List V} {outs : List D}, Sit K n H U σ hv ρ (τv ++ vs) (τd ++ outs) → rootsApart L → vs.length = L.length → outs.length = L.length →
    (∀ (i : Nat) (io : Io) (v : V), L[i]? = some io → vs[i]? = some v → ∃ d0 d1, rootD ρ0 io.r = some d0 ∧ getP d0 io.p = some d1 ∧ rootD ρ io.r = some (setP d0 io.p (.hl v))) → Sit K n H U σ hv (putE ρ0 ρ L outs) τv τd
  | [], ρ, vs, outs, I, _, h1, h2, _ => by
    have e1 : vs = [] := List.eq_nil_of_length_eq_zero h1
    have e2 : outs = [] := List.eq_nil_of_length_eq_zero h2
    subst e1; subst e2
    rw [List.append_nil, List.append_nil] at I
    simp only [putE]
    exact I
  | io :: L, ρ, [], outs, I, _, h1, h2, _ => by cases h1
  | io :: L, ρ, v :: vs, [], I, _, h1, h2, _ => by cases h2
  | io :: L, ρ, v :: vs, o :: outs, I, ha, h1, h2, hq => by
    have ap := List.pairwise_cons.mp ha
    obtain ⟨d0, d1, q1, q2, q3⟩ := hq 0 io v rfl rfl
    have I1 := (I.rotF (by have := Nat.succ.inj h1; have := Nat.succ.inj h2; omega)).back q3 (getP_setP q2 rfl)
    rw [setP_setP q2] at I1
    rw [putE, q1]
    refine I1.backAll ρ0 ap.2 (Nat.succ.inj h1) (Nat.succ.inj h2) fun i j u hj hu => ?_
    obtain ⟨e0, e1, x1, x2, x3⟩ := hq (i + 1) j u (by simpa using hj) (by simpa using hu)
    exact ⟨e0, e1, x1, x2, by rw [rootD_set_ne (ap.1 j (List.mem_of_getElem? hj))]; exact x3⟩
theorem putE_len (ρ0 : En) : ∀ (ρ : En) (L : List Io) (outs : List D), (putE ρ0 ρ L outs).length = ρ.length
  | ρ, [], _ => by simp only [putE]
  | ρ, io :: L, [] => by simp only [putE]
  | ρ, io :: L, o :: os => by
    rw [putE]
    cases rootD ρ0 io.r with
    | none => rfl
    | some d0 => show (putE ρ0 _ L os).length = _; rw [putE_len, List.length_set]
theorem putE_get (ρ0 : En) : ∀ {L : List Io} {ρ1 ρ2 : En} {outs : List D}, ρ1.length = ρ2.length → outs.length = L.length → (∀ io ∈ L, ∃ d0, rootD ρ0 io.r = some d0) → (∀ io ∈ L, io.r < ρ1.length) → (∀ (i : Nat) (β : B), (∀ io ∈ L, io.r ≠ i) → ρ1[i]? = some (some β) → ρ2[i]? = some (some β)) →
    ∀ (i : Nat) (β : B), (putE ρ0 ρ1 L outs)[i]? = some (some β) → (putE ρ0 ρ2 L outs)[i]? = some (some β)
  | [], ρ1, ρ2, outs, _, _, _, _, h, i, β, q => by
    simp only [putE] at q ⊢
    exact h i β (fun _ z => nomatch z) q
  | io :: L, ρ1, ρ2, [], _, h, _, _, _, _, _, _ => by cases h
  | io :: L, ρ1, ρ2, o :: os, hl, h2, hr, hlt, h, i, β, q => by
    obtain ⟨d0, e0⟩ := hr io (.head _)
    rw [putE, e0] at q ⊢
    refine putE_get ρ0 (by rw [List.length_set, List.length_set]; exact hl) (Nat.succ.inj h2) (fun j hj => hr j (.tail _ hj)) (fun j hj => by rw [List.length_set]; exact hlt j (.tail _ hj)) (fun j γ hj z => ?_) i β q
    by_cases c : io.r = j
    · subst c
      have := hlt io (.head _)
      rw [List.getElem?_set_self this] at z
      rw [List.getElem?_set_self (by omega)]
      exact z
    · rw [List.getElem?_set_ne c] at z ⊢
      exact h j γ (fun k hk => by
        cases hk with
        | head => exact c
        | tail _ hk => exact hj k hk) z
theorem Sit.weaken (I : Sit K n H U σ hv ρ2 τv τd) (hl : ρ.length = ρ2.length) (w : ∀ (i : Nat) (β : B), ρ[i]? = some (some β) → ρ2[i]? = some (some β)) : Sit K n H U σ hv ρ τv τd := by
  have l := I.len
  refine ⟨?_, by rw [hl]; exact l, I.nn⟩
  rw [hl]
  refine I.ok.weaken (by simp [hl]) fun i β h => ?_
  by_cases hi : i < ρ.length
  · rw [List.getElem?_append_left hi] at h
    rw [List.getElem?_append_left (by omega)]
    exact w i β h
  · rw [List.getElem?_append_right (by omega)] at h
    rw [List.getElem?_append_right (by omega), ← hl]
    exact h
theorem Sit.sets (I : Sit K n H U σ hv ρ (τv ++ ws) (τd ++ wd)) (hl : ws.length = wd.length) (i : Nat) {w : V} {d : D} (h1 : ws[i]? = some w) (h2 : wd[i]? = some d) : (σ ++ hv ++ (τv ++ ws).map some)[ρ.length + τd.length + i]? = some (some w) ∧ (ρ ++ owns (τd ++ wd))[ρ.length + τd.length + i]? = some (some (.own d)) := by
  have l := I.len
  have tl := I.tl
  have tl : τv.length = τd.length := by simp at tl; omega
  constructor
  · rw [List.getElem?_append_right (by simp; omega), List.getElem?_map, List.getElem?_append_right (by simp; omega)]
    rw [show ρ.length + τd.length + i - (σ ++ hv).length - τv.length = i by simp; omega, h1]; rfl
  · unfold owns
    rw [List.getElem?_append_right (by omega), List.getElem?_map, List.getElem?_append_right (by omega)]
    rw [show ρ.length + τd.length + i - ρ.length - τd.length = i by omega, h2]; rfl
def callR (G : List D → Option (D × List D)) (as : List Ar) (ρ1 : En) : Option (D × En) := (arDs ρ1 as).bind fun ds =>
  if rootsApart (arIos as) ∧ as.all (rvOk (arIos as)) = true then (G ds).bind fun r => if r.2.length = (arIos as).length then some (r.1, finE ρ1 (arIos as) r.2) else none else none
theorem Sit.callI {mask : List Bool} {G : List D → Option (D × List D)} {as : List Ar} {H1 : Hp} {U1 : Addr → Prop} {Q : VK} {ρ1 : En} (I1 : Sit K n H1 U1 σ hv ρ1 (τv ++ ws) (τd ++ wd)) (hl : ws.length = wd.length) (st1 : Stp U H U1 H1) (ao : ArgsOk K H1 U1 (σ ++ hv) ρ1 mask vs as ws wd)
    (h : callR G as ρ1 = some (d, ρ')) (k : ∀ v H' U', Sit K n H' U' σ hv ρ' (τv ++ [v]) (τd ++ [d]) → Stp U H U' H' → Q v H') : spI K mask G vs H1 Q E := by
  obtain ⟨ds, h2, h⟩ := Option.bind_eq_some_iff.mp h
  have c : rootsApart (arIos as) ∧ as.all (rvOk (arIos as)) = true := by
    by_cases c : rootsApart (arIos as) ∧ as.all (rvOk (arIos as)) = true
    · exact c
    · rw [if_neg c] at h; cases h
  rw [if_pos c] at h
  obtain ⟨⟨d', outs⟩, h3, h⟩ := Option.bind_eq_some_iff.mp h
  have h : (if outs.length = (arIos as).length then some (d', finE ρ1 (arIos as) outs) else none) = some (d, ρ') := h
  have co : outs.length = (arIos as).length := by
    by_cases co : outs.length = (arIos as).length
    · exact co
    · rw [if_neg co] at h; cases h
  rw [if_pos co] at h
  cases h
  have hlen := ao.len
  obtain ⟨il, iok⟩ := ao.ios
  obtain ⟨dl, hlent⟩ := ao.lent h2
  have I2 := I1.lendAll c.1 hlent il iok
  have l2 := I2.len
  have tl1 := I1.tl
  have lh : (holeE ρ1 (arIos as) (ioL mask vs)).length = ρ1.length := holeE_len _ _ _
  have idl : (ioL mask vs).length = (ioL mask ds).length := ioL_len hlen.1 dl
  -- what is lent is parted from all else
  have ok2 : EnvOk K H1 U1 ρ1.length ((σ ++ hv ++ (τv ++ ws).map some) ++ (ioL mask vs).map some) ((holeE ρ1 (arIos as) (ioL mask vs) ++ owns (τd ++ wd)) ++ owns (ioL mask ds)) := by
    have := I2.ok
    rw [lh, List.map_append, List.map_append (l₁ := τd ++ wd), ← List.append_assoc, ← List.append_assoc] at this
    exact this
  have lE : (σ ++ hv ++ (τv ++ ws).map some).length = (holeE ρ1 (arIos as) (ioL mask vs) ++ owns (τd ++ wd)).length := by
    unfold owns
    have l1 := I1.len
    simp [lh] at tl1 ⊢
    omega
  have hm : ρ1.length ≤ (σ ++ hv ++ (τv ++ ws).map some).length := by have l1 := I1.len; simp; omega
  obtain ⟨Ut, su, okT, seen, back⟩ := ok2.call lE hm (owns_noAli _)
  have lentM := lentD_mem hlent
  refine ⟨hlen.1, ds, Ut, d, outs, dl, okT, ao.seen h2 (fun i w x hw hx => ?_) (fun q x u pq pd mem => ?_), h3, fun v H2 U2 ok3 st3 => ?_⟩
  · -- what is under way
    obtain ⟨g1, g2⟩ := I2.drop (vs := ioL mask vs) (ds := ioL mask ds) idl |>.sets hl i hw hx
    rw [lh] at g1
    obtain ⟨F, r, nf⟩ := (seen _ w x g1).1 (by rw [lh] at g2; exact g2)
    exact r.view nf
  · -- what is only seen
    cases q with
    | ro y =>
      have pd : some y = some x := pd
      cases pd
      have pq : Vw K H1 (fun b => ¬ U1 b) u x := pq
      exact pq.mono fun b nb z => nb (su b z)
    | rt r p =>
      obtain ⟨hr, vr, d0, er, hd0, hg, hp⟩ := pq
      have pd1 : (rootD ρ1 r).bind (getP · p) = some x := pd
      rw [hd0] at pd1
      have pd2 : getP d0 p = some x := pd1
      have er' : (σ ++ hv ++ (τv ++ ws).map some)[r]? = some (some vr) := by rw [List.getElem?_append_left (by have l1 := I1.len; simp; omega)]; exact er
      have chk : ∀ io ∈ arIos as, io.r ≠ r ∨ apartP io.p p = true := by
        have := List.all_eq_true.mp c.2 _ mem
        have := List.all_eq_true.mp this
        intro io hio
        have := this io hio
        by_cases z : io.r = r
        · right; simpa [z] using this
        · left; exact z
      by_cases inL : ∃ (i : Nat) (io : Io), (arIos as)[i]? = some io ∧ io.r = r
      · obtain ⟨i, io, hi, e⟩ := inL
        subst e
        obtain ⟨v2, hv2, q⟩ := holeE_in (vs := ioL mask vs) c.1 il hi hd0 fun j hj => let ⟨a, _, b, _⟩ := lentM j hj; ⟨a, b⟩
        obtain ⟨a0, a1, b0, b1⟩ := lentM io (List.mem_of_getElem? hi)
        rw [hd0] at b0; cases b0
        have q' := rootD_of q
        obtain ⟨F, rr, nf⟩ := (seen io.r vr _ er').1 (by rw [List.getElem?_append_left (by omega)]; exact q')
        have ap := (chk io (List.mem_of_getElem? hi)).resolve_left fun z => z rfl
        exact rr.sub (by rw [getP_apart ap b1 rfl]; exact pd2) hp nf
      · have q : (holeE ρ1 (arIos as) (ioL mask vs))[r]? = some (some (.own d0)) := by
          rw [holeE_out fun io hio z => by
            obtain ⟨i, hi⟩ := List.mem_iff_getElem?.mp hio
            exact inL ⟨i, io, hi, z⟩]
          exact rootD_of hd0
        obtain ⟨F, rr, nf⟩ := (seen r vr _ er').1 (by rw [List.getElem?_append_left (by omega)]; exact q)
        exact rr.sub pd2 hp nf
  · -- all is given back
    obtain ⟨U3, ok4, st4⟩ := back H2 U2 _ _ ok3 st3 fun b hb => by
      cases hb with
      | head => exact .inr ⟨d, rfl⟩
      | tail _ hb => exact owns_only outs b hb
    have I3 : Sit K n H2 U3 σ hv (prune (holeE ρ1 (arIos as) (ioL mask vs))) (τv ++ ws ++ (v :: ioL mask vs)) (τd ++ wd ++ (d :: outs)) := by
      refine ⟨?_, by rw [prune_len, lh]; exact I1.len, I1.nn⟩
      rw [prune_len, lh]
      have ok5 : EnvOk K H2 U3 ρ1.length (σ ++ hv ++ (τv ++ ws).map some ++ (v :: ioL mask vs).map some) ((prune (holeE ρ1 (arIos as) (ioL mask vs)) ++ owns (τd ++ wd)) ++ owns (d :: outs)) := by
        refine ok4.weaken (by rw [List.length_append, List.length_append, List.length_append, prune_len, prune_len, List.length_append]; rfl) fun i β hβ => ?_
        by_cases hi : i < ρ1.length + (τd ++ wd).length
        · rw [List.getElem?_append_left (by simp [prune_len, owns, lh] at hi ⊢; omega)] at hβ
          rw [List.getElem?_append_left (by simp [prune_len, owns, lh] at hi ⊢; omega)]
          exact prune_app (owns_noAli _) i β hβ
        · rw [List.getElem?_append_right (by simp [prune_len, owns, lh] at hi ⊢; omega)] at hβ
          rw [List.getElem?_append_right (by simp [prune_len, owns, lh] at hi ⊢; omega)]
          simp [prune_len, owns, lh] at hβ ⊢
          exact hβ
      rw [List.map_append (l₁ := τv ++ ws), List.map_append (l₁ := τd ++ wd), ← List.append_assoc, ← List.append_assoc]
      exact ok5
    have I4 := I3.dropMid hl (by rw [List.length_cons, List.length_cons, il, co])
    have I5 : Sit K n H2 U3 σ hv (prune (holeE ρ1 (arIos as) (ioL mask vs))) (τv ++ [v] ++ ioL mask vs) (τd ++ [d] ++ outs) := by
      rw [← List.append_cons, ← List.append_cons]; exact I4
    have I6 := I5.backAll ρ1 (L := arIos as) c.1 il co fun i io u hi hu => by
      obtain ⟨a0, a1, b0, b1⟩ := lentM io (List.mem_of_getElem? hi)
      obtain ⟨v2, hv2, q⟩ := holeE_in (vs := ioL mask vs) c.1 il hi b0 fun j hj => let ⟨a, _, b, _⟩ := lentM j hj; ⟨a, b⟩
      rw [hu] at hv2; cases hv2
      exact ⟨a0, a1, b0, b1, by unfold rootD; rw [prune_own (rootD_of q)]⟩
    refine k v H2 U3 (I6.weaken ?_ ?_) (st1.trans st4)
    · unfold finE
      rw [putE_len, putE_len, prune_len, prune_len, holeE_len, holeE_len]
    · unfold finE
      refine putE_get ρ1 (by rw [prune_len, prune_len, holeE_len, holeE_len]) co (fun io hio => let ⟨a, _, b, _⟩ := lentM io hio; ⟨a, b⟩) (fun io hio => ?_) fun i β hi hβ => ?_
      · obtain ⟨a, _, b, _⟩ := lentM io hio
        rw [prune_len, holeE_len]
        exact (List.getElem?_eq_some_iff.mp (rootD_of b)).1
      · unfold prune at hβ ⊢
        rw [List.getElem?_map, holeE_out hi] at hβ ⊢
        rw [← hβ]
        have sim : Sim (holeE ρ1 (arIos as) (ioL mask vs)) (holeE ρ1 (arIos as) ((arIos as).map fun _ => V.non)) := holeE_sim c.1 hlent il (by simp)
        congr 1
        funext b
        exact pruneB_sim sim b
instance sm_callI {ta : TA} {mask : List Bool} {G : List D → Option (D × List D)} {fa : En → Option (List Ar × En)} [A : SC K n mask ta fa] : SM K n (tCall (spI K mask G) [] E ta) (fun ρ => (fa ρ).bind fun a => callR G a.1 a.2) := ⟨fun {σ hv H U ρ ρ' τv τd d Q} I h k => by
  obtain ⟨⟨as, ρ1⟩, h1, h⟩ := Option.bind_eq_some_iff.mp h
  refine A.s I h1 fun vs ws wd H1 U1 I1 hl st1 ao => ?_
  show spI K mask G (vs ++ []) H1 Q E
  rw [List.append_nil]
  exact I1.callI hl st1 ao h k⟩
end
end VL
namespace VL
open PySem L2
section
variable {K : W.Frag} {n : Nat} {H H' H1 H2 : Hp} {U U' : Addr → Prop} {σ hv : List (Option V)} {ρ ρ' : En} {τv vs : List V} {τd ds : List D} {v : V} {d : D} {E : Ends}
def OwnL (K : W.Frag) (H H' : Hp) (vs : List V) (ds : List D) : Prop := vs.length = ds.length ∧ ∃ Fs : Nat → Addr → Prop, (∀ i j b, Fs i b → Fs j b → i = j) ∧ (∀ i b, Fs i b → H b = none ∧ Mut (H' b)) ∧ ∀ (i : Nat) (v : V) (d : D), vs[i]? = some v → ds[i]? = some d → Rep K H' (Fs i) v d
theorem OwnL.nil : OwnL K H H' [] [] := ⟨rfl, fun _ _ => False, fun _ _ _ z => z.elim, fun _ _ z => z.elim, fun i v d h => by simp at h⟩
theorem OwnL.cons (o : Own K H H1 v d) (s1 : Same H1 H2) (t : OwnL K H1 H2 vs ds) (s0 : Same H H1) : OwnL K H H2 (v :: vs) (d :: ds) := by
  obtain ⟨G, r, f⟩ := o
  obtain ⟨hl, Fs, dj, fr, rp⟩ := t
  have Gn : ∀ b, G b → ∀ i, ¬ Fs i b := fun b z i w => by
    obtain ⟨u, q⟩ := mut_some (f b z).2
    rw [(fr i b w).1] at q; cases q
  refine ⟨by rw [List.length_cons, List.length_cons, hl], fun i b => match i with | 0 => G b | i + 1 => Fs i b, fun i j b hi hj => ?_, fun i b hb => ?_, fun i x y hx hy => ?_⟩
  · cases i with
    | zero => cases j with
      | zero => rfl
      | succ j => exact absurd hj (Gn b hi j)
    | succ i => cases j with
      | zero => exact absurd hi (Gn b hj i)
      | succ j => rw [dj i j b hi hj]
  · cases i with
    | zero => exact ⟨(f b hb).1, mut_same (f b hb).2 s1⟩
    | succ i =>
      refine ⟨?_, (fr i b hb).2⟩
      cases q : H b with
      | none => rfl
      | some o => have := (fr i b hb).1; rw [s0 b o q] at this; cases this
  · cases i with
    | zero => cases hx; cases hy; exact r.same s1
    | succ i => exact rp i x y (by simpa using hx) (by simpa using hy)
theorem OwnL.node {k : Kd} {p : Addr} {o : HO} (h : OwnL K H H1 vs ds) (s : Same H H1) (hp : H1 p = none) (hold : (k = .tup ∧ o = .tup vs) ∨ (imm k = false ∧ fits K k vs.length ∧ ∃ dx, o = ho k dx vs)) : Own K H (upd H1 p o) (.ref p) (.nd k ds) := by
  obtain ⟨hl, Fs, dj, fr, rp⟩ := h
  have s2 : Same H1 (upd H1 p o) := same_new hp o
  have np : ∀ i, ¬ Fs i p := fun i z => by
    obtain ⟨u, w⟩ := mut_some (fr i p z).2
    rw [hp] at w; cases w
  have hp0 : H p = none := s.free hp
  refine ⟨fun b => (∃ i, Fs i b) ∨ (imm k = false ∧ b = p), .nd Fs ?_ hl dj (fun i b hb => ⟨.inl ⟨i, hb⟩, fun _ z => by rw [z] at hb; exact np i hb⟩) fun i v d hv hd => (rp i v d hv hd).same s2, fun b hb => ?_⟩
  · rcases hold with ⟨h1, h2⟩ | ⟨h1, h2, dx, h3⟩
    · subst h1
      show upd H1 p o p = some (.tup vs)
      rw [upd_same, h2]
    · exact Hold.put h1 (.inr ⟨h1, rfl⟩) ⟨h1, h2, dx, by rw [upd_same, h3]⟩
  · rcases hb with ⟨i, hb⟩ | ⟨h1, rfl⟩
    · exact ⟨(fr i b hb).1, mut_same (fr i b hb).2 s2⟩
    · refine ⟨hp0, ?_⟩
      rcases hold with ⟨z, _⟩ | ⟨_, _, dx, h3⟩
      · subst z; cases h1
      · rw [upd_same, h3]; exact mut_ho (a := b) h1
class SQA (K : W.Frag) (n : Nat) (t : TA) (f : outParam (En → Option (List D))) : Prop where
  s : ∀ {σ hv : List (Option V)} {H : Hp} {U : Addr → Prop} {ρ : En} {τv : List V} {τd : List D} {ds : List D} {Q : List V → Hp → Prop}, Sit K n H U σ hv ρ τv τd → f ρ = some ds → (∀ vs H', Same H H' → OwnL K H H' vs ds → Q vs H') → t σ H Q
instance sqa_nil : SQA K n tNil (fun _ => some []) := ⟨fun I h k => by cases h; exact k [] _ (Same.refl _) .nil⟩
instance sqa_cons {ta : TE} {tr : TA} {fa : En → Option D} {fr : En → Option (List D)} [A : SQ K n ta fa] [R : SQA K n tr fr] : SQA K n (tCons ta tr) (consA fa fr) := ⟨fun {σ hv H U ρ τv τd ds Q} I h k => by
  obtain ⟨a, ha, h⟩ := Option.bind_eq_some_iff.mp h
  obtain ⟨r, hr, h⟩ := Option.map_eq_some_iff.mp h
  cases h
  refine A.o I ha fun x H1 s1 o1 => ?_
  exact R.s (I.same s1) hr fun xs H2 s2 o2 => k (x :: xs) H2 (s1.trans s2) (OwnL.cons o1 s2 o2 s1)⟩
def ndQ (k : Kd) (f : En → Option (List D)) (ρ : En) : Option D := (f ρ).bind fun r => if r.length ≤ sizeLine then some (.nd k r) else none
instance sf_tup {ta : TA} {fa : En → Option (List D)} [A : SQA K n ta fa] : SF K n (tTup ta) (ndQ .tup fa) := ⟨fun {σ hv H U ρ τv τd d Q} I h k => by
  obtain ⟨a, ha, h⟩ := Option.bind_eq_some_iff.mp h
  by_cases c : a.length ≤ sizeLine
  · rw [if_pos c] at h
    cases h
    refine A.s I ha fun xs H1 s1 o => ⟨by rw [o.1]; exact c, fun p hp => ?_⟩
    exact k _ _ (s1.trans (same_new hp _)) (o.node s1 hp (.inl ⟨rfl, rfl⟩))
  · rw [if_neg c] at h; cases h⟩
instance sf_lst {ta : TA} {fa : En → Option (List D)} [A : SQA K n ta fa] : SF K n (tLst ta) (ndQ .lst fa) := ⟨fun {σ hv H U ρ τv τd d Q} I h k => by
  obtain ⟨a, ha, h⟩ := Option.bind_eq_some_iff.mp h
  by_cases c : a.length ≤ sizeLine
  · rw [if_pos c] at h
    cases h
    refine A.s I ha fun xs H1 s1 o => ⟨by rw [o.1]; exact c, fun p hp => ?_⟩
    exact k _ _ (s1.trans (same_new hp _)) (o.node s1 hp (.inr ⟨rfl, trivial, 0, rfl⟩))
  · rw [if_neg c] at h; cases h⟩
theorem VwL.node {k : Kd} {p : Addr} {o : HO} (h : VwL K H T1 vs ds) (hp : H p = none) (hold : (k = .tup ∧ o = .tup vs) ∨ (imm k = false ∧ fits K k vs.length ∧ ∃ dx, o = ho k dx vs)) : Vw K (upd H p o) T1 (.ref p) (.nd k ds) := by
  refine .nd (fun _ => trivial) ?_ h.1 fun i v d hv hd => (h.2 i v d hv hd).same (same_new hp o)
  rcases hold with ⟨h1, h2⟩ | ⟨h1, h2, dx, h3⟩
  · subst h1
    exact ⟨trivial, by show upd H p o p = some (.tup vs); rw [upd_same, h2]⟩
  · exact CellM.cell ⟨h1, h2, dx, by rw [upd_same, h3]⟩
instance (priority := 800) sv_tup {ta : TA} {fa : En → Option (List D)} [A : SA K n ta fa] : SV K n (tTup ta) (ndQ .tup fa) := ⟨fun {σ hv H U ρ τv τd d Q} I h k => by
  obtain ⟨a, ha, h⟩ := Option.bind_eq_some_iff.mp h
  by_cases c : a.length ≤ sizeLine
  · rw [if_pos c] at h
    cases h
    refine A.s I ha fun xs H1 s1 o => ⟨by rw [o.1]; exact c, fun p hp => ?_⟩
    exact k _ _ (s1.trans (same_new hp _)) (o.node hp (.inl ⟨rfl, rfl⟩))
  · rw [if_neg c] at h; cases h⟩
instance (priority := 800) sv_lst {ta : TA} {fa : En → Option (List D)} [A : SA K n ta fa] : SV K n (tLst ta) (ndQ .lst fa) := ⟨fun {σ hv H U ρ τv τd d Q} I h k => by
  obtain ⟨a, ha, h⟩ := Option.bind_eq_some_iff.mp h
  by_cases c : a.length ≤ sizeLine
  · rw [if_pos c] at h
    cases h
    refine A.s I ha fun xs H1 s1 o => ⟨by rw [o.1]; exact c, fun p hp => ?_⟩
    exact k _ _ (s1.trans (same_new hp _)) (o.node hp (.inr ⟨rfl, trivial, 0, rfl⟩))
  · rw [if_neg c] at h; cases h⟩
open Classical in
noncomputable def intD (C : Int → Int → Prop) (g : Int → Int → V) (a b : D) : Option D := match a, b with
  | .sc (.int i), .sc (.int j) => if C i j then some (.sc (g i j)) else none
  | _, _ => none
def int0 (g : Int → Int → V) (a b : D) : Option D := match a, b with
  | .sc (.int i), .sc (.int j) => some (.sc (g i j))
  | _, _ => none
instance op_int0 {g : Int → Int → V} : OpD K (rI0 g) (int0 g) := ⟨fun {H x y dx dy d Q} w1 w2 h k => by
  unfold int0 at h
  split at h
  · next i j => cases h; exact ⟨i, j, w1.scal, w2.scal, k _ H (Same.refl H) (.sc _)⟩
  · cases h⟩
instance op_intD {C : Int → Int → Prop} {g : Int → Int → V} : OpD K (rI C g) (intD C g) := ⟨fun {H x y dx dy d Q} w1 w2 h k => by
  unfold intD at h
  split at h
  · next i j =>
    by_cases c : C i j
    · rw [if_pos c] at h; cases h; exact ⟨i, j, w1.scal, w2.scal, c, k _ H (Same.refl H) (.sc _)⟩
    · rw [if_neg c] at h; cases h
  · cases h⟩
mutual
def toPy : D → Option PyData
  | .sc .non => some .none
  | .sc (.bl b) => some (.bool b)
  | .sc (.int i) => some (.int i)
  | .sc (.str x) => some (.str x)
  | .nd .tup cs => (toPyL cs).map .tuple
  | .nd .lst cs => (toPyL cs).map .list
  | .nd .frl cs => (toPyL cs).map .list
  | _ => none
def toPyL : List D → Option (List PyData)
  | [] => some []
  | d :: ds => (toPy d).bind fun x => (toPyL ds).map (x :: ·)
end
theorem vw_list : ∀ {ds : List D} {vs : List V} {ps : List PyData}, vs.length = ds.length → (∀ (i : Nat) (v : V) (d : D) (p : PyData), vs[i]? = some v → ds[i]? = some d → toPy d = some p → RdD K H v p) → toPyL ds = some ps → RdAll K H vs ps
  | [], [], _, _, _, h => by rw [toPyL] at h; cases h; exact .nil
  | [], _ :: _, _, h, _, _ => by cases h
  | _ :: _, [], _, h, _, _ => by cases h
  | d :: ds, v :: vs, ps, hl, hk, h => by
    rw [toPyL] at h
    obtain ⟨x, h1, h⟩ := Option.bind_eq_some_iff.mp h
    obtain ⟨r, h2, h⟩ := Option.map_eq_some_iff.mp h
    subst h
    exact .cons (hk 0 v d x rfl rfl h1) (vw_list (Nat.succ.inj hl) (fun i v d p a b c => hk (i + 1) v d p (by simpa using a) (by simpa using b) c) h2)
theorem Vw.py {N : Addr → Prop} (h : Vw K H N v d) : ∀ {p : PyData}, toPy d = some p → RdD K H v p := by
  induction h with
  | sc v =>
    intro p e
    cases v with
    | non => rw [toPy] at e; cases e; exact .non
    | bl b => rw [toPy] at e; cases e; exact .bl b
    | int i => rw [toPy] at e; cases e; exact .int i
    | str x => rw [toPy] at e; cases e; exact .str x
    | byt _ => simp [toPy] at e
    | flt _ => simp [toPy] at e
    | ref _ => simp [toPy] at e
    | ty _ => simp [toPy] at e
  | hl v => intro p e; simp [toPy] at e
  | @nd a k vs cs h1 h2 h3 _ ih =>
    intro p e
    cases k with
    | tup =>
      rw [toPy] at e
      obtain ⟨ps, e1, e2⟩ := Option.map_eq_some_iff.mp e
      subst e2
      exact .tup (SqT.of h2.2) (vw_list h3 (fun i v d p x y z => ih i v d x y z) e1)
    | lst =>
      rw [toPy] at e
      obtain ⟨ps, e1, e2⟩ := Option.map_eq_some_iff.mp e
      subst e2
      exact .lst (.inl (.inl h2.2)) (vw_list h3 (fun i v d p x y z => ih i v d x y z) e1)
    | frl =>
      rw [toPy] at e
      obtain ⟨ps, e1, e2⟩ := Option.map_eq_some_iff.mp e
      subst e2
      exact .lst (FrL.sq h2.2) (vw_list h3 (fun i v d p x y z => ih i v d x y z) e1)
    | _ => simp [toPy] at e
def rEqD (K : W.Frag) : R2 := fun x y H Q => ∃ dx dy, RdD K H x dx ∧ RdD K H y dy ∧ dx.canLay0 = true ∧ dy.canLay0 = true ∧ dx.depth ≤ 60 ∧ Q (.bl (PyData.eqv dx dy)) H
def rNeD (K : W.Frag) : R2 := fun x y H Q => ∃ dx dy, RdD K H x dx ∧ RdD K H y dy ∧ dx.canLay0 = true ∧ dy.canLay0 = true ∧ dx.depth ≤ 60 ∧ Q (.bl (!PyData.eqv dx dy)) H
theorem op_eqV {X : Cx} (hu : X.A.units + 64 < cLine) : OpR X (compareOp .Eq) (rEqD X.K) := op_eqD hu
theorem op_neV {X : Cx} (hu : X.A.units + 64 < cLine) : OpR X (compareOp .NotEq) (rNeD X.K) := op_neD hu
def eqP (g : Bool → Bool) (a b : D) : Option D := (toPy a).bind fun x => (toPy b).bind fun y => if x.canLay0 = true ∧ y.canLay0 = true ∧ x.depth ≤ 60 then some (.sc (.bl (g (PyData.eqv x y)))) else none
instance op_eqP : OpD K (rEqD K) (eqP id) := ⟨fun {H x y dx dy d Q} w1 w2 h k => by
  obtain ⟨a, h1, h⟩ := Option.bind_eq_some_iff.mp h
  obtain ⟨b, h2, h⟩ := Option.bind_eq_some_iff.mp h
  by_cases c : a.canLay0 = true ∧ b.canLay0 = true ∧ a.depth ≤ 60
  · rw [if_pos c] at h; cases h
    exact ⟨a, b, w1.py h1, w2.py h2, c.1, c.2.1, c.2.2, k _ H (Same.refl H) (.sc _)⟩
  · rw [if_neg c] at h; cases h⟩
instance op_neP : OpD K (rNeD K) (eqP (!·)) := ⟨fun {H x y dx dy d Q} w1 w2 h k => by
  obtain ⟨a, h1, h⟩ := Option.bind_eq_some_iff.mp h
  obtain ⟨b, h2, h⟩ := Option.bind_eq_some_iff.mp h
  by_cases c : a.canLay0 = true ∧ b.canLay0 = true ∧ a.depth ≤ 60
  · rw [if_pos c] at h; cases h
    exact ⟨a, b, w1.py h1, w2.py h2, c.1, c.2.1, c.2.2, k _ H (Same.refl H) (.sc _)⟩
  · rw [if_neg c] at h; cases h⟩
end
end VL
namespace VL
open PySem PySem.Spec PyProof.Rows L2
section
variable {κ : Type} [DecidableEq κ]
def posK (k : κ) : List κ → Option Nat
  | [] => none
  | g :: r => if g = k then some 0 else (posK k r).map (· + 1)
theorem posK_val {k : κ} : ∀ {ks : List κ} {vs : List V}, ks.length = vs.length → valV (ks.zip vs) k = (posK k ks).bind (vs[·]?)
  | [], [], _ => rfl
  | [], _ :: _, h => by cases h
  | _ :: _, [], h => by cases h
  | g :: r, v :: vs, h => by
    rw [List.zip_cons_cons, posK]
    by_cases c : g = k
    · rw [valV_pos (by exact c), if_pos c]; rfl
    · rw [valV_neg (by exact c), if_neg c, posK_val (Nat.succ.inj h)]
      cases posK k r with
      | none => rfl
      | some i => simp
theorem posK_lt {k : κ} : ∀ {ks : List κ} {i : Nat}, posK k ks = some i → i < ks.length
  | [], _, h => by cases h
  | g :: r, i, h => by
    rw [posK] at h
    by_cases c : g = k
    · rw [if_pos c] at h; cases h; exact Nat.succ_pos _
    · rw [if_neg c] at h
      obtain ⟨j, h1, h2⟩ := Option.map_eq_some_iff.mp h
      subst h2
      exact Nat.succ_lt_succ (posK_lt h1)
theorem posK_any {k : κ} : ∀ {ks : List κ} {vs : List V}, ks.length = vs.length → ((ks.zip vs).any fun kv => decide (kv.1 = k)) = (posK k ks).isSome
  | [], [], _ => rfl
  | [], _ :: _, h => by cases h
  | _ :: _, [], h => by cases h
  | g :: r, v :: vs, h => by
    rw [List.zip_cons_cons, posK, List.any_cons]
    by_cases c : g = k
    · rw [if_pos c]; simp [c]
    · rw [if_neg c, posK_any (Nat.succ.inj h)]
      cases posK k r <;> simp [c]
end
def keyOf : D → Option Key
  | .sc (.int i) => some (.inl i)
  | .sc (.str x) => some (.inr x)
  | _ => none
def keysOf : List D → Option (List Key)
  | [] => some []
  | d :: r => (keyOf d).bind fun k => (keysOf r).map (k :: ·)
section
variable {K : W.Frag} {n : Nat} {H H' H1 H2 : Hp} {U U' : Addr → Prop} {σ hv : List (Option V)} {ρ ρ' : En} {τv vs : List V} {τd ds : List D} {v y : V} {d : D} {E : Ends} {N : Addr → Prop}
theorem Vw.key {k : Key} (h : Vw K H N v d) (e : keyOf d = some k) : v = kV k := by
  unfold keyOf at e
  split at e
  · cases e; exact h.scal
  · cases e; exact h.scal
  · cases e
theorem keys_vs : ∀ {cs : List D} {vs : List V} {ks : List Key}, vs.length = cs.length → (∀ (i : Nat) (v : V) (d : D), vs[i]? = some v → cs[i]? = some d → Vw K H N v d) → keysOf cs = some ks → vs = ks.map kV
  | [], [], _, _, _, h => by rw [keysOf] at h; cases h; rfl
  | [], _ :: _, _, h, _, _ => by cases h
  | _ :: _, [], _, h, _, _ => by cases h
  | d :: cs, v :: vs, ks, hl, hk, h => by
    rw [keysOf] at h
    obtain ⟨x, h1, h⟩ := Option.bind_eq_some_iff.mp h
    obtain ⟨r, h2, h⟩ := Option.map_eq_some_iff.mp h
    subst h
    rw [List.map_cons, (hk 0 v d rfl rfl).key h1, keys_vs (Nat.succ.inj hl) (fun i v d a b => hk (i + 1) v d (by simpa using a) (by simpa using b)) h2]
def dkPos (d i : D) : Option (Option Nat) := match d, i with
  | .nd (.dic ks) _, i => (keyOf i).map fun k => posK k ks
  | .nd (.dit ks) _, .nd .tup cs => (keysOf cs).map fun k => posK k ks
  | _, _ => none
theorem Cell.dget {a : Addr} {k : Kd} {cs : List D} {dy : D} {o : Option Nat} (hc : Cell K H a k vs) (hl : vs.length = cs.length) (w : Vw K H N y dy) (h : dkPos (.nd k cs) dy = some o) : DGet H a y (o.bind (vs[·]?)) := by
  unfold dkPos at h
  split at h
  · next ks _ i e =>
    cases e
    obtain ⟨kk, h1, h2⟩ := Option.map_eq_some_iff.mp h
    subst h2
    exact .inl ⟨_, kk, hc.2, w.key h1, (posK_val hc.1).symm⟩
  · next ks _ cs' e =>
    cases e
    obtain ⟨kk, h1, h2⟩ := Option.map_eq_some_iff.mp h
    subst h2
    obtain ⟨b, us, rfl, _, hb, hl2, kid⟩ := w.node
    have e := keys_vs hl2 kid h1
    exact .inr ⟨_, kk, b, hc.2, rfl, by rw [← e]; exact hb.2, (posK_val hc.1).symm⟩
  · cases h
def rIxD : R2 := fun x y H Q => ∃ a v, x = .ref a ∧ DGet H a y (some v) ∧ Q v H
def rIxU (K : W.Frag) : R2 := fun x y H Q => rIx K x y H Q ∨ rIxD x y H Q
theorem ix_dictR {X : Cx} (hu : X.A.units + 1 < cLine) : IxR X rIxD := by
  intro value slice pins s σ H x y v u Q I rx ry h hs
  obtain ⟨a, w, rfl, g, q⟩ := h
  cases rx
  have hT := dict_typeIs I g
  unfold subscriptTail
  refine wpAny_bind ?_
  rw [getitemInPython_of_ne hT.not_modules]
  refine wpAny_bind (wpAny_specialOf hT PySem.F.slot_dict_getitem.lookup ?_)
  have fin : wpAny (model X.prog X.w) X.A (subscripted slice false (.ref a) u) (fun r s₃ => wpAny (model X.prog X.w) X.A (letTemporaryGo value (.ref a) r >>= fun _ => pure r) (EP X pins σ Q) X.xe s₃) X.xe s := by
    rw [hs]
    exact wpAny_operating (d_getItem hu I g ry fun w' s3 I3 rw' => wpAny_bind (wpAny_letTemporaryGo (wpAny_pure ⟨w, H, I3, rw', q⟩)))
  first
    | exact wpAny_pure (wpAny_bind fin)
    | exact wpAny_bind (wpAny_pure (wpAny_bind fin))
    | exact wpAny_bind fin
theorem ix_any {X : Cx} (hu : X.A.units + 1 < cLine) : IxR X (rIxU X.K) := IxR.or ix_seq (ix_dictR hu)
def ixU (d i : D) : Option Nat := match ixD d i with
  | some j => some j
  | none => (dkPos d i).join
instance ix_anyD : IxD K (rIxU K) ixU ixS where
  t := fun w2 h q => .inl (ix_seqD.t w2 h q)
  s := fun {H a k vs cs y u dy i Q} hc hl w2 h hu q => by
    unfold ixU at h
    split at h
    · next j e => cases h; exact .inl (ix_seqD.s hc hl w2 e hu q)
    · cases e : dkPos (.nd k cs) dy with
      | none => rw [e] at h; cases h
      | some o =>
        rw [e] at h
        have h : o = some i := h
        subst h
        have g := hc.dget hl w2 e
        have : (some i).bind (vs[·]?) = some u := hu
        rw [this] at g
        exact .inr ⟨a, u, rfl, g, q⟩
theorem OpR.or {X : Cx} {f : Value → Value → Sem Value} {r r' : R2} (h : OpR X f r) (h' : OpR X f r') : OpR X f (fun x y H Q => r x y H Q ∨ r' x y H Q) := by
  intro pins s σ H x y v u Q I rx ry q
  rcases q with q | q
  · exact h pins s σ H x y v u Q I rx ry q
  · exact h' pins s σ H x y v u Q I rx ry q
def rIsN : R2 := fun x y H Q => y = .non ∧ Q (.bl (decide (x = .non))) H
theorem op_isN' {X : Cx} : OpR X (compareOp .Is) rIsN := op_isN
def isNo : D → Option Bool
  | .sc v => some (decide (v = .non))
  | .nd _ _ => some false
  | .hl _ => none
def isND (g : Bool → Bool) (a b : D) : Option D := match b with
  | .sc .non => (isNo a).map fun b => .sc (.bl (g b))
  | _ => none
theorem isNo_of {b : Bool} (w : Vw K H N v d) (h : isNo d = some b) : decide (v = .non) = b := by
  cases d with
  | sc z => cases h; rw [w.scal]
  | nd k cs => cases h; obtain ⟨a, _, rfl, _⟩ := w.node; rfl
  | hl _ => cases h
instance op_isND : OpD K rIsN (isND id) := ⟨fun {H x y dx dy d Q} w1 w2 h k => by
  unfold isND at h
  split at h
  · obtain ⟨b, h1, h2⟩ := Option.map_eq_some_iff.mp h
    subst h2
    exact ⟨w2.scal, by rw [isNo_of w1 h1]; exact k _ H (Same.refl H) (.sc _)⟩
  · cases h⟩
def rAddStr : R2 := fun x y H Q => ∃ i j, x = .str i ∧ y = .str j ∧ i.length + j.length ≤ sizeLine ∧ Q (.str (i ++ j)) H
def rAddU (K : W.Frag) : R2 := fun x y H Q => rI0 (fun i j => .int (i + j)) x y H Q ∨ rAddStr x y H Q ∨ rCat x y H Q ∨ rCatT K x y H Q
theorem op_addU {X : Cx} : OpR X (binaryOp .Add) (rAddU X.K) := OpR.or op_add (OpR.or op_add_str (OpR.or op_cat op_catT))
def addD (a b : D) : Option D := match a, b with
  | .sc (.int i), .sc (.int j) => some (.sc (.int (i + j)))
  | .sc (.str i), .sc (.str j) => if i.length + j.length ≤ sizeLine then some (.sc (.str (i ++ j))) else none
  | .nd .lst xs, .nd .lst ys => if xs.length + ys.length ≤ sizeLine ∧ plainL (xs ++ ys) = true then some (.nd .lst (xs ++ ys)) else none
  | .nd .tup xs, .nd .tup ys => if xs ≠ [] ∧ xs.length + ys.length ≤ sizeLine ∧ plainL (xs ++ ys) = true then some (.nd .tup (xs ++ ys)) else none
  | _, _ => none
theorem VwL.app {us : List V} {es : List D} (h : VwL K H N vs ds) (h' : VwL K H N us es) : VwL K H N (vs ++ us) (ds ++ es) := by
  refine ⟨by rw [List.length_append, List.length_append, h.1, h'.1], fun i v d hv hd => ?_⟩
  by_cases c : i < vs.length
  · rw [List.getElem?_append_left c] at hv
    rw [List.getElem?_append_left (by rw [← h.1]; exact c)] at hd
    exact h.2 i v d hv hd
  · rw [List.getElem?_append_right (by omega)] at hv
    rw [List.getElem?_append_right (by rw [← h.1]; omega), ← h.1] at hd
    exact h'.2 _ v d hv hd
theorem VwL.own {k : Kd} {p : Addr} {o : HO} (h : VwL K H T1 vs ds) (pl : plainL ds = true) (hp : H p = none) (hold : (k = .tup ∧ o = .tup vs) ∨ (imm k = false ∧ fits K k vs.length ∧ ∃ dx, o = ho k dx vs)) : Own K H (upd H p o) (.ref p) (.nd k ds) :=
  OwnL.node (H := H) (H1 := H) ⟨h.1, fun _ _ => False, fun _ _ _ z => z.elim, fun _ _ z => z.elim, fun i v d hv hd => (h.2 i v d hv hd).plain (plainL_get pl hd)⟩ (Same.refl H) hp hold
theorem Vw.kids' {k : Kd} {cs : List D} (w : Vw K H T1 v (.nd k cs)) : ∃ a vs, v = .ref a ∧ Cell K H a k vs ∧ VwL K H T1 vs cs := by
  obtain ⟨a, vs, e, _, hc, hl, kid⟩ := w.node
  exact ⟨a, vs, e, hc, hl, kid⟩
instance op_addD : OpD K (rAddU K) addD := ⟨fun {H x y dx dy d Q} w1 w2 h k => by
  unfold addD at h
  split at h
  · next i j => cases h; exact .inl ⟨i, j, w1.scal, w2.scal, k _ H (Same.refl H) (.sc _)⟩
  · next i j =>
    by_cases c : i.length + j.length ≤ sizeLine
    · rw [if_pos c] at h; cases h; exact .inr (.inl ⟨i, j, w1.scal, w2.scal, c, k _ H (Same.refl H) (.sc _)⟩)
    · rw [if_neg c] at h; cases h
  · next xs ys =>
    by_cases c : xs.length + ys.length ≤ sizeLine ∧ plainL (xs ++ ys) = true
    · rw [if_pos c] at h; cases h
      obtain ⟨a, vs, rfl, hc, vl⟩ := w1.kids'
      obtain ⟨b, us, rfl, hc2, ul⟩ := w2.kids'
      refine .inr (.inr (.inl ⟨a, b, vs, us, rfl, rfl, hc.2, hc2.2, by rw [vl.1, ul.1]; exact c.1, fun p hp => ?_⟩))
      exact k _ _ (same_new hp _) ((vl.app ul).own c.2 hp (.inr ⟨rfl, trivial, 0, rfl⟩))
    · rw [if_neg c] at h; cases h
  · next xs ys =>
    by_cases c : xs ≠ [] ∧ xs.length + ys.length ≤ sizeLine ∧ plainL (xs ++ ys) = true
    · rw [if_pos c] at h; cases h
      obtain ⟨a, vs, rfl, hc, vl⟩ := w1.kids'
      obtain ⟨b, us, rfl, hc2, ul⟩ := w2.kids'
      have nv : vs ≠ [] := fun z => by
        subst z
        have := vl.1
        exact c.1 (List.eq_nil_of_length_eq_zero this.symm)
      refine .inr (.inr (.inr ⟨a, b, vs, us, rfl, rfl, SqT.of hc.2, SqT.of hc2.2, nv, by rw [vl.1, ul.1]; exact c.2.1, fun z => ?_, fun _ p hp => ?_⟩))
      · subst z
        have e : ys = [] := List.eq_nil_of_length_eq_zero ul.1.symm
        subst e
        rw [List.append_nil] at c k
        exact k _ H (Same.refl H) (Own.plain w1 c.2.2)
      · exact k _ _ (same_new hp _) ((vl.app ul).own c.2.2 hp (.inl ⟨rfl, rfl⟩))
    · rw [if_neg c] at h; cases h
  · cases h⟩
class CallD (K : W.Frag) (r : List V → Hp → VK → Prop) (g : outParam (List D → Option D)) : Prop where
  s : ∀ {H : Hp} {vs : List V} {ds : List D} {d : D} {Q : VK}, VwL K H T1 vs ds → g ds = some d → (∀ v H', Same H H' → Own K H H' v d → Q v H') → r vs H Q
instance sf_cb {r : List V → Hp → VK → Prop} {ta : TA} {fa : En → Option (List D)} {g : List D → Option D} [A : SA K n ta fa] [C : CallD K r g] : SF K n (tCB r ta) (fun ρ => (fa ρ).bind g) := ⟨fun {σ hv H U ρ τv τd d Q} I h k => by
  obtain ⟨a, ha, h⟩ := Option.bind_eq_some_iff.mp h
  refine A.s I ha fun xs H1 s1 w => ?_
  exact C.s w h fun v H2 s2 o => k v H2 (s1.trans s2) (o.early s1)⟩
theorem Sit.lasts (I : Sit K n H U σ hv ρ (τv ++ vs) (τd ++ ds)) (hl : vs.length = ds.length) : VwL K H T1 vs ds := by
  refine ⟨hl, fun i v d hv' hd => ?_⟩
  obtain ⟨g1, g2⟩ := I.sets hl i hv' hd
  obtain ⟨_, _, Fs, _, _, sl⟩ := I.ok
  obtain ⟨v', ev, sv⟩ := sl _ _ g2
  rw [g1] at ev; cases ev
  exact Rep.vw sv
def cbM (g : List D → Option D) (fa : En → Option (List D × En)) (ρ : En) : Option (D × En) := (fa ρ).bind fun a => (g a.1).map fun d => (d, a.2)
instance (priority := 70) sm_cb {r : List V → Hp → VK → Prop} {ta : TA} {fa : En → Option (List D × En)} {g : List D → Option D} [A : SMA K n ta fa] [C : CallD K r g] : SM K n (tCB r ta) (cbM g fa) := ⟨fun {σ hv H U ρ ρ' τv τd d Q} I h k => by
  obtain ⟨⟨a, ρ1⟩, ha, h⟩ := Option.bind_eq_some_iff.mp h
  obtain ⟨d', h1, h2⟩ := Option.map_eq_some_iff.mp h
  cases h2
  refine A.s I ha fun xs H1 U1 hl I1 st1 => ?_
  refine C.s (I1.lasts hl) h1 fun v H2 s2 o => ?_
  obtain ⟨U2, I2, st2⟩ := (I1.drop hl).push s2 o
  exact k v H2 U2 I2 (st1.trans st2)⟩
theorem VwL.one {d : D} (h : VwL K H N vs [d]) : ∃ v, vs = [v] ∧ Vw K H N v d := by
  match vs, h with
  | [v], h => exact ⟨v, rfl, h.2 0 v d rfl rfl⟩
  | [], h => cases h.1
  | _ :: _ :: _, h => cases h.1
theorem VwL.two {d e : D} (h : VwL K H N vs [d, e]) : ∃ v u, vs = [v, u] ∧ Vw K H N v d ∧ Vw K H N u e := by
  match vs, h with
  | [v, u], h => exact ⟨v, u, rfl, h.2 0 v d rfl rfl, h.2 1 u e rfl rfl⟩
  | [], h => cases h.1
  | [_], h => cases h.1
  | _ :: _ :: _ :: _, h => cases h.1
theorem call_lenR {X : Cx} : CallR X (.builtin "len") (fun xs H Q => ∃ a kvs, xs = [V.ref a] ∧ Rd H a (.dK kvs) ∧ Q (.int kvs.length) H) := by
  intro pins s σ H xs us Q I r h
  obtain ⟨a, kvs, rfl, ha, q⟩ := h
  obtain ⟨u, rfl, ru⟩ := vals1 r
  cases ru
  exact d_len I ha fun t s' I' => ⟨.int kvs.length, H, I', ⟨t, rfl⟩, q⟩
def rLenU (K : W.Frag) : List V → Hp → VK → Prop := fun xs H Q => (∃ p ys, xs = [.ref p] ∧ (SqL K H p ys ∨ SqT K H p ys) ∧ Q (.int ys.length) H) ∨ (∃ z, xs = [.str z] ∧ z.length ≤ sizeLine ∧ Q (.int z.length) H) ∨ ∃ a kvs, xs = [V.ref a] ∧ Rd H a (.dK kvs) ∧ Q (.int kvs.length) H
theorem call_lenU {X : Cx} : CallR X (.builtin "len") (rLenU X.K) := by
  intro pins s σ H xs us Q I r h
  rcases h with h | h | h
  · exact call_len_seq pins s σ H xs us Q I r h
  · exact call_len_str pins s σ H xs us Q I r h
  · exact call_lenR pins s σ H xs us Q I r h
def lenD : List D → Option D
  | [.nd .lst cs] => some (.sc (.int cs.length))
  | [.nd .tup cs] => some (.sc (.int cs.length))
  | [.nd .frl cs] => some (.sc (.int cs.length))
  | [.sc (.str z)] => if z.length ≤ sizeLine then some (.sc (.int z.length)) else none
  | [.nd (.dic _) cs] => some (.sc (.int cs.length))
  | _ => none
instance cd_len : CallD K (rLenU K) lenD := ⟨fun {H vs ds d Q} w h k => by
  unfold lenD at h
  split at h
  · next cs => cases h; obtain ⟨v, rfl, w1⟩ := w.one; obtain ⟨a, us, rfl, hc, vl⟩ := w1.kids'; rw [← vl.1] at k; exact .inl ⟨a, us, rfl, .inl (SqL.of hc.2), k _ H (Same.refl H) (.sc _)⟩
  · next cs => cases h; obtain ⟨v, rfl, w1⟩ := w.one; obtain ⟨a, us, rfl, hc, vl⟩ := w1.kids'; rw [← vl.1] at k; exact .inl ⟨a, us, rfl, .inr (SqT.of hc.2), k _ H (Same.refl H) (.sc _)⟩
  · next cs => cases h; obtain ⟨v, rfl, w1⟩ := w.one; obtain ⟨a, us, rfl, hc, vl⟩ := w1.kids'; rw [← vl.1] at k; exact .inl ⟨a, us, rfl, .inl (FrL.sq hc.2), k _ H (Same.refl H) (.sc _)⟩
  · next z =>
    by_cases c : z.length ≤ sizeLine
    · rw [if_pos c] at h; cases h; obtain ⟨v, rfl, w1⟩ := w.one; rw [w1.scal]; exact .inr (.inl ⟨z, rfl, c, k _ H (Same.refl H) (.sc _)⟩)
    · rw [if_neg c] at h; cases h
  · next ks cs =>
    cases h
    obtain ⟨v, rfl, w1⟩ := w.one
    obtain ⟨a, us, rfl, hc, vl⟩ := w1.kids'
    have hl : ks.length = us.length := hc.1
    have rd : Rd H a (.dK (ks.zip us)) := hc.2
    refine .inr (.inr ⟨a, ks.zip us, rfl, rd, ?_⟩)
    rw [List.length_zip, hl, Nat.min_self, vl.1]
    exact k _ H (Same.refl H) (.sc _)
  · cases h⟩
def rListOf (K : W.Frag) : List V → Hp → VK → Prop := fun xs H Q => ∃ p ys, xs = [.ref p] ∧ (SqL K H p ys ∨ SqT K H p ys) ∧ ∀ l, H l = none → Q (.ref l) (upd H l (.lst ys))
theorem call_listOf {X : Cx} : CallR X (.type "list") (rListOf X.K) := call_list_of
def rTupOf (K : W.Frag) : List V → Hp → VK → Prop := fun xs H Q => ∃ p ys, xs = [.ref p] ∧ ((SqL K H p ys ∧ ∀ l, H l = none → Q (.ref l) (upd H l (.tup ys))) ∨ (SqT K H p ys ∧ Q (.ref p) H))
theorem call_tupOf {X : Cx} : CallR X (.type "tuple") (rTupOf X.K) := call_tuple_of
def listD : List D → Option D
  | [.nd .lst cs] => if plainL cs = true then some (.nd .lst cs) else none
  | [.nd .tup cs] => if plainL cs = true then some (.nd .lst cs) else none
  | _ => none
instance cd_list : CallD K (rListOf K) listD := ⟨fun {H vs ds d Q} w h k => by
  unfold listD at h
  split at h
  · next cs =>
    by_cases c : plainL cs = true
    · rw [if_pos c] at h; cases h; obtain ⟨v, rfl, w1⟩ := w.one; obtain ⟨a, us, rfl, hc, vl⟩ := w1.kids'
      exact ⟨a, us, rfl, .inl (SqL.of hc.2), fun l hl => k _ _ (same_new hl _) (vl.own c hl (.inr ⟨rfl, trivial, 0, rfl⟩))⟩
    · rw [if_neg c] at h; cases h
  · next cs =>
    by_cases c : plainL cs = true
    · rw [if_pos c] at h; cases h; obtain ⟨v, rfl, w1⟩ := w.one; obtain ⟨a, us, rfl, hc, vl⟩ := w1.kids'
      exact ⟨a, us, rfl, .inr (SqT.of hc.2), fun l hl => k _ _ (same_new hl _) (vl.own c hl (.inr ⟨rfl, trivial, 0, rfl⟩))⟩
    · rw [if_neg c] at h; cases h
  · cases h⟩
def tupD : List D → Option D
  | [.nd .lst cs] => if plainL cs = true then some (.nd .tup cs) else none
  | [.nd .tup cs] => if plainL cs = true then some (.nd .tup cs) else none
  | _ => none
instance cd_tup : CallD K (rTupOf K) tupD := ⟨fun {H vs ds d Q} w h k => by
  unfold tupD at h
  split at h
  · next cs =>
    by_cases c : plainL cs = true
    · rw [if_pos c] at h; cases h; obtain ⟨v, rfl, w1⟩ := w.one; obtain ⟨a, us, rfl, hc, vl⟩ := w1.kids'
      exact ⟨a, us, rfl, .inl ⟨SqL.of hc.2, fun l hl => k _ _ (same_new hl _) (vl.own c hl (.inl ⟨rfl, rfl⟩))⟩⟩
    · rw [if_neg c] at h; cases h
  · next cs =>
    by_cases c : plainL cs = true
    · rw [if_pos c] at h; cases h; obtain ⟨v, rfl, w1⟩ := w.one; obtain ⟨a, us, rfl, hc, vl⟩ := w1.kids'
      exact ⟨a, us, rfl, .inr ⟨SqT.of hc.2, k _ H (Same.refl H) (Own.plain w1 c)⟩⟩
    · rw [if_neg c] at h; cases h
  · cases h⟩
def rInt1 : List V → Hp → VK → Prop := fun xs H Q => (∃ i, xs = [.int i] ∧ Q (.int i) H) ∨ ∃ k, xs = [.bl k] ∧ Q (.int (if k then 1 else 0)) H
theorem call_int1' {X : Cx} : CallR X (.type "int") rInt1 := call_int1
def int1D : List D → Option D
  | [.sc (.int i)] => some (.sc (.int i))
  | [.sc (.bl b)] => some (.sc (.int (if b then 1 else 0)))
  | _ => none
instance cd_int1 : CallD K rInt1 int1D := ⟨fun {H vs ds d Q} w h k => by
  unfold int1D at h
  split at h
  · next i => cases h; obtain ⟨v, rfl, w1⟩ := w.one; rw [w1.scal]; exact .inl ⟨i, rfl, k _ H (Same.refl H) (.sc _)⟩
  · next b => cases h; obtain ⟨v, rfl, w1⟩ := w.one; rw [w1.scal]; exact .inr ⟨b, rfl, k _ H (Same.refl H) (.sc _)⟩
  · cases h⟩
def rMax2 : List V → Hp → VK → Prop := fun xs H Q => ∃ i j, xs = [.int i, .int j] ∧ Q (.int (if j > i then j else i)) H
def rMin2 : List V → Hp → VK → Prop := fun xs H Q => ∃ i j, xs = [.int i, .int j] ∧ Q (.int (if j < i then j else i)) H
theorem call_max2' {X : Cx} (hc : X.calm = true) : CallR X (.builtin "max") rMax2 := call_max2 hc
theorem call_min2' {X : Cx} (hc : X.calm = true) : CallR X (.builtin "min") rMin2 := call_min2 hc
def int2D (g : Int → Int → V) : List D → Option D
  | [.sc (.int i), .sc (.int j)] => some (.sc (g i j))
  | _ => none
instance cd_max2 : CallD K rMax2 (int2D fun i j => .int (if j > i then j else i)) := ⟨fun {H vs ds d Q} w h k => by
  unfold int2D at h
  split at h
  · next i j => cases h; obtain ⟨v, u, rfl, w1, w2⟩ := w.two; rw [w1.scal, w2.scal]; exact ⟨i, j, rfl, k _ H (Same.refl H) (.sc _)⟩
  · cases h⟩
instance cd_min2 : CallD K rMin2 (int2D fun i j => .int (if j < i then j else i)) := ⟨fun {H vs ds d Q} w h k => by
  unfold int2D at h
  split at h
  · next i j => cases h; obtain ⟨v, u, rfl, w1, w2⟩ := w.two; rw [w1.scal, w2.scal]; exact ⟨i, j, rfl, k _ H (Same.refl H) (.sc _)⟩
  · cases h⟩
end
end VL
namespace VL
open PySem PySem.Spec PyProof.Rows L2
def isiB (a b : String) : Bool := a == b || (a == "bool" && b == "int")
def tyNames : List String := ["NoneType", "bool", "int", "str", "tuple", "list", "dict"]
def clNames : List String := ["bool", "int", "str", "tuple", "list", "dict"]
theorem kit_yes (K : W.Frag) : W.kitOne K (.type "bool") (.type "int") = some true := by
  unfold W.kitOne
  rw [if_neg (by decide)]
  show (if W.kitMeta "int" = true then W.subIn K (.type "bool") (.type "int") else none) = some true
  rw [if_pos (by decide +kernel)]
  show (fastBuiltinMro "bool").map (·.contains (.type "int")) = some true
  decide +kernel
theorem kit_tab (K : W.Frag) : ∀ a ∈ tyNames, ∀ b ∈ clNames, W.kitOne K (.type a) (.type b) = some (isiB a b) := by
  intro a ha b hb
  simp only [tyNames, clNames, List.mem_cons, List.not_mem_nil, or_false] at ha hb
  rcases ha with rfl | rfl | rfl | rfl | rfl | rfl | rfl <;> rcases hb with rfl | rfl | rfl | rfl | rfl | rfl <;> first
    | exact kit_yes K
    | exact kit_same K _ (by decide)
    | exact kit_no K _ _ (by decide) (by decide +kernel) (by decide +kernel)
theorem kit_any (K : W.Frag) {a : String} (ha : a ∈ tyNames) : ∀ {ts : List String}, (∀ b ∈ ts, b ∈ clNames) → W.kitAny K (.type a) (ts.map Value.type) = some (ts.any (isiB a))
  | [], _ => rfl
  | b :: ts, h => by
    rw [List.map_cons, W.kitAny, kit_tab K a ha b (h b (.head _))]
    cases e : isiB a b with
    | true => simp [e]
    | false =>
      simp only [e, List.any_cons, Bool.false_or]
      exact kit_any K ha fun c hc => h c (.tail _ hc)
def tyN : D → Option String
  | .sc .non => some "NoneType"
  | .sc (.bl _) => some "bool"
  | .sc (.int _) => some "int"
  | .sc (.str _) => some "str"
  | .nd .tup _ => some "tuple"
  | .nd .lst _ => some "list"
  | .nd (.dic _) _ => some "dict"
  | .nd (.dit _) _ => some "dict"
  | _ => none
section
variable {K : W.Frag} {n : Nat} {H H' H1 H2 : Hp} {U U' : Addr → Prop} {σ hv : List (Option V)} {ρ ρ' : En} {τv vs : List V} {τd ds : List D} {v y : V} {d : D} {E : Ends} {N : Addr → Prop}
theorem tyN_in {a : String} (h : tyN d = some a) : a ∈ tyNames := by
  unfold tyN at h
  split at h <;> first | (cases h; decide) | cases h
theorem Vw.ty {a : String} (w : Vw K H N v d) (h : tyN d = some a) (hd : a ≠ "dict") : TyOf K H v (.type a) := by
  unfold tyN at h
  split at h
  · cases h; rw [w.scal]; exact .non
  · cases h; rw [w.scal]; exact .bl _
  · cases h; rw [w.scal]; exact .int _
  · cases h; rw [w.scal]; exact .str _
  · cases h; obtain ⟨a, vs, rfl, _, hc, _⟩ := w.node; exact .tup hc.2
  · cases h; obtain ⟨a, vs, rfl, _, hc, _⟩ := w.node; exact .lst hc.2
  · cases h; exact absurd rfl hd
  · cases h; exact absurd rfl hd
  · cases h
def isiD (T : String) : List D → Option D
  | [a, .sc (.ty T')] => if T' = T ∧ T ∈ clNames then (tyN a).bind fun x => if x = "dict" then none else some (.sc (.bl (isiB x T))) else none
  | _ => none
instance cd_isi {T : String} : CallD K (rIsi K T) (isiD T) := ⟨fun {H vs ds d Q} w h k => by
  unfold isiD at h
  split at h
  · next a T' =>
    by_cases c : T' = T ∧ T ∈ clNames
    · rw [if_pos c] at h
      obtain ⟨x, h1, h⟩ := Option.bind_eq_some_iff.mp h
      by_cases cd : x = "dict"
      · rw [if_pos cd] at h; cases h
      · rw [if_neg cd] at h
        cases h
        obtain ⟨v, u, rfl, w1, w2⟩ := w.two
        rw [w2.scal, c.1]
        exact ⟨v, _, _, rfl, w1.ty h1 cd, kit_tab K x (tyN_in h1) T c.2, k _ H (Same.refl H) (.sc _)⟩
    · rw [if_neg c] at h; cases h
  · cases h⟩
def rIsiT (K : W.Frag) : List V → Hp → VK → Prop := fun xs H Q => ∃ (x : V) (t : Value) (tp : Addr) (ts : List String) (b : Bool), xs = [x, .ref tp] ∧ TyOf K H x t ∧ H tp = some (.tup (ts.map V.ty)) ∧ W.kitAny K t (ts.map Value.type) = some b ∧ Q (.bl b) H
theorem tys_vals : ∀ {ts : List String} {us : List Value}, Vals (ts.map V.ty) us → us = ts.map Value.type
  | [], us, h => by cases h; rfl
  | t :: ts, us, h => by
    cases h with
    | cons r1 r2 => rw [tys_vals r2, show _ = Value.type t from r1]; rfl
theorem call_isiT {X : Cx} : CallR X (.builtin "isinstance") (rIsiT X.K) := by
  intro pins s σ H xs us Q I r h
  obtain ⟨x, t, tp, ts, b, rfl, ty, ht, e, q⟩ := h
  obtain ⟨u, w', rfl, ru, rt⟩ := vals2 r
  cases rt
  obtain ⟨_, its, rv, o, ho, hc, n, hd⟩ := I.hok tp _ ht
  have hits := tys_vals rv
  subst hits
  obtain ⟨oc, od, odata, osl⟩ := o
  cases hc
  cases hd
  have fin : ∀ tk, EP X pins σ Q (.bool b) { s with toks := tk } := fun tk => ⟨.bl b, H, I.tok tk, rfl, q⟩
  cases ty with
  | non => cases (show u = Value.none from ru); exact W.kia_tup W.kitx_none I.kIn True.intro ho e (fun z => nomatch z) fin
  | bl y => cases (show u = Value.bool y from ru); exact W.kia_tup W.kitx_bool I.kIn True.intro ho e (fun z => nomatch z) fin
  | int i => obtain ⟨t, z⟩ := (show ∃ t, u = Value.int i t from ru); cases z; exact W.kia_tup W.kitx_int I.kIn True.intro ho e (fun z => nomatch z) fin
  | str y => obtain ⟨t, z⟩ := (show ∃ t, u = Value.str y t from ru); cases z; exact W.kia_tup W.kitx_str I.kIn True.intro ho e (fun z => nomatch z) fin
  | flt y => obtain ⟨t, z⟩ := (show ∃ t, u = Value.float y t from ru); cases z; exact W.kia_tup W.kitx_float I.kIn True.intro ho e (fun z => nomatch z) fin
  | @lst a xs ea =>
    cases (show u = Value.ref a from ru)
    obtain ⟨_, _, n', _, h1⟩ := (show ObjOk X.prog X.w H s.heap a (.lst xs) from I.hok a _ ea)
    exact W.kia_tup W.kitx_list I.kIn ⟨_, h1, rfl⟩ ho e (fun z => nomatch z) fin
  | @frz a ob xs ea =>
    cases (show u = Value.ref a from ru)
    obtain ⟨_, _, _, n', _, h1⟩ := (show ObjOk X.prog X.w H s.heap a (.frz ob (.lst xs)) from I.hok a _ ea)
    exact W.kia_tup W.kitx_list I.kIn ⟨_, h1, rfl⟩ ho e (fun z => nomatch z) fin
  | @tup a xs ea =>
    cases (show u = Value.ref a from ru)
    obtain ⟨_, _, _, p⟩ := (show ObjOk X.prog X.w H s.heap a (.tup xs) from I.hok a _ ea)
    obtain ⟨o', h1, h2, _⟩ := p
    exact W.kia_tup W.kitx_tuple I.kIn ⟨o', h1, h2⟩ ho e (fun z => nomatch z) fin
  | @dK a kvs ea =>
    cases (show u = Value.ref a from ru)
    obtain ⟨_, _, vs, _, p⟩ := (show ObjOk X.prog X.w H s.heap a (.dK kvs) from I.hok a _ ea)
    obtain ⟨o', es, ep, h1, h2, _⟩ := p
    exact W.kia_tup W.kitx_dict I.kIn ⟨o', h1, h2.1⟩ ho e (fun z => nomatch z) fin
  | @dT a kvs ea =>
    cases (show u = Value.ref a from ru)
    obtain ⟨_, _, xs, _, o', es, ep, h1, h2, _⟩ := (show ObjOk X.prog X.w H s.heap a (.dT kvs) from I.hok a _ ea)
    exact W.kia_tup W.kitx_dict I.kIn ⟨o', h1, h2.1⟩ ho e (fun z => nomatch z) fin
  | @ins a C dx fs ea cl ha hn htk hm =>
    cases (show u = Value.ref a from ru)
    obtain ⟨mA, O, _⟩ := ins_get I.hok ea
    obtain ⟨od, J, _⟩ := O.look
    exact W.kia_tup (W.kitx_own (cl.get _) cl.hd ha hn htk hm) I.kIn J ho e (fun z => nomatch z) fin
def tysOf : List D → Option (List String)
  | [] => some []
  | .sc (.ty t) :: r => (tysOf r).map (t :: ·)
  | _ :: _ => none
theorem tysOf_vs : ∀ {cs : List D} {vs : List V} {ts : List String}, vs.length = cs.length → (∀ (i : Nat) (v : V) (d : D), vs[i]? = some v → cs[i]? = some d → Vw K H N v d) → tysOf cs = some ts → vs = ts.map V.ty
  | [], [], _, _, _, h => by rw [tysOf] at h; cases h; rfl
  | [], _ :: _, _, h, _, _ => by cases h
  | _ :: _, [], _, h, _, _ => by cases h
  | d :: cs, v :: vs, ts, hl, hk, h => by
    unfold tysOf at h
    split at h
    · next e => cases e
    · next t r e =>
      cases e
      obtain ⟨x, h2, h⟩ := Option.map_eq_some_iff.mp h
      subst h
      rw [List.map_cons, (hk 0 v _ rfl rfl).scal, tysOf_vs (Nat.succ.inj hl) (fun i v d a b => hk (i + 1) v d (by simpa using a) (by simpa using b)) h2]
    · cases h
def isiTD : List D → Option D
  | [a, .nd .tup cs] => (tysOf cs).bind fun ts => if ts.all (clNames.contains ·) = true then (tyN a).bind fun x => if x = "dict" then none else some (.sc (.bl (ts.any (isiB x)))) else none
  | _ => none
instance cd_isiT : CallD K (rIsiT K) isiTD := ⟨fun {H vs ds d Q} w h k => by
  unfold isiTD at h
  split at h
  · next a cs =>
    obtain ⟨ts, h0, h⟩ := Option.bind_eq_some_iff.mp h
    by_cases c : ts.all (clNames.contains ·) = true
    · rw [if_pos c] at h
      obtain ⟨x, h1, h⟩ := Option.bind_eq_some_iff.mp h
      by_cases cd : x = "dict"
      · rw [if_pos cd] at h; cases h
      · rw [if_neg cd] at h
        cases h
        obtain ⟨v, u, rfl, w1, w2⟩ := w.two
        obtain ⟨b, us, rfl, _, hc, hl, kid⟩ := w2.node
        have e := tysOf_vs hl kid h0
        refine ⟨v, _, b, ts, _, rfl, w1.ty h1 cd, by rw [← e]; exact hc.2, kit_any K (tyN_in h1) fun t ht => ?_, k _ H (Same.refl H) (.sc _)⟩
        have := List.all_eq_true.mp c t ht
        simpa using this
    · rw [if_neg c] at h; cases h
  · cases h⟩
def rAll (K : W.Frag) : List V → Hp → VK → Prop := fun xs H Q => ∃ (a : Addr) (bs : List Bool), xs = [.ref a] ∧ SqL K H a (bs.map V.bl) ∧ Q (.bl (bs.all id)) H
theorem call_all' {X : Cx} (hc : X.calm = true) : CallR X (.builtin "all") (rAll X.K) := call_allB hc
def blsOf : List D → Option (List Bool)
  | [] => some []
  | .sc (.bl b) :: r => (blsOf r).map (b :: ·)
  | _ :: _ => none
theorem blsOf_vs : ∀ {cs : List D} {vs : List V} {bs : List Bool}, vs.length = cs.length → (∀ (i : Nat) (v : V) (d : D), vs[i]? = some v → cs[i]? = some d → Vw K H N v d) → blsOf cs = some bs → vs = bs.map V.bl
  | [], [], _, _, _, h => by rw [blsOf] at h; cases h; rfl
  | [], _ :: _, _, h, _, _ => by cases h
  | _ :: _, [], _, h, _, _ => by cases h
  | d :: cs, v :: vs, ts, hl, hk, h => by
    unfold blsOf at h
    split at h
    · next e => cases e
    · next t r e =>
      cases e
      obtain ⟨x, h2, h⟩ := Option.map_eq_some_iff.mp h
      subst h
      rw [List.map_cons, (hk 0 v _ rfl rfl).scal, blsOf_vs (Nat.succ.inj hl) (fun i v d a b => hk (i + 1) v d (by simpa using a) (by simpa using b)) h2]
    · cases h
def allD : List D → Option D
  | [.nd .lst cs] => (blsOf cs).map fun bs => .sc (.bl (bs.all id))
  | _ => none
instance cd_all : CallD K (rAll K) allD := ⟨fun {H vs ds d Q} w h k => by
  unfold allD at h
  split at h
  · next cs =>
    obtain ⟨bs, h1, h2⟩ := Option.map_eq_some_iff.mp h
    subst h2
    obtain ⟨v, rfl, w1⟩ := w.one
    obtain ⟨a, us, rfl, _, hc, hl, kid⟩ := w1.node
    have e := blsOf_vs hl kid h1
    exact ⟨a, bs, rfl, SqL.of (by rw [← e]; exact hc.2), k _ H (Same.refl H) (.sc _)⟩
  · cases h⟩
end
end VL
namespace VL
open PySem PySem.Spec PyProof.Rows L2
def iAny (K : W.Frag) (tl : TE) : TI := fun σ H R => tl σ H fun x H1 => (∃ a, x = .ref a ∧ (∃ xs, SqL K H1 a xs) ∧ R (Itl K a) H1) ∨ (∃ a, x = .ref a ∧ (∃ xs, SqT K H1 a xs) ∧ R (Itt K a) H1) ∨ ∃ z, x = .str z ∧ R (Its z) H1
theorem pi_any {X : Cx} {tg l : Expr} {tl : TE} (hl : PE X l tl) : PI X tg l (iAny X.K tl) := by
  intro pins s σ H R I h
  refine thn (hl pins s σ H _ I h) fun v s1 ⟨x, H1, I1, r1, q1⟩ => ?_
  have fin : ∀ (b : Addr), b ∈ [s1.heap.objs.size] → FpOk X pins H1 b := fun b hb => by
    have e : b = s1.heap.objs.size := by simpa using hb
    subst e
    exact I1.fpOk (Nat.le_refl _) (I1.hok.fresh (Nat.le_refl _))
  rcases q1 with ⟨a, rfl, ⟨xs, hq⟩, q⟩ | ⟨a, rfl, ⟨xs, hq⟩, q⟩ | ⟨z, rfl, q⟩
  · cases r1
    obtain ⟨its, rv, p, hz⟩ := I1.list hq
    exact wpAny_pyIter_list p.isList ⟨s1.heap.objs.size, [s1.heap.objs.size], _, _, H1, rfl, I1.kept (t' := s1.toks) fun b o e => Heap.get?_push_of_some _ e, turn_list a _, ⟨_, Heap.get?_push_size _ rfl, rfl, rfl⟩, fin, q⟩
  · cases r1
    obtain ⟨its, rv, p, hz⟩ := I1.tuple hq
    exact wpAny_pyIter_tuple (show s1.heap.IsTuple a its.toArray from p) ⟨s1.heap.objs.size, [s1.heap.objs.size], _, _, H1, rfl, I1.kept (t' := s1.toks) fun b o e => Heap.get?_push_of_some _ e, turn_tuple a _, ⟨_, Heap.get?_push_size _ rfl, rfl, rfl⟩, fin, q⟩
  · obtain ⟨t, rfl⟩ := r1
    cases ha : z.cps.all (· < 128)
    · refine wpAny_pyIter_wide ha ⟨s1.heap.objs.size, [s1.heap.objs.size], _, _, H1, rfl, I1.kept (t' := s1.toks) fun b o e => Heap.get?_push_of_some _ e,
        turn_str (t := t) (ty := "str_iterator") (by decide) (fun A' hA => Walks.strWide hA _ z t) (fun A i s Q E st h => wpAny_pyIter_striter_wide st h), ⟨Nat.zero_le _, _, Heap.get?_push_size _ rfl, rfl, rfl⟩, fin, q⟩
    · refine wpAny_pyIter_ascii ha ⟨s1.heap.objs.size, [s1.heap.objs.size], _, _, H1, rfl, I1.kept (t' := s1.toks) fun b o e => Heap.get?_push_of_some _ e,
        turn_str (t := t) (ty := "str_ascii_iterator") (by decide) (fun A' hA => Walks.strAscii hA _ z t) (fun A i s Q E st h => wpAny_pyIter_striter_ascii st h), ⟨Nat.zero_le _, _, Heap.get?_push_size _ rfl, rfl, rfl⟩, fin, q⟩
class LenC {α : Type} (l : List α) (m : outParam Nat) : Prop where
  h : l.length = m
instance {α : Type} : LenC ([] : List α) 0 := ⟨rfl⟩
instance {α : Type} {a : α} {r : List α} {m : Nat} [L : LenC r m] : LenC (a :: r) (m + 1) := ⟨congrArg (· + 1) L.h⟩
section
variable {K : W.Frag} {n : Nat} {H H' H1 H2 : Hp} {U U' : Addr → Prop} {σ hv : List (Option V)} {ρ ρ' : En} {τv vs : List V} {τd ds : List D} {v y : V} {d : D} {E : Ends} {N : Addr → Prop}
def WalkP (K : W.Frag) (J : It) (H0 : Hp) (ds : List D) : Prop := ∀ H, Same H0 H → J.stop ds.length H ∧ ∀ (i : Nat) (d : D), ds[i]? = some d → J.go i H ∧ ∀ x H', J.yld i H x H' → Same H H' ∧ Vw K H' T1 x d
class SI (K : W.Frag) (n : Nat) (wi : TI) (f : outParam (En → Option (List D))) : Prop where
  s : ∀ {σ hv : List (Option V)} {H : Hp} {U : Addr → Prop} {ρ : En} {τv : List V} {τd : List D} {ds : List D} {R : It → Hp → Prop}, Sit K n H U σ hv ρ τv τd → f ρ = some ds → (∀ J H', Same H H' → WalkP K J H' ds → R J H') → wi σ H R
def chars (z : Str) : List D := z.cps.toList.map fun c => .sc (.str ⟨#[c]⟩)
def itemsD : D → Option (List D)
  | .nd .lst cs => some cs
  | .nd .tup cs => some cs
  | .nd .frl cs => some cs
  | .sc (.str z) => some (chars z)
  | _ => none
theorem itemsD_walk {ds : List D} {R : It → Hp → Prop} (w : Vw K H T1 v d) (h : itemsD d = some ds) (k : ∀ J, WalkP K J H ds → R J H) :
    (∃ a, v = .ref a ∧ (∃ xs, SqL K H a xs) ∧ R (Itl K a) H) ∨ (∃ a, v = .ref a ∧ (∃ xs, SqT K H a xs) ∧ R (Itt K a) H) ∨ ∃ z, v = .str z ∧ R (Its z) H := by
  have wl : ∀ {a : Addr} {vs : List V} {cs : List D}, (∀ H', Same H H' → SqL K H' a vs) → VwL K H T1 vs cs → WalkP K (Itl K a) H cs := fun {a vs cs} hs vl H' s => by
    refine ⟨⟨vs, hs H' s, by rw [vl.1]; exact Nat.le_refl _⟩, fun i d hd => ?_⟩
    obtain ⟨u, hu, w⟩ := vl.get hd
    exact ⟨⟨vs, u, hs H' s, hu⟩, fun x H2 ⟨e, q⟩ => by
      subst e
      have := q vs (hs H2 s)
      rw [hu] at this; cases this
      exact ⟨Same.refl _, w.same s⟩⟩
  unfold itemsD at h
  split at h
  · next cs =>
    cases h
    obtain ⟨a, vs, rfl, hc, vl⟩ := w.kids'
    exact .inl ⟨a, rfl, ⟨vs, SqL.of hc.2⟩, k _ (wl (fun H' s => SqL.of (s _ _ hc.2)) vl)⟩
  · next cs =>
    cases h
    obtain ⟨a, vs, rfl, hc, vl⟩ := w.kids'
    refine .inr (.inl ⟨a, rfl, ⟨vs, SqT.of hc.2⟩, k _ fun H' s => ?_⟩)
    have hs : SqT K H' a vs := SqT.of (s _ _ hc.2)
    refine ⟨⟨vs, hs, by rw [vl.1]; exact Nat.le_refl _⟩, fun i d hd => ?_⟩
    obtain ⟨u, hu, w⟩ := vl.get hd
    exact ⟨⟨vs, u, hs, hu⟩, fun x H2 ⟨e, q⟩ => by
      subst e
      have := q vs hs
      rw [hu] at this; cases this
      exact ⟨Same.refl _, w.same s⟩⟩
  · next cs =>
    cases h
    obtain ⟨a, vs, rfl, hc, vl⟩ := w.kids'
    have ho : FrL K H a vs := hc.2
    exact .inl ⟨a, rfl, ⟨vs, ho.sq⟩, k _ (wl (fun H' s => (ho.stay (Stay.of s)).sq) vl)⟩
  · next z =>
    cases h
    refine .inr (.inr ⟨z, w.scal, k _ fun H' s => ?_⟩)
    have lz : (chars z).length = z.cps.size := by unfold chars; simp
    refine ⟨by show z.cps.size ≤ _; rw [lz]; exact Nat.le_refl _, fun i d hd => ?_⟩
    have hi : i < z.cps.size := by rw [← lz]; exact (List.getElem?_eq_some_iff.mp hd).1
    refine ⟨hi, fun x H2 ⟨e, c, hc, hx⟩ => ?_⟩
    subst e hx
    refine ⟨Same.refl _, ?_⟩
    unfold chars at hd
    rw [List.getElem?_map] at hd
    have : z.cps.toList[i]? = some c := by simpa using hc
    rw [this] at hd
    cases hd
    exact .sc _
  · cases h
instance si_any {tl : TE} {fl : En → Option D} [A : SV K n tl fl] : SI K n (iAny K tl) (fun ρ => (fl ρ).bind itemsD) := ⟨fun {σ hv H U ρ τv τd ds R} I h k => by
  obtain ⟨d, h1, h2⟩ := Option.bind_eq_some_iff.mp h
  refine A.s I h1 fun x H1 s1 w1 => ?_
  exact itemsD_walk w1 h2 fun J wk => k J H1 s1 wk⟩
def rngD (lo : Int) (m : Nat) : List D := (List.range m).map fun (i : Nat) => .sc (.int (lo + i))
theorem rng_walk (lo : Int) (m : Nat) (H : Hp) : WalkP K (Itr lo m) H (rngD lo m) := fun H' s => by
  have l : (rngD lo m).length = m := by unfold rngD; simp
  refine ⟨by show m ≤ _; rw [l]; exact Nat.le_refl _, fun i d hd => ?_⟩
  have hi : i < m := by rw [← l]; exact (List.getElem?_eq_some_iff.mp hd).1
  refine ⟨hi, fun x H2 ⟨e, hx⟩ => ?_⟩
  subst e hx
  unfold rngD at hd
  rw [List.getElem?_map, List.getElem?_range hi] at hd
  cases hd
  exact ⟨Same.refl _, .sc _⟩
open Classical in
noncomputable def rng1 : List D → Option (List D)
  | [.sc (.int j)] => if -(2 ^ 62) ≤ j ∧ j < 2 ^ 62 then some (rngD 0 j.toNat) else none
  | _ => none
open Classical in
noncomputable def rng2 : List D → Option (List D)
  | [.sc (.int i), .sc (.int j)] => if -(2 ^ 62) ≤ i ∧ i < 2 ^ 62 ∧ -(2 ^ 62) ≤ j ∧ j < 2 ^ 62 then some (rngD i (j - i).toNat) else none
  | _ => none
theorem rng1_vs {vs : List V} {ds es : List D} (w : VwL K H T1 vs ds) (h : rng1 ds = some es) : ∃ j : Int, vs = [.int j] ∧ -(2 ^ 62) ≤ j ∧ j < 2 ^ 62 ∧ es = rngD 0 j.toNat := by
  unfold rng1 at h
  split at h
  · next j =>
    by_cases c : -(2 ^ 62) ≤ j ∧ j < 2 ^ 62
    · rw [if_pos c] at h; cases h
      obtain ⟨v, rfl, w1⟩ := w.one
      rw [w1.scal]
      exact ⟨j, rfl, c.1, c.2, rfl⟩
    · rw [if_neg c] at h; cases h
  · cases h
theorem rng2_vs {vs : List V} {ds es : List D} (w : VwL K H T1 vs ds) (h : rng2 ds = some es) : ∃ i j : Int, vs = [.int i, .int j] ∧ (-(2 ^ 62) ≤ i ∧ i < 2 ^ 62 ∧ -(2 ^ 62) ≤ j ∧ j < 2 ^ 62) ∧ es = rngD i (j - i).toNat := by
  unfold rng2 at h
  split at h
  · next i j =>
    by_cases c : -(2 ^ 62) ≤ i ∧ i < 2 ^ 62 ∧ -(2 ^ 62) ≤ j ∧ j < 2 ^ 62
    · rw [if_pos c] at h; cases h
      obtain ⟨v, u, rfl, w1, w2⟩ := w.two
      rw [w1.scal, w2.scal]
      exact ⟨i, j, rfl, c, rfl⟩
    · rw [if_neg c] at h; cases h
  · cases h
instance si_rng1 {ta : TA} {fa : En → Option (List D)} [A : SA K n ta fa] : SI K n (iRng1 ta) (fun ρ => (fa ρ).bind rng1) := ⟨fun {σ hv H U ρ τv τd ds R} I h k => by
  obtain ⟨a, h1, h2⟩ := Option.bind_eq_some_iff.mp h
  refine A.s I h1 fun vs H1 s1 w => ?_
  obtain ⟨j, e, c1, c2, e2⟩ := rng1_vs w h2
  subst e2
  exact ⟨j, e, c1, c2, k _ H1 s1 (rng_walk 0 _ H1)⟩⟩
instance si_rng2 {ta : TA} {fa : En → Option (List D)} [A : SA K n ta fa] : SI K n (iRng2 ta) (fun ρ => (fa ρ).bind rng2) := ⟨fun {σ hv H U ρ τv τd ds R} I h k => by
  obtain ⟨a, h1, h2⟩ := Option.bind_eq_some_iff.mp h
  refine A.s I h1 fun vs H1 s1 w => ?_
  obtain ⟨i, j, e, c, e2⟩ := rng2_vs w h2
  subst e2
  exact ⟨i, j, e, c, k _ H1 s1 (rng_walk i _ H1)⟩⟩
class SG (K : W.Frag) (n : Nat) (g : TG) (f : outParam (D → En → Option En)) (is : outParam (List Nat)) : Prop where
  s : ∀ {σ hv : List (Option V)} {H : Hp} {U : Addr → Prop} {ρ ρ' : En} {τv : List V} {τd : List D} {x : V} {d : D} {Q : L2.St → Hp → Prop}, Sit K n H U σ hv ρ τv τd → Vw K H (fun b => ¬ U b) x d → f d ρ = some ρ' → (∀ σ', Sit K n H U σ' hv ρ' τv τd → Q σ' H) → g x σ H Q
  len : ∀ {d : D} {ρ ρ' : En}, f d ρ = some ρ' → ρ'.length = ρ.length
  keep : ∀ {d : D} {ρ ρ' : En} {j : Nat} {β : B}, f d ρ = some ρ' → j ∉ is → (∀ r p, β ≠ .ali r p) → ρ[j]? = some (some β) → ρ'[j]? = some (some β)
theorem unroot_keep {i j : Nat} {β : B} (h : ∀ r p, β ≠ .ali r p) (hj : ρ[j]? = some (some β)) : (unroot i ρ)[j]? = some (some β) := by
  unfold unroot
  rw [List.getElem?_map, hj]
  cases β with
  | own d => rfl
  | ro d => rfl
  | ali r p => exact absurd rfl (h r p)
instance sg_name {i : Nat} [L : LtN i n] : SG K n (gName i) (fun d ρ => some (bindE i (.ro d) ρ)) [i] where
  s := fun {σ hv H U ρ ρ' τv τd x d Q} I w h k => by
    cases h
    exact k _ (I.named L.h (β := .ro d) w)
  len := fun h => by cases h; unfold bindE; rw [List.length_set, unroot_len]
  keep := fun {d ρ ρ' j β} h hj ha q => by
    cases h
    unfold bindE
    rw [List.getElem?_set_ne (fun z => hj (by rw [z]; exact .head _))]
    exact unroot_keep ha q
theorem OwnL.snoc {us : List V} {es : List D} (h : OwnL K H H1 us es) (o : Own K H1 H2 v d) (s0 : Same H H1) (s1 : Same H1 H2) : OwnL K H H2 (us ++ [v]) (es ++ [d]) := by
  obtain ⟨hl, Fs, dj, fr, rp⟩ := h
  obtain ⟨G, r, f⟩ := o
  have nG : ∀ i b, Fs i b → ¬ G b := fun i b z w => by
    obtain ⟨u, q⟩ := mut_some (fr i b z).2
    rw [(f b w).1] at q; cases q
  refine ⟨by simp [hl], fun i b => if i = us.length then G b else Fs i b ∧ i < us.length, fun i j b hi hj => ?_, fun i b hb => ?_, fun i x y hx hy => ?_⟩
  · have hi : if i = us.length then G b else Fs i b ∧ i < us.length := hi
    have hj : if j = us.length then G b else Fs j b ∧ j < us.length := hj
    by_cases ci : i = us.length
    · rw [if_pos ci] at hi
      by_cases cj : j = us.length
      · omega
      · rw [if_neg cj] at hj; exact absurd hi (nG j b hj.1)
    · rw [if_neg ci] at hi
      by_cases cj : j = us.length
      · rw [if_pos cj] at hj; exact absurd hj (nG i b hi.1)
      · rw [if_neg cj] at hj; exact dj i j b hi.1 hj.1
  · have hb : if i = us.length then G b else Fs i b ∧ i < us.length := hb
    by_cases ci : i = us.length
    · rw [if_pos ci] at hb
      refine ⟨?_, (f b hb).2⟩
      cases q : H b with
      | none => rfl
      | some o => have := (f b hb).1; rw [s0 b o q] at this; cases this
    · rw [if_neg ci] at hb
      exact ⟨(fr i b hb.1).1, mut_same (fr i b hb.1).2 s1⟩
  · by_cases ci : i = us.length
    · subst ci
      rw [List.getElem?_append_right (Nat.le_refl _), Nat.sub_self] at hx
      rw [List.getElem?_append_right (by omega), hl, Nat.sub_self] at hy
      cases hx; cases hy
      show Rep K H2 (fun b => if us.length = us.length then G b else _) v d
      simp only [if_pos rfl]
      exact r
    · have hi : i < us.length := by
        have := (List.getElem?_eq_some_iff.mp hx).1
        simp at this; omega
      rw [List.getElem?_append_left hi] at hx
      rw [List.getElem?_append_left (by omega)] at hy
      show Rep K H2 (fun b => if i = us.length then G b else Fs i b ∧ i < us.length) x y
      simp only [if_neg ci]
      exact ((rp i x y hx hy).same s1).mono fun b z => ⟨z, hi⟩
def capE (n : Nat) (js : List (Option Nat)) (ρ : En) : En := js.map fun o => o.bind fun j => if j < n then (dVar j ρ).map B.ro else none
def compD (fg : D → En → Option En) (ft : En → Option Bool) (fe : En → Option D) (ρ0 : En) : List D → Option (List D)
  | [] => some []
  | d :: ds => (fg d ρ0).bind fun ρ1 => (ft ρ1).bind fun b => if b = true then (fe ρ1).bind fun y => (compD fg ft fe ρ0 ds).map (y :: ·) else compD fg ft fe ρ0 ds
open Classical in
noncomputable def lcF (n : Nat) (js : List (Option Nat)) (is : List Nat) (fi : En → Option (List D)) (fg : D → En → Option En) (ft : En → Option Bool) (fe : En → Option D) (ρ : En) : Option D := (fi ρ).bind fun ds =>
  if ds.length ≤ sizeLine ∧ is.all (fun i => js[i]? == some none) = true then (compD fg ft fe (capE n js ρ) ds).map (.nd .lst ·) else none
theorem capE_sit {js : List (Option Nat)} (I : Sit K n H U σ hv ρ τv τd) : Sit K js.length H (fun _ => False) (capt js σ) [] (capE n js ρ) [] [] := by
  refine ⟨⟨by unfold capt capE; simp, fun b z => z.elim, fun _ _ => False, fun _ _ _ z => z.elim, fun _ _ z => z.elim, fun i β hβ => ?_⟩, by unfold capt capE; simp, by unfold capt; simp⟩
  rw [List.map_nil, List.append_nil] at hβ
  rw [List.map_nil, List.append_nil, List.append_nil]
  unfold capE at hβ
  rw [List.getElem?_map] at hβ
  cases e : js[i]? with
  | none => rw [e] at hβ; cases hβ
  | some o =>
    rw [e] at hβ
    have hβ : (o.bind fun j => if j < n then (dVar j ρ).map B.ro else none) = some β := Option.some.inj hβ
    cases o with
    | none => cases hβ
    | some j =>
      have hβ : (if j < n then (dVar j ρ).map B.ro else none) = some β := hβ
      by_cases c : j < n
      · rw [if_pos c] at hβ
        obtain ⟨d, h1, h2⟩ := Option.map_eq_some_iff.mp hβ
        subst h2
        have : LtN j n := ⟨c⟩
        have key : tVar j σ H fun v H' => H' = H ∧ σ[j]? = some (some v) ∧ Vw K H T1 v d := by
          obtain ⟨o, g1, g2⟩ := Option.bind_eq_some_iff.mp h1
          cases o with
          | none => cases g2
          | some γ =>
            obtain ⟨v, F, ev, sub, sv⟩ := I.slot g1
            rw [I.name c] at ev
            refine ⟨v, ev, rfl, ev, ?_⟩
            cases γ with
            | own d' => cases g2; exact Rep.vw sv
            | ro d' => cases g2; exact Vw.any sv
            | ali r p =>
              obtain ⟨d0, hr, g⟩ := Option.bind_eq_some_iff.mp g2
              obtain ⟨_, vr, er, hp⟩ := sv
              obtain ⟨v', F', ev', _, rp⟩ := I.rootV hr
              rw [er] at ev'; cases ev'
              exact rp.sub g hp fun _ _ => trivial
        obtain ⟨v, ev, _, _, vw⟩ := key
        refine ⟨v, ?_, vw.mono fun _ _ z => z⟩
        unfold capt
        rw [List.getElem?_map, e]
        show some ((σ[j]?).join) = some (some v)
        rw [ev]; rfl
      · rw [if_neg c] at hβ; cases hβ
instance sf_lc {wi : TI} {g : TG} {tt : TT} {te : TE} {js : List (Option Nat)} {is : List Nat} {m : Nat} {fi : En → Option (List D)} {fg : D → En → Option En} {ft : En → Option Bool} {fe : En → Option D} [hm : LenC js m]
    [A : SI K n wi fi] [G : SG K m g fg is] [T : SVT K m tt ft] [Q' : SQ K m te fe] : SF K n (tLC wi g tt te js) (lcF n js is fi fg ft fe) := ⟨fun {σ hv H U ρ τv τd d Q} I h k => by
  have hm := hm.h
  subst hm
  obtain ⟨ds, h1, h⟩ := Option.bind_eq_some_iff.mp h
  by_cases c : ds.length ≤ sizeLine ∧ is.all (fun i => js[i]? == some none) = true
  · rw [if_pos c] at h
    obtain ⟨es, h2, h⟩ := Option.map_eq_some_iff.mp h
    subst h
    refine A.s I h1 fun J H1 s1 wk => ?_
    have I1 := capE_sit (js := js) (I.same s1)
    have slotN : ∀ i ∈ is, ∀ β, (capE n js ρ)[i]? ≠ some (some β) := fun i hi β z => by
      have := List.all_eq_true.mp c.2 i hi
      have e : js[i]? = some none := by simpa using this
      unfold capE at z
      rw [List.getElem?_map, e] at z
      cases z
    have noA : ∀ (j : Nat) (β : B), (capE n js ρ)[j]? = some (some β) → ∀ r p, β ≠ .ali r p := fun j β z r p e => by
      subst e
      unfold capE at z
      rw [List.getElem?_map] at z
      cases e : js[j]? with
      | none => rw [e] at z; cases z
      | some o =>
        rw [e] at z
        have z := Option.some.inj z
        cases o with
        | none => cases z
        | some x =>
          have z : (if x < n then (dVar x ρ).map B.ro else none) = some (B.ali r p) := z
          by_cases c : x < n
          · rw [if_pos c] at z
            obtain ⟨_, _, w⟩ := Option.map_eq_some_iff.mp z
            cases w
          · rw [if_neg c] at z; cases z
    refine ⟨fun i m σ' ys H' => m = ds.length - i ∧ i ≤ ds.length ∧ Same H1 H' ∧ Sit K js.length H' (fun _ => False) σ' [] (capE n js ρ) [] [] ∧ ys.length ≤ i ∧ ∃ ea eb, es = ea ++ eb ∧ OwnL K H1 H' ys ea ∧ compD fg ft fe (capE n js ρ) (ds.drop i) = some eb, ⟨ds.length, by simp, Nat.zero_le _, Same.refl _, I1, Nat.le_refl _, [], es, rfl, .nil, h2⟩, ?_⟩
    rintro i m σ' ys H' ⟨rfl, hi, sx, Ix, hy, ea, eb, rfl, ow, cd⟩
    by_cases hlt : i < ds.length
    · right
      have hd : ds[i]? = some ds[i] := List.getElem?_eq_getElem hlt
      obtain ⟨go, yl⟩ := (wk H' sx).2 i _ hd
      rw [List.drop_eq_getElem_cons hlt] at cd
      rw [compD] at cd
      obtain ⟨ρ1, b1, cd⟩ := Option.bind_eq_some_iff.mp cd
      obtain ⟨b, b2, cd⟩ := Option.bind_eq_some_iff.mp cd
      refine ⟨go, fun σ2 zs H2 => Same H1 H2 ∧ Sit K js.length H2 (fun _ => False) σ2 [] (capE n js ρ) [] [] ∧ zs.length ≤ i + 1 ∧ ∃ fa fb, ea ++ eb = fa ++ fb ∧ OwnL K H1 H2 zs fa ∧ compD fg ft fe (capE n js ρ) (ds.drop (i + 1)) = some fb, fun σ2 zs H2 ⟨a1, a2, a3, a4⟩ => ⟨by omega, _, by omega, rfl, hlt, a1, a2, a3, a4⟩, fun x H2 y2 => ?_⟩
      obtain ⟨s2, w2⟩ := yl x H2 y2
      refine G.s (Ix.same s2) (w2.mono fun _ _ z => z) b1 fun σ2 I2 => ?_
      have back : ∀ {H3 : Hp}, Same H2 H3 → Sit K js.length H3 (fun _ => False) σ2 [] (capE n js ρ) [] [] := fun {H3} s3 => by
        refine (I2.same s3).weaken (G.len b1).symm fun j β q => ?_
        by_cases hj : j ∈ is
        · exact absurd q (slotN j hj β)
        · exact G.keep b1 hj (noA j β q) q
      refine T.s I2 b2 fun H4 s4 => ?_
      cases b with
      | true =>
        rw [if_pos rfl] at cd ⊢
        obtain ⟨y, b3, cd⟩ := Option.bind_eq_some_iff.mp cd
        obtain ⟨fb, b4, cd⟩ := Option.map_eq_some_iff.mp cd
        subst cd
        refine Q'.o (I2.same s4) b3 fun v H5 s5 o => ⟨sx.trans (s2.trans (s4.trans s5)), back (s4.trans s5), by simp; omega, ea ++ [y], fb, by simp, ?_, b4⟩
        have o' : Own K H' H5 v y := o.early (s2.trans s4)
        exact ow.snoc o' sx (s2.trans (s4.trans s5))
      | false =>
        rw [if_neg Bool.false_ne_true] at cd ⊢
        refine ⟨sx.trans (s2.trans s4), back s4, by omega, ea, eb, rfl, ?_, cd⟩
        obtain ⟨hl, Fs, dj, fr, rp⟩ := ow
        exact ⟨hl, Fs, dj, fun j b z => ⟨(fr j b z).1, mut_same (fr j b z).2 (s2.trans s4)⟩, fun j v d a b => (rp j v d a b).same (s2.trans s4)⟩
    · left
      have e : i = ds.length := by omega
      subst e
      rw [List.drop_length, compD] at cd
      cases cd
      rw [List.append_nil] at k
      refine ⟨(wk H' sx).1, fun D hD => ?_⟩
      exact k _ _ ((s1.trans sx).trans (same_new hD _)) ((ow.node (k := .lst) sx hD (.inr ⟨rfl, trivial, 0, rfl⟩)).early s1)
  · rw [if_neg c] at h; cases h⟩
end
end VL
namespace VL
open PySem PySem.Spec PyProof.Rows L2
section
variable {K : W.Frag} {n : Nat} {H H' H1 H2 : Hp} {U U' : Addr → Prop} {σ hv : List (Option V)} {ρ ρ' : En} {τv vs : List V} {τd ds : List D} {v y : V} {d : D} {E : Ends} {N : Addr → Prop}
structure WalkS (K : W.Frag) (J : It) (ds : List D) (P : Hp → (Addr → Prop) → Prop) : Prop where
  step : ∀ {H H' U U'}, P H U → Stp U H U' H' → (∀ b, U b → Mut (H b)) → P H' U'
  stop : ∀ {H U}, P H U → J.stop ds.length H
  item : ∀ {H U} {i : Nat} {d : D}, P H U → ds[i]? = some d → J.go i H ∧ ∀ x H', J.yld i H x H' → H' = H ∧ Vw K H (fun b => ¬ U b) x d
class SIs (K : W.Frag) (n : Nat) (wi : TI) (f : outParam (En → Option (List D))) : Prop where
  s : ∀ {σ hv : List (Option V)} {H : Hp} {U : Addr → Prop} {ρ : En} {τv : List V} {τd : List D} {ds : List D} {R : It → Hp → Prop}, Sit K n H U σ hv ρ τv τd → f ρ = some ds → (∀ J P H', Same H H' → WalkS K J ds P → P H' U → R J H') → wi σ H R
theorem rng_walkS (lo : Int) (m : Nat) : WalkS K (Itr lo m) (rngD lo m) fun _ _ => True := by
  have l : (rngD lo m).length = m := by unfold rngD; simp
  refine ⟨fun _ _ _ => trivial, fun {H U} _ => by show m ≤ _; rw [l]; exact Nat.le_refl _, fun {H U i d} _ hd => ?_⟩
  have hi : i < m := by rw [← l]; exact (List.getElem?_eq_some_iff.mp hd).1
  refine ⟨hi, fun x H2 ⟨e, hx⟩ => ⟨e, ?_⟩⟩
  subst hx
  unfold rngD at hd
  rw [List.getElem?_map, List.getElem?_range hi] at hd
  cases hd
  exact .sc _
instance sis_rng1 {ta : TA} {fa : En → Option (List D)} [A : SA K n ta fa] : SIs K n (iRng1 ta) (fun ρ => (fa ρ).bind rng1) := ⟨fun {σ hv H U ρ τv τd ds R} I h k => by
  obtain ⟨a, h1, h2⟩ := Option.bind_eq_some_iff.mp h
  refine A.s I h1 fun vs H1 s1 w => ?_
  obtain ⟨j, e, c1, c2, e2⟩ := rng1_vs w h2
  subst e2
  exact ⟨j, e, c1, c2, k _ _ H1 s1 (rng_walkS 0 _) trivial⟩⟩
theorem vwl_step {cs : List D} (h : VwL K H (fun b => ¬ U b) vs cs) (st : Stp U H U' H') (mu : ∀ b, U b → Mut (H b)) : VwL K H' (fun b => ¬ U' b) vs cs := ⟨h.1, fun i v d a b => (h.2 i v d a b).over (fun b o nb q => st b o q nb) (st.stay mu)⟩
theorem ro_walkS {R : It → Hp → Prop} (w : Vw K H (fun b => ¬ U b) v d) (h : itemsD d = some ds) (k : ∀ J P, WalkS K J ds P → P H U → R J H) :
    (∃ a, v = .ref a ∧ (∃ xs, SqL K H a xs) ∧ R (Itl K a) H) ∨ (∃ a, v = .ref a ∧ (∃ xs, SqT K H a xs) ∧ R (Itt K a) H) ∨ ∃ z, v = .str z ∧ R (Its z) H := by
  unfold itemsD at h
  split at h
  · next cs =>
    cases h
    obtain ⟨a, vs, rfl, na, hc, hl, kid⟩ := w.node
    refine .inl ⟨a, rfl, ⟨vs, SqL.of hc.2⟩, k _ (fun H U => H a = some (.lst vs) ∧ ¬ U a ∧ VwL K H (fun b => ¬ U b) vs ds) ⟨fun {H H' U U'} ⟨x1, x2, x3⟩ st mu => ⟨(st _ _ x1 x2).1, (st _ _ x1 x2).2, vwl_step x3 st mu⟩, fun {H U} ⟨x1, _, x3⟩ => ⟨vs, SqL.of x1, by rw [x3.1]; exact Nat.le_refl _⟩, fun {H U i d} ⟨x1, x2, x3⟩ hd => ?_⟩ ⟨hc.2, na rfl, hl, kid⟩⟩
    obtain ⟨u, hu, w⟩ := x3.get hd
    exact ⟨⟨vs, u, SqL.of x1, hu⟩, fun x H2 ⟨e, q⟩ => ⟨e, by
      have := q vs (SqL.of x1)
      rw [hu] at this; cases this
      exact w⟩⟩
  · next cs =>
    cases h
    obtain ⟨a, vs, rfl, na, hc, hl, kid⟩ := w.node
    refine .inr (.inl ⟨a, rfl, ⟨vs, SqT.of hc.2⟩, k _ (fun H U => H a = some (.tup vs) ∧ VwL K H (fun b => ¬ U b) vs ds) ⟨fun {H H' U U'} ⟨x1, x3⟩ st mu => ⟨st.stay mu _ _ (fun z => z) x1, vwl_step x3 st mu⟩, fun {H U} ⟨x1, x3⟩ => ⟨vs, SqT.of x1, by rw [x3.1]; exact Nat.le_refl _⟩, fun {H U i d} ⟨x1, x3⟩ hd => ?_⟩ ⟨hc.2, hl, kid⟩⟩)
    obtain ⟨u, hu, w⟩ := x3.get hd
    exact ⟨⟨vs, u, SqT.of x1, hu⟩, fun x H2 ⟨e, q⟩ => ⟨e, by
      have := q vs (SqT.of x1)
      rw [hu] at this; cases this
      exact w⟩⟩
  · next cs =>
    cases h
    obtain ⟨a, vs, rfl, na, hc, hl, kid⟩ := w.node
    have ho : FrL K H a vs := hc.2
    refine .inl ⟨a, rfl, ⟨vs, ho.sq⟩, k _ (fun H U => FrL K H a vs ∧ VwL K H (fun b => ¬ U b) vs ds) ⟨fun {H H' U U'} ⟨x1, x3⟩ st mu => ⟨x1.stay (st.stay mu), vwl_step x3 st mu⟩, fun {H U} ⟨x1, x3⟩ => ⟨vs, x1.sq, by rw [x3.1]; exact Nat.le_refl _⟩, fun {H U i d} ⟨x1, x3⟩ hd => ?_⟩ ⟨ho, hl, kid⟩⟩
    obtain ⟨u, hu, w⟩ := x3.get hd
    exact ⟨⟨vs, u, x1.sq, hu⟩, fun x H2 ⟨e, q⟩ => ⟨e, by
      have := q vs (x1.sq)
      rw [hu] at this; cases this
      exact w⟩⟩
  · next z =>
    cases h
    have lz : (chars z).length = z.cps.size := by unfold chars; simp
    refine .inr (.inr ⟨z, w.scal, k _ (fun _ _ => True) ⟨fun _ _ _ => trivial, fun {H U} _ => by show z.cps.size ≤ _; rw [lz]; exact Nat.le_refl _, fun {H U i d} _ hd => ?_⟩ trivial⟩)
    have hi : i < z.cps.size := by rw [← lz]; exact (List.getElem?_eq_some_iff.mp hd).1
    refine ⟨hi, fun x H2 ⟨e, c, hc, hx⟩ => ⟨e, ?_⟩⟩
    subst hx
    unfold chars at hd
    rw [List.getElem?_map] at hd
    have : z.cps.toList[i]? = some c := by simpa using hc
    rw [this] at hd
    cases hd
    exact .sc _
  · cases h
theorem Own.out (o : Own K H H' v d) (mu : ∀ b, U b → Mut (H b)) : Vw K H' (fun b => ¬ U b) v d := by
  obtain ⟨G, r, f⟩ := o
  exact r.view fun b z u => by
    obtain ⟨w, q⟩ := mut_some (mu b u)
    rw [(f b z).1] at q; cases q
instance (priority := 400) sis_new {tl : TE} {fl : En → Option D} [A : SQ K n tl fl] : SIs K n (iAny K tl) (fun ρ => (fl ρ).bind itemsD) := ⟨fun {σ hv H U ρ τv τd ds R} I h k => by
  obtain ⟨d, h1, h2⟩ := Option.bind_eq_some_iff.mp h
  exact A.o I h1 fun x H1 s1 o => ro_walkS (o.out I.ok.mu) h2 fun J P wk p => k J P H1 s1 wk p⟩
def forL (fg : D → En → Option En) (fb : En → Option Fl) : List D → En → Option Fl
  | [], ρ => some (.nx ρ)
  | d :: ds, ρ => (fg d ρ).bind fun ρ1 => (fb ρ1).bind fun
    | .nx ρ2 => forL fg fb ds ρ2
    | .ct ρ2 => forL fg fb ds ρ2
    | .bk ρ2 => some (.nx ρ2)
    | .rt d ρ2 => some (.rt d ρ2)
instance ss_for {wi : TI} {g : TG} {tb : TS} {fi : En → Option (List D)} {fg : D → En → Option En} {is : List Nat} {fb : En → Option Fl} [A : SIs K n wi fi] [G : SG K n g fg is] [B' : SS K n tb fb] : SS K n (tFor wi g tb) (fun ρ => (fi ρ).bind fun ds => forL fg fb ds ρ) := ⟨fun {σ hv H U ρ τv τd fl E} I h k => by
  obtain ⟨ds, h1, h⟩ := Option.bind_eq_some_iff.mp h
  refine A.s I h1 fun J P H1 s1 wk p0 => ?_
  have stS : Stp U H U H1 := fun b o q nu => ⟨s1 b o q, nu⟩
  refine ⟨fun i m σ' H' => m = ds.length - i ∧ i ≤ ds.length ∧ ∃ U' ρ', Sit K n H' U' σ' hv ρ' τv τd ∧ Stp U H U' H' ∧ P H' U' ∧ forL fg fb (ds.drop i) ρ' = some fl, ⟨ds.length, by simp, Nat.zero_le _, U, ρ, I.same s1, stS, p0, h⟩, ?_⟩
  rintro i m σ' H' ⟨rfl, hi, U', ρ', Ix, st, p, fo⟩
  by_cases hlt : i < ds.length
  · right
    have hd : ds[i]? = some ds[i] := List.getElem?_eq_getElem hlt
    obtain ⟨go, yl⟩ := wk.item p hd
    rw [List.drop_eq_getElem_cons hlt, forL] at fo
    obtain ⟨ρ1, b1, fo⟩ := Option.bind_eq_some_iff.mp fo
    obtain ⟨fl1, b2, fo⟩ := Option.bind_eq_some_iff.mp fo
    refine ⟨go, fun σ2 H2 => ∃ U2 ρ2, Sit K n H2 U2 σ2 hv ρ2 τv τd ∧ Stp U' H' U2 H2 ∧ forL fg fb (ds.drop (i + 1)) ρ2 = some fl, fun σ2 H2 ⟨U2, ρ2, a1, a2, a3⟩ => ⟨_, by omega, rfl, hlt, U2, ρ2, a1, st.trans a2, wk.step p a2 Ix.ok.mu, a3⟩, fun x H2 y2 => ?_⟩
    obtain ⟨e, w2⟩ := yl x H2 y2
    subst e
    refine G.s Ix w2 b1 fun σ2 I2 => ?_
    refine B'.s I2 b2 ?_
    cases fl1 with
    | nx ρ2 => exact fun σ3 H3 U3 I3 s3 => ⟨U3, ρ2, I3, s3, fo⟩
    | ct ρ2 => exact fun σ3 H3 U3 I3 s3 => ⟨U3, ρ2, I3, s3, fo⟩
    | bk ρ2 => cases fo; exact fun σ3 H3 U3 I3 s3 => k σ3 H3 U3 I3 (st.trans s3)
    | rt d ρ2 => cases fo; exact fun v σ3 H3 U3 I3 s3 => k v σ3 H3 U3 I3 (st.trans s3)
  · left
    have e : i = ds.length := by omega
    subst e
    rw [List.drop_length, forL] at fo
    cases fo
    exact ⟨wk.stop p, k σ' H' U' Ix st⟩⟩
open Classical in
end
end VL
namespace VL
open PySem PySem.Spec PyProof.Rows L2
section
variable {K : W.Frag} {n : Nat} {H H' H1 H2 : Hp} {U U' : Addr → Prop} {σ hv : List (Option V)} {ρ ρ' : En} {τv vs : List V} {τd ds : List D} {v y : V} {d : D} {E : XK} {N : Addr → Prop} {C : Addr} {m : Str}
theorem posF_none {f : Str} : ∀ {ns : List Str} {vs : List V}, posF f ns = none → ns.length = vs.length → (ns.zip vs).lookup f = none
  | [], [], _, _ => rfl
  | [], _ :: _, _, h => by cases h
  | g :: r, [], _, h => by cases h
  | g :: r, v :: vs, h, hl => by
    rw [posF] at h
    rw [List.zip_cons_cons, List.lookup_cons]
    by_cases c : (f == g) = true
    · rw [if_pos c] at h; cases h
    · rw [if_neg c] at h
      rw [Bool.not_eq_true] at c
      rw [c]
      exact posF_none (Option.map_eq_none_iff.mp h) (Nat.succ.inj hl)
def isObjOf (C : Addr) (m : Str) : D → Bool
  | .nd (.obj C' ns) _ => decide (C' = C) && (posF m ns).isNone
  | _ => false
theorem Vw.objOf (w : Vw K H N v d) (h : isObjOf C m d = true) : ∃ a dx fs, v = .ref a ∧ H a = some (.ins C dx fs) ∧ fs.lookup m = none := by
  unfold isObjOf at h
  split at h
  · next C' ns cs =>
    rw [Bool.and_eq_true] at h
    obtain ⟨a, vs, rfl, _, hc, hl, kid⟩ := w.node
    obtain ⟨⟨hf, _, _⟩, dx, ha⟩ := hc
    have e : C' = C := by simpa using h.1
    subst e
    exact ⟨a, dx, _, rfl, ha, posF_none (by simpa using h.2) hf⟩
  · cases h
def methP (G : List D → Option D) (C : Addr) (m : Str) (k : Nat) (fa : En → Option D) (fr : En → Option (List D)) (ρ : En) : Option D := (fa ρ).bind fun d => if isObjOf C m d = true then (fr ρ).bind fun ds => if ds.length + 1 = k then G (d :: ds) else none else none
instance sf_meth {ta : TE} {t : TA} {k : Nat} {G : List D → Option D} {fa : En → Option D} {fr : En → Option (List D)} [A : SV K n ta fa] [R : SA K n t fr] : SF K n (tMeth C m (spP K k G) [] E ta t) (methP G C m k fa fr) := ⟨fun {σ hv H U ρ τv τd d Q} I h kk => by
  obtain ⟨x, h1, h⟩ := Option.bind_eq_some_iff.mp h
  by_cases c : isObjOf C m x = true
  · rw [if_pos c] at h
    obtain ⟨ds, h2, h⟩ := Option.bind_eq_some_iff.mp h
    by_cases cl : ds.length + 1 = k
    · rw [if_pos cl] at h
      refine A.s I h1 fun v H1 s1 w1 => ?_
      obtain ⟨a, dx, fs, rfl, ha, hl⟩ := w1.objOf c
      refine ⟨a, dx, fs, rfl, ha, hl, R.s (I.same s1) h2 fun vs H2 s2 w2 => ?_⟩
      rw [List.append_nil]
      exact ⟨x :: ds, d, cl, .cons (w1.same s2) w2, h, fun v H3 s3 o => kk v H3 (s1.trans (s2.trans s3)) (o.early (s1.trans s2))⟩
    · rw [if_neg cl] at h; cases h
  · rw [if_neg c] at h; cases h⟩
def methI (G : List D → Option (D × List D)) (C : Addr) (m : Str) (fp : En → Option Pl) (fr : En → Option (List Ar)) (ρ : En) : Option (D × En) := (fp ρ).bind fun q => (plD ρ q).bind fun d => if isObjOf C m d = true then (match q with
  | .rt r p => (fr ρ).bind fun as => callR G (.io ⟨r, p⟩ :: as) ρ
  | .ro _ => none) else none
instance (priority := 600) sm_meth {ta : TE} {t : TA} {mask : List Bool} {G : List D → Option (D × List D)} {fp : En → Option Pl} {fr : En → Option (List Ar)} [P : SP K n ta fp] [R : SCp K n mask t fr] : SM K n (tMeth C m (spI K (true :: mask) G) [] E ta t) (methI G C m fp fr) := ⟨fun {σ hv H U ρ ρ' τv τd d Q} I h k => by
  obtain ⟨q, h1, h⟩ := Option.bind_eq_some_iff.mp h
  obtain ⟨x, h2, h⟩ := Option.bind_eq_some_iff.mp h
  by_cases c : isObjOf C m x = true
  · rw [if_pos c] at h
    cases q with
    | ro _ => cases h
    | rt r p =>
      obtain ⟨as, h3, h⟩ := Option.bind_eq_some_iff.mp h
      refine P.s I h1 fun v H1 s1 w1 => ?_
      have I1 := I.same s1
      have stS : Stp U H U H1 := fun b o q nu => ⟨s1 b o q, nu⟩
      obtain ⟨a, dx, fs, rfl, ha, hl⟩ := (I1.at w1 h2).objOf c
      refine ⟨a, dx, fs, rfl, ha, hl, R.s I1 h3 fun vs ws wd H2 U2 I2 hl2 st2 s2 ao => ?_⟩
      rw [List.append_nil]
      exact I2.callI hl2 (stS.trans st2) (.io (i := ⟨r, p⟩) (w1.step s2 st2) ao) h k
  · rw [if_neg c] at h; cases h⟩
class ClsI (K : W.Frag) (C : Addr) : Prop where
  h : Cls K C
theorem ioL_falses {α : Type} : ∀ (k : Nat) (xs : List α), ioL (List.replicate k false) xs = []
  | 0, _ => by simp [ioL]
  | k + 1, [] => by simp [ioL, List.replicate]
  | k + 1, x :: xs => by rw [List.replicate_succ, ioL]; exact ioL_falses k xs
theorem make_new {k : Nat} {G : List D → Option (D × List D)} {out r : D} {x dx : Addr} {Q : VK} (hC : Cls K C) (w : VwL K H T1 vs ds) (hk : ds.length = k) (hG : G (.nd (.obj C []) [] :: ds) = some (r, [out])) (hr : r = .sc .non) (hx : H x = none) (hdx : H dx = none) (ne : dx ≠ x)
    (q : ∀ H', Same H H' → Own K H H' (.ref x) out → Q (.ref x) H') : spI K (true :: List.replicate k false) G (.ref x :: vs) (upd (upd H dx (.own x)) x (.ins C dx [])) (fun v H2 => v = .non ∧ Q (.ref x) H2) E := by
  have s0 : Same H (upd (upd H dx (.own x)) x (.ins C dx [])) := fun b o e => by
    rw [upd_ne (ne_of_none e hx), upd_ne (ne_of_none e hdx)]; exact e
  have hat : upd (upd H dx (.own x)) x (.ins C dx []) x = some (.ins C dx []) := upd_same
  refine ⟨by rw [List.length_cons, List.length_cons, List.length_replicate, w.1, hk], .nd (.obj C []) [] :: ds, fun b => b = x, r, [out], by rw [List.length_cons, List.length_cons, List.length_replicate, hk], ?_, fun i u e hm hu he => ?_, hG, fun v H2 U2 ok st => ?_⟩
  · rw [ioL, ioL, ioL_falses, ioL_falses]
    refine ⟨rfl, fun b hb => by rw [hb, hat]; trivial, fun i b => i = 0 ∧ b = x, fun i j b hi hj => by rw [hi.1, hj.1], fun i b hb => hb.2, fun i β hβ => ?_⟩
    cases i with
    | succ i => simp [owns] at hβ
    | zero =>
      cases hβ
      refine ⟨.ref x, rfl, .nd (vs := []) (fun _ _ => False) ?_ rfl (fun _ _ _ z => z.elim) (fun _ _ z => z.elim) fun i v d h => by simp at h⟩
      exact ⟨⟨rfl, rfl⟩, rfl, ⟨rfl, hC, fun f hf => by simp at hf⟩, dx, hat⟩
  · cases i with
    | zero => cases hm
    | succ i =>
      have a : vs[i]? = some u := by simpa using hu
      have b : ds[i]? = some e := by simpa using he
      exact (w.2 i u e a b).over (fun c o _ q => ⟨s0 c o q, fun z => by rw [z, hx] at q; cases q⟩) (Stay.of s0)
  · subst hr
    rw [ioL, ioL_falses] at ok
    obtain ⟨_, mu, Fs, dj, sub, sl⟩ := ok
    obtain ⟨v', ev, sv⟩ := sl 0 (.own (.sc .non)) rfl
    cases ev
    have e0 : v = .non := Rep.scal sv
    obtain ⟨x', ex, sx⟩ := sl 1 (.own out) rfl
    cases ex
    refine ⟨e0, q H2 (fun b o e => (st b o (s0 b o e) fun z => by rw [z, hx] at e; cases e).1) ⟨Fs 1, sx, fun b z => ⟨?_, mu b (sub 1 b z)⟩⟩⟩
    cases e : H b with
    | none => rfl
    | some o => exact absurd (sub 1 b z) (st b o (s0 b o e) fun z => by rw [z, hx] at e; cases e).2
def isNon : D → Bool
  | .sc .non => true
  | _ => false
instance sf_dnewK : SF K n tDNewK (fun _ => some (.nd (.dic []) [])) := ⟨fun {σ hv H U ρ τv τd d Q} I h k => by
  cases h
  intro p hp
  exact k _ _ (same_new hp _) ((OwnL.nil (K := K) (H := H) (H' := H)).node (k := .dic []) (Same.refl H) hp (.inr ⟨rfl, rfl, 0, rfl⟩))⟩
theorem isD_of {k : Kd} {a : Addr} {cs : List D} {dy : D} {o : Option Nat} (hc : Cell K H a k vs) (h : dkPos (.nd k cs) dy = some o) : IsD H a := by
  unfold dkPos at h
  split at h
  · next ks _ i e => cases e; exact .inl ⟨_, hc.2⟩
  · next ks _ cs' e => cases e; exact .inr ⟨_, hc.2⟩
  · cases h
def dget2 (fd fy fx : En → Option D) (ρ : En) : Option D := (fd ρ).bind fun d => (fy ρ).bind fun y => (fx ρ).bind fun x => (dkPos d y).bind fun
  | some i => kidD d i
  | none => some x
instance sv_dget2 {td ty tx : TE} {fd fy fx : En → Option D} [A : SV K n td fd] [B' : SV K n ty fy] [C' : SV K n tx fx] : SV K n (tDGet2 td ty tx) (dget2 fd fy fx) := ⟨fun {σ hv H U ρ τv τd d Q} I h k => by
  obtain ⟨x, h1, h⟩ := Option.bind_eq_some_iff.mp h
  obtain ⟨y, h2, h⟩ := Option.bind_eq_some_iff.mp h
  obtain ⟨z, h3, h⟩ := Option.bind_eq_some_iff.mp h
  obtain ⟨o, h4, h⟩ := Option.bind_eq_some_iff.mp h
  refine A.s I h1 fun v H1 s1 w1 => ?_
  cases x with
  | sc _ => simp [dkPos] at h4
  | hl _ => simp [dkPos] at h4
  | nd kk cs =>
    obtain ⟨a, vs, rfl, _, hc, hl, kid⟩ := w1.node
    refine ⟨a, rfl, isD_of hc h4, B'.s (I.same s1) h2 fun u H2 s2 w2 => C'.s ((I.same s1).same s2) h3 fun t H3 s3 w3 => ?_⟩
    have hc3 : Cell K H3 a kk vs := hc.frame (fun _ o e => (s2.trans s3) _ _ e) (Stay.of (s2.trans s3))
    have g := hc3.dget hl (w2.same s3) h4
    cases o with
    | none =>
      have h : some z = some d := h
      cases h
      exact ⟨_, g, k t H3 (s1.trans (s2.trans s3)) w3⟩
    | some i =>
      have h : cs[i]? = some d := h
      obtain ⟨b, hb⟩ := sat_get hl h
      have e : (some i).bind (vs[·]?) = some b := hb
      rw [e] at g
      exact ⟨_, g, k b H3 (s1.trans (s2.trans s3)) ((kid i b d hb h).same (s2.trans s3))⟩⟩
section
variable {κ : Type} [DecidableEq κ]
theorem posK_put {k : κ} {y : V} : ∀ {ks : List κ} {vs : List V} {i : Nat}, posK k ks = some i → ks.length = vs.length → ks.Nodup → putK (ks.zip vs) k y = ks.zip (vs.set i y) := fun {ks vs i} h hl nd => by
  have ha : ((ks.zip vs).any fun kv => decide (kv.1 = k)) = true := by rw [posK_any hl, h]; rfl
  unfold putK
  rw [if_pos ha]
  clear ha
  induction ks generalizing vs i with
  | nil => cases h
  | cons g r ih =>
    match vs, hl with
    | [], hl => cases hl
    | v :: vs, hl =>
      rw [posK] at h
      have ndc := List.nodup_cons.mp nd
      by_cases c : g = k
      · rw [if_pos c] at h; cases h
        rw [List.zip_cons_cons, List.map_cons]
        have rest : ∀ (l : List κ) (us : List V), k ∉ l → (l.zip us).map (fun kv => if kv.1 = k then (kv.1, y) else kv) = l.zip us := by
          intro l
          induction l with
          | nil => intro us _; rfl
          | cons b l ih2 =>
            intro us hn
            cases us with
            | nil => rfl
            | cons u us =>
              rw [List.zip_cons_cons, List.map_cons, ih2 us fun z => hn (.tail _ z)]
              have : ¬ b = k := fun z => hn (by rw [z]; exact .head _)
              simp [this]
        rw [rest r vs (by rw [← c]; exact ndc.1)]
        simp [c]
      · rw [if_neg c] at h
        obtain ⟨j, h1, h2⟩ := Option.map_eq_some_iff.mp h
        subst h2
        rw [List.zip_cons_cons, List.map_cons, ih h1 (Nat.succ.inj hl) ndc.2]
        simp [c]
theorem posK_app {k : κ} {y : V} {ks : List κ} {vs : List V} (h : posK k ks = none) (hl : ks.length = vs.length) : putK (ks.zip vs) k y = (ks ++ [k]).zip (vs ++ [y]) := by
  have ha : ((ks.zip vs).any fun kv => decide (kv.1 = k)) = false := by rw [posK_any hl, h]; rfl
  unfold putK
  rw [if_neg (by rw [ha]; exact Bool.false_ne_true), List.zip_append hl]
  rfl
end
def dPut (k : Kd) (cs : List D) (y d : D) : Option D := match k with
  | .dic ks => (keyOf y).bind fun key => if cs.length < sizeLine ∧ ks.Nodup then (match posK key ks with
    | some i => some (.nd (.dic ks) (cs.set i d))
    | none => some (.nd (.dic (ks ++ [key])) (cs ++ [d]))) else none
  | _ => none
def dputF (fv : En → Option (D × En)) (fp : En → Option Pl) (fy : En → Option D) (ρ : En) : Option Fl := (fv ρ).bind fun a => (fp a.2).bind fun
  | .rt r p => (fy a.2).bind fun y => (nodeAt a.2 r p).bind fun z => (dPut z.2.1 z.2.2 y a.1).map fun d' => .nx (editE a.2 r z.1 p d')
  | .ro _ => none
instance ss_dput {td ty tv : TE} {fv : En → Option (D × En)} {fp : En → Option Pl} {fy : En → Option D} [A : SM K n tv fv] [P : SP K n td fp] [Y : SV K n ty fy] : SS K n (sDPut td ty tv) (dputF fv fp fy) := ⟨fun {σ hv H U ρ τv τd fl E} I h k => by
  obtain ⟨⟨d, ρ1⟩, h1, h⟩ := Option.bind_eq_some_iff.mp h
  obtain ⟨q, h2, h⟩ := Option.bind_eq_some_iff.mp h
  cases q with
  | ro _ => cases h
  | rt r p =>
    obtain ⟨y, h5, h⟩ := Option.bind_eq_some_iff.mp h
    obtain ⟨⟨d0, kk, cs⟩, h3, h⟩ := Option.bind_eq_some_iff.mp h
    obtain ⟨d', h4, h⟩ := Option.map_eq_some_iff.mp h
    subst h
    obtain ⟨hr, hg⟩ := nodeAt_of h3
    refine A.s I h1 fun x H1 U1 I1 st1 => ?_
    refine P.s I1 h2 fun o H2 s2 w2 => ?_
    have I2 := I1.same s2
    refine Y.s I2 h5 fun u H3 s3 w3 => ?_
    have I3 := I2.same s3
    have w2' := w2.same s3
    have stS : Stp U1 H1 U1 H3 := fun b o q nu => ⟨(s2.trans s3) b o q, nu⟩
    unfold dPut at h4
    split at h4
    · next ks e =>
      have e : kk = .dic ks := e
      subst e
      obtain ⟨key, e1, h4⟩ := Option.bind_eq_some_iff.mp h4
      by_cases c : cs.length < sizeLine ∧ ks.Nodup
      · rw [if_pos c] at h4
        obtain ⟨a, dx, vs, rfl, ha, hf, hl, _, ed⟩ := Sit.edit (xs := [x]) (ds := [d]) I3 rfl w2' hr hg rfl
        have hf : ks.length = vs.length := hf
        split at h4
        · next i e2 =>
          cases h4
          have hi : i < vs.length := by rw [← hf]; exact posK_lt e2
          refine ⟨a, _, rfl, .inl ⟨_, key, ha, w3.key e1, by rw [List.length_zip]; omega, rfl⟩, ?_⟩
          rw [posK_put e2 hf c.2]
          obtain ⟨U4, I4, st4⟩ := ed (.dic ks) (vs.set i x) (cs.set i d) (fun j => if j = i then vs.length else j) rfl (by show ks.length = (vs.set i x).length; rw [List.length_set]; exact hf) (by rw [List.length_set, List.length_set]; exact hl)
            (fun x z hx hz => sel_inj hi x z (by rw [List.length_set] at hx; exact hx) (by rw [List.length_set] at hz; exact hz)) (sel_set hi) (by rw [hl]; exact sel_set (by omega))
          exact k σ _ U4 I4 (st1.trans (stS.trans st4))
        · next e2 =>
          cases h4
          refine ⟨a, _, rfl, .inl ⟨_, key, ha, w3.key e1, by rw [List.length_zip]; omega, rfl⟩, ?_⟩
          rw [posK_app e2 hf]
          obtain ⟨U4, I4, st4⟩ := ed (.dic (ks ++ [key])) (vs ++ [x]) (cs ++ [d]) id rfl (by show (ks ++ [key]).length = _; simp; exact hf) (by simp; exact hl) (fun x z _ _ h => h) (fun j x h => h) fun j x h => h
          exact k σ _ U4 I4 (st1.trans (stS.trans st4))
      · rw [if_neg c] at h4; cases h4
    · cases h4⟩
end
end VL
namespace HT
open PySem PySem.Spec PyProof.Rows L2
section
variable {prog : Program} {w : World} {A : Around} {E : Value → Shared → Prop} {s : Shared}
theorem getItem_tuple_all {t sl : Addr} {items : Array Value} {vl vu : Value} {lo hi : Option Int} {Q : Value → Shared → Prop} (ht : IsTup s.heap t items) (hs : s.heap.IsSliceOf sl vl vu .none) (pl : IsPart vl lo) (pu : IsPart vu hi)
    (hw : sIx items.size 0 lo = 0 ∧ sIx items.size items.size hi = items.size) (h : Q (.ref t) s) : wpAny (model prog w) A (getItem (.ref t) (.ref sl)) Q E s := by
  obtain ⟨os, hos, hcs, hds⟩ := id hs
  have hTs : s.TypeIs (.ref sl) "slice" := ⟨os, hos, hcs⟩
  unfold getItem
  try with_reducible refine wpAny_holding ?_
  first | refine wpAny_bind (wpAny_pure ?_) | skip
  refine wpAny_bind (wpAny_sequenceKey ht.typeIs (by decide) ?_)
  refine wpAny_bind (wpAny_callSpecial?_slot (name := Str.ofString "__getitem__") ht.typeIs PyProof.Rows.slot_tuple_getitem
    (wpAny_call_entry PyProof.Rows.slot_tuple_getitem ht.typeIs entry_tuple_getitem ?_ (args_tuple_getitem _ _)))
  show wpAny _ _ (Builtin.Tuple.tupleItemsOf (.ref t) >>= _) _ _ s
  refine wpAny_bind (tupleItemsOf_ ht ?_)
  refine wpAny_bind (wpAny_typeOf hTs ?_)
  rw [if_pos (by decide)]
  refine wpAny_bind (sliceApplied_gen hs pl pu ?_)
  have hyes : (((sIx items.size 0 lo : Nat) : Int) == 0 && (1 : Int) == 1 && (sIx items.size items.size hi - sIx items.size 0 lo) == items.size) = true := by
    rw [hw.1, hw.2]
    simp
  show wpAny _ _ (if (((sIx items.size 0 lo : Nat) : Int) == 0 && (1 : Int) == 1 && (sIx items.size items.size hi - sIx items.size 0 lo) == items.size) = true then _ else _) _ _ s
  rw [if_pos hyes]
  unfold Builtin.Tuple.tupleIsExact
  refine wpAny_bind (wpAny_bind (wpAny_typeOf ht.typeIs (wpAny_pure ?_)))
  rw [if_pos (by decide)]
  exact wpAny_bind (wpAny_rule (wpAny_pure ⟨_, rfl, wpAny_pure h⟩))
end
end HT
namespace VL
open PySem PySem.Spec PyProof.Rows L2
def rSlTA (K : W.Frag) : V → Option Int → Option Int → Hp → VK → Prop := fun x lo hi H Q => ∃ a xs, x = .ref a ∧ SqT K H a xs ∧ (HT.sIx xs.length 0 lo = 0 ∧ HT.sIx xs.length xs.length hi = xs.length) ∧ Q (.ref a) H
theorem sl_tupA {X : Cx} : SlR X (rSlTA X.K) := by
  intro pins s σ H x v vl vu lo hi sl Q I rx hs pl pu h
  obtain ⟨a, xs, rfl, hx, hw, q⟩ := h
  cases rx
  obtain ⟨its, r, ht, hz⟩ := I.tuple hx
  have hlen : its.toArray.size = xs.length := by rw [List.size_toArray]; exact r.length.symm
  refine ⟨"tuple", _, PyProof.Rows.slot_tuple_getitem.lookup, ht.typeIs, ?_⟩
  exact HT.getItem_tuple_all ht hs pl pu (by rw [hlen]; exact hw) ⟨.ref a, H, I, rfl, q⟩
def rSlStr : V → Option Int → Option Int → Hp → VK → Prop := fun x lo hi H Q => ∃ z, x = .str z ∧ z.length ≤ sizeLine ∧ Q (.str (Txt.slice z lo hi)) H
def rSlU (K : W.Frag) : V → Option Int → Option Int → Hp → VK → Prop := fun x lo hi H Q => rSlT K x lo hi H Q ∨ rSlTA K x lo hi H Q ∨ rSlL K x lo hi H Q ∨ rSlStr x lo hi H Q
theorem sl_any {X : Cx} : SlR X (rSlU X.K) := SlR.or sl_tup (SlR.or sl_tupA (SlR.or sl_list sl_str))
def cutD {α : Type} (xs : List α) (lo hi : Option Int) : List α := (xs.drop (HT.sIx xs.length 0 lo)).take (HT.sIx xs.length xs.length hi - HT.sIx xs.length 0 lo)
def slD (a : D) (lo hi : Option Int) : Option D := match a with
  | .nd .tup cs => if plainL cs = true then some (.nd .tup (cutD cs lo hi)) else none
  | .nd .lst cs => if plainL cs = true then some (.nd .lst (cutD cs lo hi)) else none
  | .nd .frl cs => if plainL cs = true then some (.nd .lst (cutD cs lo hi)) else none
  | .sc (.str z) => if z.length ≤ sizeLine then some (.sc (.str (Txt.slice z lo hi))) else none
  | _ => none
section
variable {K : W.Frag} {n : Nat} {H H' H1 H2 : Hp} {U U' : Addr → Prop} {σ hv : List (Option V)} {ρ ρ' : En} {τv vs : List V} {τd ds : List D} {v y : V} {d : D} {N : Addr → Prop}
theorem cut_get {α β : Type} {R : α → β → Prop} {xs : List α} {ys : List β} (hl : xs.length = ys.length) (h : ∀ (i : Nat) (x : α) (y : β), xs[i]? = some x → ys[i]? = some y → R x y) (lo hi : Option Int) :
    (cutD xs lo hi).length = (cutD ys lo hi).length ∧ ∀ (i : Nat) (x : α) (y : β), (cutD xs lo hi)[i]? = some x → (cutD ys lo hi)[i]? = some y → R x y := by
  unfold cutD
  rw [hl]
  generalize HT.sIx ys.length 0 lo = p
  generalize HT.sIx ys.length ys.length hi - p = q
  refine ⟨by simp [hl], fun i x y hx hy => ?_⟩
  by_cases c : i < q
  · rw [List.getElem?_take_of_lt c, List.getElem?_drop] at hx hy
    exact h _ x y hx hy
  · rw [List.getElem?_take, if_neg c] at hx
    cases hx
theorem plainL_sub {cs es : List D} (h : plainL cs = true) (hs : ∀ d ∈ es, d ∈ cs) : plainL es = true := plainL_of fun d hd => plainL_mem h (hs d hd)
theorem cut_mem {α : Type} {xs : List α} {lo hi : Option Int} : ∀ x ∈ cutD xs lo hi, x ∈ xs := fun x hx => List.mem_of_mem_drop (List.mem_of_mem_take hx)
class SO (K : W.Frag) (n : Nat) (t : TO) (f : outParam (En → Option (Option Int))) : Prop where
  s : ∀ {σ hv : List (Option V)} {H : Hp} {U : Addr → Prop} {ρ : En} {τv : List V} {τd : List D} {o : Option Int} {Q : Option Int → Hp → Prop}, Sit K n H U σ hv ρ τv τd → f ρ = some o → (∀ H', Same H H' → Q o H') → t σ H Q
instance so_none : SO K n tNoPart (fun _ => some none) := ⟨fun I h k => by cases h; exact k _ (Same.refl _)⟩
def toInt : D → Option (Option Int)
  | .sc (.int i) => some (some i)
  | _ => none
instance so_some {t : TE} {f : En → Option D} [A : SV K n t f] : SO K n (tPart t) (fun ρ => (f ρ).bind toInt) := ⟨fun {σ hv H U ρ τv τd o Q} I h k => by
  obtain ⟨d, h1, h2⟩ := Option.bind_eq_some_iff.mp h
  refine A.s I h1 fun v H1 s1 w1 => ?_
  unfold toInt at h2
  split at h2
  · next i => cases h2; exact ⟨i, w1.scal, k H1 s1⟩
  · cases h2⟩
theorem slD_run {Q : VK} {x : D} {lo hi : Option Int} (w : Vw K H T1 v x) (h : slD x lo hi = some d) (k : ∀ v H', Same H H' → Own K H H' v d → Q v H') : rSlU K v lo hi H Q := by
  unfold slD at h
  split at h
  · next cs =>
    by_cases c : plainL cs = true
    · rw [if_pos c] at h; cases h
      obtain ⟨a, vs, rfl, hc, vl⟩ := w.kids'
      by_cases cw : HT.sIx vs.length 0 lo = 0 ∧ HT.sIx vs.length vs.length hi = vs.length
      · refine .inr (.inl ⟨a, vs, rfl, SqT.of hc.2, cw, ?_⟩)
        have e : cutD cs lo hi = cs := by
          unfold cutD
          rw [← vl.1, cw.1, cw.2, List.drop_zero, Nat.sub_zero, vl.1, List.take_length]
        rw [e] at k
        exact k _ H (Same.refl H) (Own.plain w c)
      · refine .inl ⟨a, vs, rfl, SqT.of hc.2, cw, fun p hp => ?_⟩
        have g := cut_get vl.1 vl.2 lo hi
        exact k _ _ (same_new hp _) (VwL.own (k := .tup) ⟨g.1, g.2⟩ (plainL_sub c cut_mem) hp (.inl ⟨rfl, rfl⟩))
    · rw [if_neg c] at h; cases h
  · next cs =>
    by_cases c : plainL cs = true
    · rw [if_pos c] at h; cases h
      obtain ⟨a, vs, rfl, hc, vl⟩ := w.kids'
      refine .inr (.inr (.inl ⟨a, vs, rfl, SqL.of hc.2, fun p hp => ?_⟩))
      have g := cut_get vl.1 vl.2 lo hi
      exact k _ _ (same_new hp _) (VwL.own (k := .lst) ⟨g.1, g.2⟩ (plainL_sub c cut_mem) hp (.inr ⟨rfl, trivial, 0, rfl⟩))
    · rw [if_neg c] at h; cases h
  · next cs =>
    by_cases c : plainL cs = true
    · rw [if_pos c] at h; cases h
      obtain ⟨a, vs, rfl, hc, vl⟩ := w.kids'
      refine .inr (.inr (.inl ⟨a, vs, rfl, FrL.sq hc.2, fun p hp => ?_⟩))
      have g := cut_get vl.1 vl.2 lo hi
      exact k _ _ (same_new hp _) (VwL.own (k := .lst) ⟨g.1, g.2⟩ (plainL_sub c cut_mem) hp (.inr ⟨rfl, trivial, 0, rfl⟩))
    · rw [if_neg c] at h; cases h
  · next z =>
    by_cases c : z.length ≤ sizeLine
    · rw [if_pos c] at h; cases h; exact .inr (.inr (.inr ⟨z, w.scal, c, k _ H (Same.refl H) (.sc _)⟩))
    · rw [if_neg c] at h; cases h
  · cases h
def slF (fe : En → Option D) (fl fh : En → Option (Option Int)) (ρ : En) : Option D := (fe ρ).bind fun d => (fl ρ).bind fun lo => (fh ρ).bind fun hi => slD d lo hi
instance sf_sl {te : TE} {tl th : TO} {fe : En → Option D} {fl fh : En → Option (Option Int)} [A : SV K n te fe] [L : SO K n tl fl] [R : SO K n th fh] : SF K n (tSl (rSlU K) te tl th) (slF fe fl fh) := ⟨fun {σ hv H U ρ τv τd d Q} I h k => by
  obtain ⟨x, h1, h⟩ := Option.bind_eq_some_iff.mp h
  obtain ⟨lo, h2, h⟩ := Option.bind_eq_some_iff.mp h
  obtain ⟨hi, h3, h⟩ := Option.bind_eq_some_iff.mp h
  refine A.s I h1 fun v H1 s1 w1 => L.s (I.same s1) h2 fun H2 s2 => R.s ((I.same s1).same s2) h3 fun H3 s3 => ?_
  exact slD_run (w1.same (s2.trans s3)) h fun v H4 s4 o => k v H4 (s1.trans (s2.trans (s3.trans s4))) (o.early (s1.trans (s2.trans s3)))⟩
def setIx (i d : D) (cs : List D) : Option (List D) := match i with
  | .sc (.int j) => (ixN cs.length j).map fun p => cs.set p d
  | _ => none
theorem setIx_of {i d : D} {cs cs' : List D} (h : setIx i d cs = some cs') : ∃ j p, i = .sc (.int j) ∧ ixN cs.length j = some p ∧ cs' = cs.set p d := by
  unfold setIx at h
  split at h
  · next j =>
    obtain ⟨p, h1, h2⟩ := Option.map_eq_some_iff.mp h
    exact ⟨j, p, rfl, h1, h2.symm⟩
  · cases h
def setF (fe : En → Option (D × En)) (fp : En → Option Pl) (fi : En → Option D) (ρ : En) : Option Fl := (fe ρ).bind fun a => (fp a.2).bind fun
  | .rt r p => (fi a.2).bind fun i => (lstEd a.2 r p (setIx i a.1)).map .nx
  | .ro _ => none
instance ss_setL {te to ti : TE} {fe : En → Option (D × En)} {fp : En → Option Pl} {fi : En → Option D} [A : SM K n te fe] [P : SP K n to fp] [J : SV K n ti fi] : SS K n (tAsg te (gSub to ti rSetL)) (setF fe fp fi) := ⟨fun {σ hv H U ρ τv τd fl E} I h k => by
  obtain ⟨⟨d, ρ1⟩, h1, h⟩ := Option.bind_eq_some_iff.mp h
  obtain ⟨q, h2, h⟩ := Option.bind_eq_some_iff.mp h
  cases q with
  | ro _ => cases h
  | rt r p =>
    obtain ⟨i, h3, h⟩ := Option.bind_eq_some_iff.mp h
    obtain ⟨ρ2, h4, h⟩ := Option.map_eq_some_iff.mp h
    subst h
    refine A.s I h1 fun x H1 U1 I1 st1 => ?_
    refine P.s I1 h2 fun o H2 s2 w2 => ?_
    have I2 := I1.same s2
    refine J.s I2 h3 fun j H3 s3 w3 => ?_
    have I3 := I2.same s3
    have w2' := w2.same s3
    have stS : Stp U1 H1 U1 H3 := fun b o q nu => ⟨(s2.trans s3) b o q, nu⟩
    obtain ⟨⟨d0, kk, cs⟩, g1, g2⟩ := Option.bind_eq_some_iff.mp h4
    obtain ⟨hr, hg⟩ := nodeAt_of g1
    split at g2
    · next e =>
      have e : kk = .lst := e
      subst e
      obtain ⟨cs', g3, g4⟩ := Option.map_eq_some_iff.mp g2
      subst g4
      obtain ⟨z, pp, ei, g5, g6⟩ := setIx_of (show setIx i d cs = some cs' from g3)
      subst ei
      subst g6
      · skip
        obtain ⟨a, dx, vs, rfl, ha, hf, hl, _, ed⟩ := Sit.edit (xs := [x]) (ds := [d]) I3 rfl w2' hr hg rfl
        have hi : pp < vs.length := by rw [hl]; exact ixN_lt g5
        refine ⟨a, vs, z, pp, rfl, w3.scal, ha, by rw [hl]; exact g5, ?_⟩
        obtain ⟨U4, I4, st4⟩ := ed .lst (vs.set pp x) (cs.set pp d) (fun j => if j = pp then vs.length else j) rfl trivial (by rw [List.length_set, List.length_set]; exact hl)
          (fun x z hx hz => sel_inj hi x z (by rw [List.length_set] at hx; exact hx) (by rw [List.length_set] at hz; exact hz)) (sel_set hi) (by rw [hl]; exact sel_set (by omega))
        exact k σ _ U4 I4 (st1.trans (stS.trans st4))
    · cases g2⟩
def popF (fp : En → Option Pl) (ρ : En) : Option (D × En) := (fp ρ).bind fun
  | .rt r p => (nodeAt ρ r p).bind fun z => match z.2.1 with
    | .lst => (z.2.2[z.2.2.length - 1]?).bind fun d => if plain d = true then some (d, editE ρ r z.1 p (.nd .lst z.2.2.dropLast)) else none
    | _ => none
  | .ro _ => none
theorem dropLast_get {α : Type} {xs : List α} {i : Nat} {x : α} (h : xs.dropLast[i]? = some x) : xs[i]? = some x := by
  rw [List.getElem?_dropLast] at h
  split at h
  · exact h
  · cases h
instance (priority := 600) sm_pop {to : TE} {fp : En → Option Pl} [P : SP K n to fp] : SM K n (tBM0 K "list" rPop to) (popF fp) := ⟨fun {σ hv H U ρ ρ' τv τd d Q} I h k => by
  obtain ⟨q, h1, h⟩ := Option.bind_eq_some_iff.mp h
  cases q with
  | ro _ => cases h
  | rt r p =>
    obtain ⟨⟨d0, kk, cs⟩, g1, g2⟩ := Option.bind_eq_some_iff.mp h
    obtain ⟨hr, hg⟩ := nodeAt_of g1
    split at g2
    · next e =>
      have e : kk = .lst := e
      subst e
      obtain ⟨d1, g3, g4⟩ := Option.bind_eq_some_iff.mp g2
      by_cases c : plain d1 = true
      · rw [if_pos c] at g4
        cases g4
        refine P.s I h1 fun x H1 s1 w1 => ?_
        have I1 := I.same s1
        have stS : Stp U H U H1 := fun b o q nu => ⟨s1 b o q, nu⟩
        obtain ⟨a, dx, vs, rfl, ha, hf, hl, vl, ed⟩ := Sit.edit (τv := τv) (τd := τd) (xs := []) (ds := []) (by rw [List.append_nil, List.append_nil]; exact I1) rfl w1 hr hg rfl
        have g3 : cs[cs.length - 1]? = some d := g3
        obtain ⟨y, hy, wy⟩ := vl.get g3
        obtain ⟨U3, I3, st3⟩ := ed .lst vs.dropLast cs.dropLast id rfl trivial (by simp [hl]) (fun x z _ _ h => h) (fun j x h => by rw [List.append_nil]; exact dropLast_get h) (fun j x h => by rw [List.append_nil]; exact dropLast_get h)
        have wy3 : Vw K (upd H1 a (.lst vs.dropLast)) T1 y d := ((wy.plain c).frame (fun _ _ z => z.elim) (stay_upd (by rw [ha]; trivial))).vw
        · obtain ⟨U4, I4, st4⟩ := I3.push (Same.refl _) (Own.plain wy3 c)
          exact ⟨tyV_list ha, a, vs, y, rfl, rfl, ha, by rw [hl]; exact hy, k _ _ U4 I4 (stS.trans (st3.trans st4))⟩
      · rw [if_neg c] at g4; cases g4
    · cases g2⟩
end
end VL
namespace VL
open PySem PySem.Spec PyProof.Rows L2
theorem spP_len {K : W.Frag} {m : Nat} {G : List D → Option D} {vs : List V} {H : Hp} {Q : VK} {E : XK} (h : spP K m G vs H Q E) : vs.length = m := by
  obtain ⟨ds, d, hd, w, _⟩ := h
  rw [w.1, hd]
def CapL (X : Cx) (scope : Scope) : List Str → List (Option Nat) → Prop
  | [], [] => True
  | _ :: N, none :: js => CapL X scope N js
  | x :: N, some j :: js => (X.N[j]? = some x ∧ scope.names.lookup x = some .free ∧ (X.env.scope.names.lookup x = some .cell ∨ X.env.scope.names.lookup x = some .free)) ∧ CapL X scope N js
  | _, _ => False
def capN : List Str → List (Option Nat) → List Str
  | _ :: N, none :: js => capN N js
  | x :: N, some _ :: js => x :: capN N js
  | _, _ => []
theorem CapL.len {X : Cx} {scope : Scope} : ∀ {N : List Str} {js : List (Option Nat)}, CapL X scope N js → js.length = N.length
  | [], [], _ => rfl
  | _ :: N, none :: js, h => congrArg (· + 1) (CapL.len (N := N) (js := js) h)
  | _ :: N, some _ :: js, h => congrArg (· + 1) (CapL.len (N := N) (js := js) h.2)
  | [], _ :: _, h => h.elim
  | _ :: _, [], h => h.elim
theorem CapL.at {X : Cx} {scope : Scope} : ∀ {N : List Str} {js : List (Option Nat)} {i j : Nat} {x : Str}, CapL X scope N js → js[i]? = some (some j) → N[i]? = some x → X.N[j]? = some x ∧ scope.names.lookup x = some .free ∧ (X.env.scope.names.lookup x = some .cell ∨ X.env.scope.names.lookup x = some .free)
  | [], [], _, _, _, _, h, _ => by simp at h
  | _ :: N, none :: js, 0, j, x, _, h, _ => by cases h
  | _ :: N, none :: js, i + 1, j, x, h, h1, h2 => CapL.at (N := N) (js := js) (i := i) h (by simpa using h1) (by simpa using h2)
  | _ :: N, some _ :: js, 0, j, x, h, h1, h2 => by cases h1; cases h2; exact h.1
  | _ :: N, some _ :: js, i + 1, j, x, h, h1, h2 => CapL.at (N := N) (js := js) (i := i) h.2 (by simpa using h1) (by simpa using h2)
  | [], _ :: _, _, _, _, h, _, _ => h.elim
  | _ :: _, [], _, _, _, h, _, _ => h.elim
theorem CapL.mem {X : Cx} {scope : Scope} : ∀ {N : List Str} {js : List (Option Nat)} {x : Str}, CapL X scope N js → x ∈ capN N js → X.env.scope.names.lookup x = some .cell ∨ X.env.scope.names.lookup x = some .free
  | [], [], _, _, h => by simp [capN] at h
  | _ :: N, none :: js, x, h, hm => CapL.mem (N := N) (js := js) h hm
  | y :: N, some _ :: js, x, h, hm => by
    rw [capN] at hm
    cases hm with
    | head => exact h.1.2.2
    | tail _ hm => exact CapL.mem (N := N) (js := js) h.2 hm
  | [], _ :: _, _, h, _ => h.elim
  | _ :: _, [], _, h, _ => h.elim
theorem capOf {X : Cx} {scope : Scope} {N : List Str} {js : List (Option Nat)} (h : CapL X scope N js) (hfr : ∀ z ∈ scope.names, z.2 = .free → z.1 ∈ capN N js := by decide +kernel) : CapOk X N scope js :=
  ⟨h.len, fun i j x e1 e2 => h.at e1 e2, fun z hz hz2 => h.mem (hfr z hz hz2)⟩
structure CalM (P : Program) (w : World) (K : W.Frag) (mg : Str → Option Value) (base : Heap) (C : Addr) (m : Str) (ps : List Str) (k : Nat) (sp : Sp) : Prop where
  cl : Cls K C
  ex : ∃ (f : Addr) (fd : FuncData), FnOk P w K mg base CX0 k f fd ps sp ∧ Binds K fd ps [] ∧ Meth K C m f
structure CalC (P : Program) (w : World) (K : W.Frag) (mg : Str → Option Value) (base : Heap) (x : Str) (C : Addr) (ps : List Str) (k : Nat) (sp : Sp) : Prop where
  cl : Cls K C
  ex : ∃ (f : Addr) (fd : FuncData), FnOk P w K mg base CX0 k f fd ps sp ∧ Binds K fd ps [] ∧ Mk K C f ∧ mg x = some (.ref C)
section
variable {X : Cx} {C : Addr} {ps : List Str} {j k : Nat} {sp : Sp} {x m : Str} {p pos apos : Pos} {e o : Expr} {es : List Expr} {ta : TE} {t : TA}
theorem pe_calM {pl : Sem Bool} (M : CalM X.prog X.w X.K X.mg X.base C m ps k sp) (hr : Room j X.A) (he : PE X o ta) (ha : PA X (e :: es) t) (hj : k ≤ j := by decide)
    (hst : starEach (e :: es) X.env = (false, eval e X.env) :: starEach es X.env := by rfl) (hpl : (backTo pos (starEach es X.env)).any (·.1) = false := by rfl)
    (ht : eval (.Call (.Attribute o m apos) (e :: es) [] pos) X.env = (do
      let ov ← eval o X.env
      standAt apos.atName
      let (f, first) ← holding [ov] (getMethod ov m pl)
      callWith pos f first (backTo pos (starEach (e :: es) X.env)) (backToKw pos (keywordEach [] X.env))) := by rfl) :
    PE X (.Call (.Attribute o m apos) (e :: es) [] pos) (tMeth C m sp [] E0 ta t) := by
  obtain ⟨f, fd, F, b, hm⟩ := M.ex
  exact pe_meth (pl := pl) he M.cl hm F (hr.mono hj) b .nil pass0 ha hst hpl ht
theorem pe_calM0 {pl : Sem Bool} (M : CalM X.prog X.w X.K X.mg X.base C m ps k sp) (hr : Room j X.A) (he : PE X o ta) (hj : k ≤ j := by decide)
    (ht : eval (.Call (.Attribute o m apos) [] [] pos) X.env = (do
      let ov ← eval o X.env
      standAt apos.atName
      let (f, first) ← holding [ov] (getMethod ov m pl)
      callWith pos f first (backTo pos (starEach [] X.env)) (backToKw pos (keywordEach [] X.env))) := by rfl) :
    PE X (.Call (.Attribute o m apos) [] [] pos) (tMeth C m sp [] E0 ta tNil) := by
  obtain ⟨f, fd, F, b, hm⟩ := M.ex
  exact pe_meth0 (pl := pl) he M.cl hm F (hr.mono hj) b .nil pass0 ht
theorem pe_calC (M : CalC X.prog X.w X.K X.mg X.base x C ps k sp) (hr : Room j X.A) (hg : Gl X x) (ha : PA X (e :: es) t) (hj : k + 1 ≤ j := by decide) (hdb : (x == ("__debug__" : Str)) = false := by decide)
    (he : starEach (e :: es) X.env = (false, eval e X.env) :: starEach es X.env := by rfl) (hpl : (backTo pos (starEach es X.env)).any (·.1) = false := by rfl) :
    PE X (.Call (.Name x p) (e :: es) [] pos) (tMake C sp [] E0 t) := by
  obtain ⟨f, fd, F, b, mk, hm⟩ := M.ex
  exact pe_make mk F (hr.mono hj) hg hm b .nil pass0 ha hdb he hpl
theorem pe_fldK {X : Cx} {K : W.Frag} (hK : X.K = K) {e : Expr} {f : Str} {pos : Pos} {ta : TE} (he : PE X e ta) (hb : attributeBase e f X.env (eval e X.env) = eval e X.env) : PE X (.Attribute e f pos) (tFld K ta f) := by
  subst hK
  exact pe_fld he hb
theorem pe_disp1 {kk vv : Expr} {tk tv : TE} (hk : PE X kk tk) (hv : PE X vv tv) : PE X (.Dict [some kk] [vv] pos) (tDisp [(tk, tv)]) :=
  pe_disp (pps_cons hk hv pps_nil) rfl rfl (List.cons_ne_nil _ _) (Nat.le_of_ble_eq_true rfl)
end
section
variable {K : W.Frag} {n : Nat} {H H' H1 H2 : Hp} {U U' : Addr → Prop} {σ hv : List (Option V)} {ρ ρ' : En} {τv vs : List V} {τd ds : List D} {v y : V} {d : D} {N : Addr → Prop}
instance svt_true : SVT K n tTrue (fun _ => some true) := ⟨fun I h k => by cases h; exact k _ (Same.refl _)⟩
def disp1 (fk fv : En → Option D) (ρ : En) : Option D := (fk ρ).bind fun k => (fv ρ).bind fun v => (keyOf k).map fun key => .nd (.dic [key]) [v]
instance sf_disp1 {tk tv : TE} {fk fv : En → Option D} [A : SV K n tk fk] [B' : SQ K n tv fv] : SF K n (tDisp [(tk, tv)]) (disp1 fk fv) := ⟨fun {σ hv H U ρ τv τd d Q} I h k => by
  obtain ⟨a, ha, h⟩ := Option.bind_eq_some_iff.mp h
  obtain ⟨b, hb, h⟩ := Option.bind_eq_some_iff.mp h
  obtain ⟨key, hk, h⟩ := Option.map_eq_some_iff.mp h
  subst h
  intro p hp
  have s0 : Same H (upd H p (.dK [])) := same_new hp _
  refine A.s (I.same s0) ha fun x H1 s1 w1 => B'.o ((I.same s0).same s1) hb fun y H2 s2 o => ?_
  have e0 : H2 p = some (.dK []) := s2 _ _ (s1 _ _ upd_same)
  refine ⟨e0, [(key, y)], by rw [w1.key hk]; rfl, by simp, ?_⟩
  have em : mergeK [] [(key, y)] = [key].zip [y] := rfl
  rw [em]
  have sA : Same H (upd H2 p (.dK ([key].zip [y]))) := fun c u q => by
    rw [upd_ne (ne_of_none q hp)]
    exact s2 _ _ (s1 _ _ (s0 _ _ q))
  refine k _ _ sA ?_
  obtain ⟨G, r, f⟩ := o
  have np : ¬ G p := fun z => by have q := (f p z).1; rw [s1 _ _ upd_same] at q; cases q
  refine ⟨fun c => G c ∨ c = p, .nd (vs := [y]) (fun i c => i = 0 ∧ G c) ⟨.inr rfl, rfl, rfl, 0, upd_same⟩ rfl (fun i j c hi hj => by rw [hi.1, hj.1]) (fun i c hc => ⟨.inl hc.2, fun _ z => by rw [z] at hc; exact np hc.2⟩) fun i u e hu he => ?_, fun c hc => ?_⟩
  · cases i with
    | succ i => simp at hu
    | zero =>
      cases hu; cases he
      refine (r.frame (fun c o hc q => ?_) (stay_upd (by rw [e0]; trivial))).mono fun c z => ⟨rfl, z⟩
      rw [upd_ne fun z => by rw [z] at hc; exact np hc]; exact q
  · rcases hc with z | z
    · refine ⟨(s0.trans s1).free (f c z).1, ?_⟩
      rw [upd_ne fun w => by rw [w] at z; exact np z]
      exact (f c z).2
    · rw [z]
      exact ⟨hp, by rw [upd_same]; trivial⟩⟩
end
end VL
namespace VL
open PySem PySem.Spec PyProof.Rows L2
section
variable {X : Cx}
end
section
variable {K : W.Frag} {n : Nat} {H H' : Hp} {U U' : Addr → Prop} {σ hv : List (Option V)} {ρ ρ' : En} {τv vs : List V} {τd ds cs : List D} {v : V} {d : D} {E : Ends}
end
end VL
namespace VL
open PySem PySem.Spec PyProof.Rows PySem.W L2
def viewV (v d : Addr) : HO := .ext fun h => h.IsValuesView v d
def tVals (to : TE) : TE := fun σ H Q => to σ H fun x H1 => ∃ d kvs, x = .ref d ∧ Rd H1 d (.dK kvs) ∧ ∀ v, H1 v = none → Q (.ref v) (upd H1 v (viewV v d))
def rListV : List V → Hp → VK → Prop := fun xs H Q => ∃ v d kvs, xs = [.ref v] ∧ H v = some (viewV v d) ∧ Rd H d (.dK kvs) ∧ ∀ l, H l = none → Q (.ref l) (upd H l (.lst (kvs.map (·.2))))
section
variable {X : Cx} {o : Expr} {to : TE} {apos cpos : Pos}
theorem pe_vals (ho : PE X o to) (hbase : attributeBase o "values" X.env (eval o X.env) = eval o X.env := by rfl) (hline : (apos.endLine == cpos.line) = true := by rfl) : PE X (.Call (.Attribute o "values" apos) [] [] cpos) (tVals to) := by
  intro pins s σ H Q I h
  refine wpAny_Call_method0_late hbase hline (thn (ho pins s σ H _ I h) fun v s1 ⟨x, H1, I1, r1, q1⟩ => ?_)
  obtain ⟨d, kvs, rfl, e, q⟩ := q1
  cases r1
  obtain ⟨z, hd, ws, rel, dd⟩ := dk_rd I1.hok e
  have h1 : s1.TypeIs (.ref d) "dict" := dd.typeIs
  have h2 : ∀ a, Value.ref d = .ref a → ∃ ob, s1.heap.get? a = some ob ∧ ob.dict = none := fun a e2 => by
    cases e2
    obtain ⟨ob, _, _, e3, ex, _⟩ := dd
    exact ⟨ob, e3, ex.2.1⟩
  refine ⟨"dict", "dict.values", PySem.F.plainAttrs_dict, PySem.F.slot_dict_values, PySem.F.type_dict_values, h1, h2, Calls.callWith_builtin rfl (PySem.evalArgs_none ?_)⟩
  refine call_meetsIn PySem.F.slot_dict_values dd.typeIs PySem.F.entry_dict_values (PySem.F.args_dict_values_1 _) (meets_dict_values (mixKind X.prog X.w) d hd) ⟨⟨ws, dd⟩, ?_⟩
  have hat : (s1.heap.push { cls := .type "dict_values", data := .fields #[.ref d] }).get? s1.heap.objs.size = some { cls := .type "dict_values", data := .fields #[.ref d] } := Heap.get?_push_size _ rfl
  refine ⟨.ref s1.heap.objs.size, _, I1.laid (t' := s1.toks) (o := viewV s1.heap.objs.size d) (fun _ _ q => Heap.get?_push_of_some _ q) (Nat.le_refl _) ⟨⟨_, hat, rfl, rfl⟩, ⟨_, hat⟩, fun h1 h2 f k => ?_⟩, rfl, q _ I1.fresh⟩
  obtain ⟨o, ho, r⟩ := f
  exact ⟨o, k o ho, r⟩
theorem vals_vals {kvs : List (Key × V)} {vs : List (Key × Value)} {us : List Value} (rel : KV kvs vs) (hl : us.length = vs.length) (h : ∀ (j : Nat) (v : Value), us[j]? = some v → ∃ k, vs[j]? = some (k, v)) : Vals (kvs.map (·.2)) us := by
  refine vals_of (by rw [List.length_map, hl, ← rel.length]) fun j x u e1 e2 => ?_
  obtain ⟨k, e3⟩ := h j u e2
  rw [List.getElem?_map] at e1
  cases q : kvs[j]? with
  | none => rw [q] at e1; cases e1
  | some p =>
    rw [q] at e1
    cases e1
    exact (paired_get rel q e3).2
theorem call_listV (hc : X.calm = true) : CallR X (.type "list") rListV := by
  intro pins s σ H xs us Q I r h
  obtain ⟨v, d, kvs, rfl, ev, e, q⟩ := h
  obtain ⟨u, rfl, rx⟩ := vals1 r
  cases rx
  obtain ⟨z, hd, vs, rel, dd⟩ := dk_rd I.hok e
  obtain ⟨ep, da⟩ := dd.dictAt
  have hz : vs.length ≤ sizeLine := by rw [← rel.length]; exact z
  have hvw : s.heap.IsValuesView v d := (I.hok v _ ev).1
  refine kdl_call (kdl_values (knd := mixKind X.prog X.w)) (I.ok.hd hc) ⟨hvw, da⟩ hz fun h' tk acc c kp hg hacc => ?_
  have hv : Vals (kvs.map (·.2)) acc.toList := vals_vals rel (by rw [Array.length_toList]; exact hacc.1) fun j v e => hacc.2 j v (by rw [← Array.getElem?_toList]; exact e)
  refine ⟨.ref s.heap.objs.size, _, I.laid (t' := tk) kp (Nat.le_refl _) (show ObjOk X.prog X.w _ h' _ (.lst (kvs.map (·.2))) from ⟨by rw [List.length_map]; exact z, acc.toList, c, hv, ?_⟩), rfl, q _ I.fresh⟩
  rw [Array.toArray_toList]
  exact hg
end
section
variable {K : W.Frag} {n : Nat} {H H' : Hp}
def valsD : D → Option D
  | .nd (.dic _) cs => if plainL cs = true then some (.nd .lst cs) else none
  | _ => none
instance (priority := 2000) sf_listV {t : TE} {f : En → Option D} [A : SV K n t f] : SF K n (tCB rListV (tCons (tVals t) tNil)) (fun ρ => (f ρ).bind valsD) := ⟨fun {σ hv H U ρ τv τd d Q} I h k => by
  obtain ⟨x, h1, h2⟩ := Option.bind_eq_some_iff.mp h
  refine A.s I h1 fun v H1 s1 w => ?_
  unfold valsD at h2
  split at h2
  · next ks cs =>
    by_cases c : plainL cs = true
    · rw [if_pos c] at h2
      cases h2
      obtain ⟨a, us, rfl, hc, vl⟩ := w.kids'
      have hl : ks.length = us.length := hc.1
      have rd : Rd H1 a (.dK (ks.zip us)) := hc.2
      refine ⟨a, ks.zip us, rfl, rd, fun vw hvw => ⟨vw, a, ks.zip us, rfl, upd_same, ?_, fun l hl' => ?_⟩⟩
      · rcases rd with q | ⟨o, q⟩
        · exact .inl (same_new hvw _ _ _ q)
        · exact .inr ⟨o, same_new hvw _ _ _ q⟩
      · have s2 := same_new hvw (viewV vw a)
        have vl2 : VwL K (upd H1 vw (viewV vw a)) T1 us cs := ⟨vl.1, fun i v d a b => (vl.2 i v d a b).same s2⟩
        rw [show (ks.zip us).map (·.2) = us from zip_snd hl]
        exact k _ _ (s1.trans (s2.trans (same_new hl' _))) ((vl2.own (k := .lst) c hl' (.inr ⟨rfl, trivial, 0, rfl⟩)).early (s1.trans s2))
    · rw [if_neg c] at h2; cases h2
  · cases h2⟩
end
end VL
namespace VL
open PySem PySem.Spec PyProof.Rows PySem.W L2
theorem call_fn_tree_kw {prog : Program} {w : World} {A : Around} {E : Value → Shared → Prop} {s : Shared} {id : String} {b : Builtin} {args : List Value} {kw : List (Str × Value)} {Q : Value → Shared → Prop} (hk : builtinKind id = none) (hp : plainId id = true)
    (hb : entryFor table id = some b) (ha : argsOk id ⟨args, kw⟩)
    (hc : wpAny (model prog w) A.in1 (b ⟨args, kw⟩) (fun fin s' => match fin with
      | .done f => (match (Except.ok f : Result) with | .ok (.ret v) => Q v s' | .ok _ => False | .error e => E e s')
      | .again c' => c'.quiet = true ∧ codeAny (model prog w) A c' (fun r s' => match r with | .ok (.ret v) => Q v s' | .ok _ => False | .error e => E e s') s') E s) :
    wpAny (model prog w) A (call (.builtin id) args kw) Q E s := by
  refine wpAny_call (codeAny_call_builtin hp hb ?_)
  simp only [checkBuiltinCall, hk]
  cases hsig : Manifest.signature? id with
  | none => exact wpAny_pure hc
  | some sig =>
    have ha' : Bind.checkArgs id sig ⟨args, kw⟩ = pure () := by simpa only [argsOk, hsig] using ha
    simp only [ha']
    exact wpAny_pure hc
theorem args_maxK (a k : Value) : argsOk "max" ⟨[a], [("key", k)]⟩ := by unfold argsOk; kernel_rfl
section
variable {X : Cx} {k : Nat} {f : Addr} {fd : FuncData} {ps : List Str} {sp : Sp}
end
section
variable {K : W.Frag} {n : Nat} {H H' : Hp}
end
end VL
namespace VL
open PySem PySem.Spec PyProof.Rows PySem.W L2
section
open AutoSeq1 (wpAny_loadPart')
open MeetsSeq MeetsSeq2 MeetsSeq3 SeqRoads2
theorem rcI {prog : Program} {w : World} {A : Around} {E : Value → Shared → Prop} {s : Shared} {a b : Int} {t u : Tok} {Q : Value → Shared → Prop} (h : Q (.bool (decide (b < a))) s) : wpAny (model prog w) A (richCompare .Gt (.int a t) (.int b u)) Q E s := SiftDown.gt_int h
theorem eqT {prog : Program} {w : World} {A : Around} {E : Value → Shared → Prop} {s : Shared} {a b : Int} {t u : Tok} {Q : Bool → Shared → Prop} (e : a = b) (h : Q true s) : wpAny (model prog w) A (eqBool (.int a t) (.int b u)) Q E s := wpAny_eqBool_int (by rw [show (a == b) = true by simp [e]]; exact h)
theorem eqF {prog : Program} {w : World} {A : Around} {E : Value → Shared → Prop} {s : Shared} {a b : Int} {t u : Tok} {Q : Bool → Shared → Prop} (e : a ≠ b) (h : Q false s) : wpAny (model prog w) A (eqBool (.int a t) (.int b u)) Q E s := wpAny_eqBool_int (by rw [show (a == b) = false by simp [e]]; exact h)
def gt2 (i j i' j' : Int) : Bool := if i = i' then decide (j' < j) else decide (i' < i)
set_option maxHeartbeats 4000000 in
theorem tuple_gt2 (l b : Addr) (i j i' j' : Int) (t u t' u' : Tok) (n n2 : Nat) (dd dd2 : Option Addr) (sl sl2 : Array (Option Value)) :
    Meets (Builtin.«tuple.__gt__» ⟨[.ref l, .ref b], []⟩)
      (fun A R s => s.heap.get? l = some { cls := .type "tuple", dict := dd, data := .seq #[.int i t, .int j u] n, slots := sl } ∧ s.heap.get? b = some { cls := .type "tuple", dict := dd2, data := .seq #[.int i' t', .int j' u'] n2, slots := sl2 } ∧
        R (.ok (.ret (.bool (gt2 i j i' j')))) s) :=
  .of_wp fun prog w A R s h => by
    obtain ⟨hp, g, d, tk, os⟩ := s; obtain ⟨hl, hb, h⟩ := h
    have f2 := AutoSeq1.sub_tuple_tuple
    unfold gt2 at h
    by_cases e : i = i'
    · rw [if_pos e] at h
      by_cases e2 : j = j'
      · have c3 : decide (j' < j) = false := by simp [e2]
        rw [c3] at h
        wp_walk using wpAny_loadPart' hl, wpAny_loadPart' hb, eqT e, eqT e2
        exact ⟨_, rfl, h⟩
      · wp_walk using wpAny_loadPart' hl, wpAny_loadPart' hb, eqT e, eqF e2, rcI
        exact ⟨_, rfl, h⟩
    · rw [if_neg e] at h
      wp_walk using wpAny_loadPart' hl, wpAny_loadPart' hb, eqF e, rcI
      exact ⟨_, rfl, h⟩
theorem rc_gt2 {prog : Program} {w : World} {A : Around} {E : Value → Shared → Prop} {s : Shared} {l b : Addr} {i j i' j' : Int} {t u t' u' : Tok} {Q : Value → Shared → Prop} (hl : s.heap.IsTuple l #[.int i t, .int j u]) (hb : s.heap.IsTuple b #[.int i' t', .int j' u']) (hu : A.units < cLine)
    (h : Q (.bool (gt2 i j i' j')) s) : wpAny (model prog w) A (richCompare .Gt (.ref l) (.ref b)) Q E s := by
  obtain ⟨⟨cls, dd, data, sl⟩, ho, hc, n, hd⟩ := id hl
  obtain ⟨⟨cls2, dd2, data2, sl2⟩, ho2, hc2, n2, hd2⟩ := id hb
  simp only at hc hd hc2 hd2
  subst hc hd hc2 hd2
  exact richCompare_meets_room (op := .Gt) ⟨_, ho, rfl⟩ ⟨_, ho2, rfl⟩ F.slot_tuple_gt F.entry_tuple_gt (F.args_tuple_gt_2 _ _) (tuple_gt2 l b i j i' j' t u t' u' n n2 dd dd2 sl sl2)
    ⟨ho, ho2, show Value.bool (gt2 i j i' j') ≠ Value.notImplemented ∧ Q (.bool (gt2 i j i' j')) s from ⟨(fun x => nomatch x), h⟩⟩ hu
end
end VL
namespace VL
open PySem PySem.Spec PyProof.Rows PySem.W L2
section
variable {X : Cx} {k : Nat} {f : Addr} {fd : FuncData} {ps : List Str} {sp : Sp}
def Gt2 (K : W.Frag) (H : Hp) (x y : V) (g : Bool) : Prop := ∃ (p q : Addr) (i j i' j' : Int), x = .ref p ∧ y = .ref q ∧ SqT K H p [.int i, .int j] ∧ SqT K H q [.int i', .int j'] ∧ g = gt2 i j i' j'
def MaxGo (K : W.Frag) (sp : Sp) (a : Addr) (xs : List V) (Q : VK) : List V → Option (V × V) → Hp → Prop
  | [], some (b, _), H => Q b H
  | [], none, _ => False
  | x :: r, best, H => sp [x] H (fun kv H2 => H2 a = some (.lst xs) ∧ match best with
    | none => MaxGo K sp a xs Q r (some (x, kv)) H2
    | some (b, bk) => ∃ g, Gt2 K H2 kv bk g ∧ MaxGo K sp a xs Q r (if g = true then some (x, kv) else some (b, bk)) H2) E0
def BestIs : Option (V × V) → List Value → Prop
  | none, us => us = []
  | some (b, bk), us => Vals [b, bk] us
theorem maxK_loop {pins : List (Addr × Obj)} {σ : L2.St} {Q : VK} {a it S : Addr} {xs : List V} (F : FnOk X.prog X.w X.K X.mg X.base CX0 k f fd ps sp) (hb : Binds X.K fd ps []) (hr : Room (k + 1) X.A) (hc : X.calm = true) (hne : it ≠ S) (hai : a ≠ it) :
    ∀ (rest : List V) (i : Nat) (best : Option (V × V)) (us : List Value) (n : Nat) (H : Hp) (s : Shared), xs.drop i = rest → Inv X pins σ H s → H a = some (.lst xs) → s.heap.IsListIter it a i → s.heap.get? S = some { cls := .type "list", data := .seq us.toArray n } → BestIs best us → FpOk X pins H it → FpOk X pins H S →
      MaxGo X.K sp a xs Q rest best H → codeAny (model X.prog X.w) X.A (.builtin "max.loop" ⟨[.ref it, .ref f, .ref S], []⟩) (fun r s' => match r with | .ok (.ret v) => EP X pins σ Q v s' | .ok _ => False | .error e => X.xe e s') s
  | [], i, none, us, n, H, s, hd, I, ha, hit, hS, hB, fI, fS, h => h.elim
  | [], i, some (b, bk), us, n, H, s, hd, I, ha, hit, hS, hB, fI, fS, h => by
    obtain ⟨its, rv, pl, hz⟩ := I.list (SqL.of ha)
    have W := Walks.list (prog := X.prog) (w := X.w) (A := X.A.in1) (show X.A.in1.handled = none from I.ok.hd hc) it a hai
    have hi : xs.length ≤ i := by
      rcases Nat.lt_or_ge i xs.length with h | h
      · rw [List.drop_eq_getElem_cons h] at hd; cases hd
      · exact h
    have hsz : its.toArray.size = xs.length := by rw [List.size_toArray]; exact rv.length.symm
    obtain ⟨ub, uk, rfl, rb, rk⟩ := L2.vals2 hB
    refine codeAny_builtin PySem.F.entry_max_loop ?_
    rw [Around.under_plainId PySem.F.plain_max_loop _]
    show wpAny _ X.A.in1 (seqItems? (.ref S) >>= _) _ _ _
    refine wpAny_bind (wpAny_seqItems hS rfl ?_)
    show wpAny _ X.A.in1 (tryCatch (pyNext (.ref it)) _ >>= _) _ _ _
    refine wpAny_bind (wpAny_tryCatch (wpAny_pyNext_list_end (show X.A.in1.handled = none from I.ok.hd hc) hit pl.isList (Array.getElem?_eq_none (by rw [hsz]; exact hi)) fun h7 he7 => ?_))
    have hk7 : ∀ b o, b ≠ it → s.heap.get? b = some o → h7.get? b = some o := fun b o hb' e => he7 b o hb' e
    have hS7 := hk7 S _ (fun z => hne z.symm) hS
    have I7 : L2.Inv X pins σ H { s with heap := h7 } := I.turned (t' := s.toks) (it := it) hk7 fI.1 fI.2.1 fI.2.2.2.1 fI.2.2.2.2.1 fI.2.2.2.2.2
    show wpAny _ X.A.in1 (updateSeq S (fun _ => #[]) >>= _) _ _ _
    refine wpAny_bind ?_
    refine wpAny_updateSeq hS7 rfl (wpAny_bind (wpAny_letGo (wpAny_pure ?_)))
    exact ⟨b, H, L2.Inv.turned (s := { s with heap := h7 }) I7 (t' := s.toks) (it := S) (fun b o n e => (Heap.get?_update_other _ _ (Ne.symm n)).trans e) fS.1 fS.2.1 fS.2.2.2.1 fS.2.2.2.2.1 fS.2.2.2.2.2, rb, h⟩
  | x :: r, i, best, us, n, H, s, hd, I, ha, hit, hS, hB, fI, fS, h => by
    have hname : (toString "max" ++ toString ".loop" : String) = "max.loop" := by decide
    obtain ⟨its, rv, pl, hz⟩ := I.list (SqL.of ha)
    have W := Walks.list (prog := X.prog) (w := X.w) (A := X.A.in1) (show X.A.in1.handled = none from I.ok.hd hc) it a hai
    have hi : i < xs.length := by
      rcases Nat.lt_or_ge i xs.length with h | h
      · exact h
      · rw [List.drop_of_length_le h] at hd; cases hd
    have hx : xs[i]? = some x := by rw [List.drop_eq_getElem_cons hi] at hd; injection hd with e1 e2; rw [List.getElem?_eq_getElem hi, e1]
    have hr' : xs.drop (i + 1) = r := by rw [List.drop_eq_getElem_cons hi] at hd; injection hd
    have hsz : its.toArray.size = xs.length := by rw [List.size_toArray]; exact rv.length.symm
    refine codeAny_builtin PySem.F.entry_max_loop ?_
    rw [Around.under_plainId PySem.F.plain_max_loop _]
    show wpAny _ X.A.in1 (seqItems? (.ref S) >>= _) _ _ _
    refine wpAny_bind (wpAny_seqItems hS rfl ?_)
    show wpAny _ X.A.in1 (tryCatch (pyNext (.ref it)) _ >>= _) _ _ _
    refine wpAny_bind (wpAny_tryCatch ((W its.toArray).item i _ _ _ (by rw [hsz]; exact hi) ⟨hit, pl.isList⟩ fun v' h4 tk hP st1 hk4 => ?_))
    obtain ⟨u', eu', ru'⟩ := rv.get hx
    have e4 : v' = u' := by
      have : its[i]? = some v' := by simpa using hP
      rw [eu'] at this; injection this with this; exact this.symm
    subst e4
    have I4 : L2.Inv X pins σ H { s with heap := h4, toks := tk } := I.turned (t' := tk) (it := it) (fun b o n e => hk4 b o (fun z => n (List.mem_singleton.mp z)) e) fI.1 fI.2.1 fI.2.2.2.1 fI.2.2.2.2.1 fI.2.2.2.2.2
    have hS4 : h4.get? S = _ := hk4 S _ (fun z => hne (List.mem_singleton.mp z).symm) hS
    obtain ⟨oi, hi4, ci4, di4⟩ := id st1.1
    have I4p : L2.Inv X (pins ++ pinsAt [it, S] h4) σ H { s with heap := h4, toks := tk } := I4.pinned (fp := [it, S]) (fun b hb' => by
        rcases List.mem_cons.mp hb' with rfl | hb'
        · exact fI
        · rw [List.mem_singleton.mp hb']; exact fS) (fun b hb' => by
        rcases List.mem_cons.mp hb' with rfl | hb'
        · exact ⟨oi, hi4, fun v z => by rw [di4] at z; cases z⟩
        · rw [List.mem_singleton.mp hb']; exact ⟨_, hS4, fun v z => by cases z⟩)
    show wpAny _ X.A.in1 (tryCatch (holding [v'] (call (.ref f) [v'])) _ >>= _) _ _ _
    refine wpAny_bind (wpAny_tryCatch (wpAny_holding ?_))
    have hl : ([v'] ++ []).length = ps.length := (F.len _ _ _ _ h)
    have rv1 : Vals [x] [v'] := .cons ru' .nil
    refine wpAny_call (codeAny_mono (F.run X.A.in1 X.stack _ H ⟨[v'], []⟩ ([v'] ++ []) [x] _ E0 hr.in1 I4.env0.in1 (hb _ [v'] I4.kIn hl) rv1 h) fun r s5 hq => ?_)
    cases r with
    | error e => exact hq.elim
    | ok fl =>
      cases fl with
      | next => exact False.elim hq
      | brk => exact False.elim hq
      | cont => exact False.elim hq
      | ret uk =>
        obtain ⟨kv, H5, I5, rk, ha5, q5⟩ := I4p.after hq
        have pS : (S, _) ∈ pinsAt [it, S] h4 := mem_pinsAt (List.mem_cons_of_mem _ (List.mem_singleton.mpr rfl)) hS4
        have pI : (it, oi) ∈ pinsAt [it, S] h4 := mem_pinsAt (List.mem_cons_self) hi4
        have hS5 := (I5.pin _ (List.mem_append_right _ (List.mem_append_right _ pS)))
        have hI5 := (I5.pin _ (List.mem_append_right _ (List.mem_append_right _ pI)))
        have I5u : L2.Inv X pins σ H5 s5 := I5.unpinned
        have gI : FpOk X pins H5 it := ⟨hI5.2.1, fI.2⟩
        have gS : FpOk X pins H5 S := ⟨hS5.2.1, fS.2⟩
        have up : ∀ (g : Array Value → Array Value), L2.Inv X pins σ H5 { s5 with heap := s5.heap.update S (Obj.mapSeq g) } := fun g => I5u.turned (t' := s5.toks) (it := S) (fun b o n e => (Heap.get?_update_other _ _ (Ne.symm n)).trans e) gS.1 gS.2.1 gS.2.2.2.1 gS.2.2.2.2.1 gS.2.2.2.2.2
        have itU : ∀ (g : Array Value → Array Value), (s5.heap.update S (Obj.mapSeq g)).IsListIter it a (i + 1) := fun g => ⟨oi, (Heap.get?_update_other _ _ (Ne.symm hne)).trans hI5.1, ci4, di4⟩
        cases best with
        | none =>
          have hB' : us = [] := hB
          subst hB'
          show wpAny _ X.A.in1 (updateSeq S (fun _ => #[v', uk]) >>= _) _ _ _
          refine wpAny_bind ?_
          refine wpAny_updateSeq hS5.1 rfl ?_
          rw [hname]
          refine wpAny_pure ⟨plainId_quiet PySem.F.plain_max_loop _, ?_⟩
          exact maxK_loop F hb hr hc hne hai _ (i + 1) (some (x, kv)) [v', uk] _ H5 _ hr' (up _) ha5 (itU _) (Heap.get?_update_self (Obj.mapSeq fun _ => #[v', uk]) hS5.1 rfl) (.cons ru' (.cons rk .nil)) gI gS q5
        | some bb =>
          obtain ⟨b, bk⟩ := bb
          obtain ⟨ub, ubk, rfl, rb, rbk⟩ := L2.vals2 hB
          obtain ⟨g, ⟨pp, qq, i1, j1, i2, j2, rfl, rfl, h1, h2, hg⟩, q6⟩ := q5
          cases rk
          cases rbk
          obtain ⟨its1, rv1, tp1, _⟩ := I5u.tuple h1
          obtain ⟨its2, rv2, tp2, _⟩ := I5u.tuple h2
          obtain ⟨w1, w2, rfl, c1, c2⟩ := L2.vals2 rv1
          obtain ⟨w3, w4, rfl, c3, c4⟩ := L2.vals2 rv2
          obtain ⟨t1, rfl⟩ := c1
          obtain ⟨t2, rfl⟩ := c2
          obtain ⟨t3, rfl⟩ := c3
          obtain ⟨t4, rfl⟩ := c4
          show wpAny _ X.A.in1 (tryCatch (holding [v', Value.ref pp] (richCompare .Gt (.ref pp) (.ref qq) >>= _)) _ >>= _) _ _ _
          refine wpAny_bind (wpAny_tryCatch (wpAny_holding (wpAny_bind (rc_gt2 tp1 tp2 (Nat.lt_of_le_of_lt (Nat.le_add_right _ 1) (hu_of hr.in1)) ?_))))
          refine wpAny_bind (wpAny_holding (wpAny_truthy_bool ?_))
          refine wpAny_bind (wpAny_letGo (wpAny_pure ?_))
          rw [← hg]
          cases g with
          | true =>
            show wpAny _ X.A.in1 (updateSeq S (fun _ => #[v', .ref pp]) >>= _) _ _ _
            refine wpAny_bind ?_
            refine wpAny_updateSeq hS5.1 rfl ?_
            refine wpAny_bind (wpAny_letGo ?_)
            rw [hname]
            refine wpAny_pure ⟨plainId_quiet PySem.F.plain_max_loop _, ?_⟩
            exact maxK_loop F hb hr hc hne hai _ (i + 1) (some (x, .ref pp)) [v', .ref pp] _ H5 _ hr' (up _) ha5 (itU _) (Heap.get?_update_self (Obj.mapSeq fun _ => #[v', .ref pp]) hS5.1 rfl) (.cons ru' (.cons rfl .nil)) gI gS q6
          | false =>
            show wpAny _ X.A.in1 (letGo _ >>= _) _ _ _
            refine wpAny_bind (wpAny_letGo ?_)
            rw [hname]
            refine wpAny_pure ⟨plainId_quiet PySem.F.plain_max_loop _, ?_⟩
            exact maxK_loop F hb hr hc hne hai _ (i + 1) (some (b, .ref qq)) [ub, .ref qq] _ H5 _ hr' I5u ha5 ⟨oi, hI5.1, ci4, di4⟩ hS5.1 (.cons rb (.cons rfl .nil)) gI gS q6
theorem call_maxK {pins : List (Addr × Obj)} {σ : L2.St} {H : Hp} {s : Shared} {Q : VK} {a : Addr} {xs : List V} (F : FnOk X.prog X.w X.K X.mg X.base CX0 k f fd ps sp) (hb : Binds X.K fd ps []) (hr : Room (k + 1) X.A) (hc : X.calm = true)
    (I : Inv X pins σ H s) (ha : H a = some (.lst xs)) (h : MaxGo X.K sp a xs Q xs none H) :
    wpAny (model X.prog X.w) X.A (call (.builtin "max") [.ref a] [("key", .ref f)]) (EP X pins σ Q) X.xe s := by
  have hname : (toString "max" ++ toString ".loop" : String) = "max.loop" := by decide
  obtain ⟨its, rv, pl, hz⟩ := I.list (SqL.of ha)
  have lt : a < s.heap.objs.size := by obtain ⟨o, n, e, _⟩ := pl; exact Heap.lt_size e
  refine call_fn_tree_kw PySem.F.kind_max PySem.F.plain_max PySem.F.entry_max (args_maxK _ _) ?_
  show wpAny _ X.A.in1 (Builtin.Builtins.bindParams "max" ["key", "default"] 0 ⟨[], [("key", .ref f)]⟩ >>= _) _ _ s
  refine wpAny_bind (wpAny_of_eq (show Builtin.Builtins.bindParams "max" ["key", "default"] 0 ⟨[], [("key", .ref f)]⟩ = pure [some (.ref f), none] from rfl) ?_)
  refine wpAny_bind (wpAny_pure ?_)
  refine wpAny_bind (wpAny_pyIter_list pl.isList ?_)
  refine wpAny_bind (wpAny_newObj_type ?_)
  rw [hname]
  refine wpAny_pure ⟨plainId_quiet PySem.F.plain_max_loop _, ?_⟩
  have hS3 := Heap.get?_push_size (s.heap.push { cls := .type "list_iterator", data := .fields #[.ref a, .int 0 0] }) (o := { cls := .type "list", data := .seq #[] }) rfl
  have hi3 : ((s.heap.push { cls := .type "list_iterator", data := .fields #[.ref a, .int 0 0] }).push { cls := .type "list", data := .seq #[] }).get? s.heap.objs.size = some { cls := .type "list_iterator", data := .fields #[.ref a, .int 0 0] } :=
    Heap.get?_push_of_some _ (Heap.get?_push_size _ rfl)
  have kp3 : ∀ b o, s.heap.get? b = some o → ((s.heap.push { cls := .type "list_iterator", data := .fields #[.ref a, .int 0 0] }).push { cls := .type "list", data := .seq #[] }).get? b = some o :=
    fun b o e => Heap.get?_push_of_some _ (Heap.get?_push_of_some _ e)
  have hSz : (s.heap.push { cls := .type "list_iterator", data := .fields #[.ref a, .int 0 0] }).objs.size = s.heap.objs.size + 1 := Heap.size_push _ _
  show codeAny (model X.prog X.w) X.A (.builtin "max.loop" ⟨[.ref s.heap.objs.size, .ref f, .ref (s.heap.push { cls := .type "list_iterator", data := .fields #[.ref a, .int 0 0] }).objs.size], []⟩) _ { s with heap := (s.heap.push { cls := .type "list_iterator", data := .fields #[.ref a, .int 0 0] }).push { cls := .type "list", data := .seq #[] } }
  generalize ((s.heap.push { cls := .type "list_iterator", data := .fields #[.ref a, .int 0 0] }).push { cls := .type "list", data := .seq #[] }) = h3 at hS3 hi3 kp3 ⊢
  generalize hS : (s.heap.push { cls := .type "list_iterator", data := .fields #[.ref a, .int 0 0] }).objs.size = S at hS3 hSz ⊢
  have fI : FpOk X pins H s.heap.objs.size := I.fpOk (Nat.le_refl _) (I.hok.fresh (Nat.le_refl _))
  have fS : FpOk X pins H S := I.fpOk (by omega) (I.hok.fresh (by omega))
  have I3 : L2.Inv X pins σ H { s with heap := h3 } := I.kept (t' := s.toks) kp3
  have neS : s.heap.objs.size ≠ S := by omega
  exact maxK_loop F hb hr hc neS (Nat.ne_of_lt lt) xs 0 none [] _ H _ rfl I3 ha ⟨_, hi3, rfl, rfl⟩ hS3 rfl fI fS h
def tMaxK (K : W.Frag) (sp : Sp) (t : TA) : TE := fun σ H Q => t σ H fun vs H1 => ∃ a xs, vs = [.ref a] ∧ H1 a = some (.lst xs) ∧ MaxGo K sp a xs Q xs none H1
theorem pe_maxK {K : W.Frag} {j : Nat} {x : Str} {e : Expr} {t : TA} {p p2 kp pos : Pos} (C : Cal X.prog X.w X.K X.mg X.base x ps k sp) (hr : Room j X.A) (hc : X.calm = true) (hg : Gl X "max") (hm : X.mg "max" = none) (hgx : Gl X x) (ha : PA X [e] t) (hK : X.K = K := by rfl)
    (hj : k + 1 ≤ j := by decide) (hdb : (x == ("__debug__" : Str)) = false := by decide) (hs : starEach [e] X.env = (false, eval e X.env) :: starEach [] X.env := by rfl) :
    PE X (.Call (.Name "max" p) [e] [⟨some "key", .Name x p2, kp⟩] pos) (tMaxK K sp t) := by
  subst hK
  intro pins s σ H Q I h
  obtain ⟨f, fd, o, b, kp', m⟩ := C.ex
  refine wpAny_Call_Name_kw (ld_blt I hg hm PyProof.Rows.boot_max ?_)
  refine callWith_kw (thn (ha pos pins s σ H _ I h) fun us s1 ⟨vs, H1, I1, r1, a, v, ev, ha1, q1⟩ => ?_) (by rw [hs]; rfl) (by rw [hs]; rfl) rfl rfl
  · subst ev
    obtain ⟨u, rfl, ru⟩ := L2.vals1 r1
    cases ru
    refine kws_cons (ld_glob I1 hgx m ?_ hdb)
    refine kws_nil ?_
    exact call_maxK o b (hr.mono hj) hc I1 ha1 q1
end
section
variable {K : W.Frag} {n : Nat} {H H' : Hp}
def pairI : D → Option (Int × Int)
  | .nd .tup [.sc (.int i), .sc (.int j)] => some (i, j)
  | _ => none
def maxGoD (G : List D → Option D) : List D → D → Int × Int → Option D
  | [], b, _ => some b
  | d :: ds, b, q => (G [d]).bind fun e => (pairI e).bind fun k => if gt2 k.1 k.2 q.1 q.2 = true then maxGoD G ds d k else maxGoD G ds b q
def maxKD (G : List D → Option D) : List D → Option D
  | [.nd .lst (d :: ds)] => if plainL (d :: ds) = true then (G [d]).bind fun e => (pairI e).bind fun k => maxGoD G ds d k else none
  | _ => none
theorem pairI_at {v : V} {e : D} {k : Int × Int} (w : Vw K H T1 v e) (h : pairI e = some k) : ∃ p, v = .ref p ∧ SqT K H p [.int k.1, .int k.2] := by
  unfold pairI at h
  split at h
  · next i j =>
    cases h
    obtain ⟨p, us, rfl, hc, vl⟩ := w.kids'
    obtain ⟨x, y, rfl, wx, wy⟩ := vl.two
    have hc2 : H p = some (.tup [x, y]) := hc.2
    have ex : x = .int i := wx.scal
    have ey : y = .int j := wy.scal
    subst ex ey
    exact ⟨p, rfl, .inl (.inl hc2)⟩
  · cases h
theorem maxGo_ok {G : List D → Option D} {a : Addr} {xs : List V} {Q : VK} {H0 : Hp} {d : D} (k : ∀ v H', Same H0 H' → Own K H0 H' v d → Q v H') : ∀ (ds : List D) (vs : List V) (b : V) (bd : D) (p : Addr) (q : Int × Int) (H1 : Hp), Same H0 H1 → H1 a = some (.lst xs) → VwL K H1 T1 vs ds → plainL ds = true →
    Vw K H1 T1 b bd → plain bd = true → SqT K H1 p [.int q.1, .int q.2] → maxGoD G ds bd q = some d → MaxGo K (spP K 1 G) a xs Q vs (some (b, .ref p)) H1
  | [], vs, b, bd, p, q, H1, s1, ha, w, pl, wb, pb, hp, h => by
    cases vs with
    | cons _ _ => cases w.1
    | nil => cases h; exact k _ _ s1 (Own.plain wb pb)
  | d' :: ds, vs, b, bd, p, q, H1, s1, ha, w, pl, wb, pb, hp, h => by
    cases vs with
    | nil => cases w.1
    | cons v vs =>
      rw [plainL, Bool.and_eq_true] at pl
      rw [maxGoD] at h
      obtain ⟨e, h1, h⟩ := Option.bind_eq_some_iff.mp h
      obtain ⟨kk, h2, h⟩ := Option.bind_eq_some_iff.mp h
      have wv : Vw K H1 T1 v d' := w.2 0 v d' rfl rfl
      have wr : VwL K H1 T1 vs ds := ⟨by have := w.1; simpa using this, fun i x y hx hy => w.2 (i + 1) x y (by simpa using hx) (by simpa using hy)⟩
      refine ⟨[d'], e, rfl, ⟨rfl, fun i x y hx hy => ?_⟩, h1, fun kv H2 s2 o => ⟨s2 _ _ ha, ?_⟩⟩
      · cases i with
        | zero => cases hx; cases hy; exact wv
        | succ i => simp at hx
      · obtain ⟨p2, rfl, hp2⟩ := pairI_at o.vw h2
        have s12 := s1.trans s2
        have ha2 := s2 _ _ ha
        have wr2 : VwL K H2 T1 vs ds := ⟨wr.1, fun i x y hx hy => (wr.2 i x y hx hy).same s2⟩
        have hq := (Stay.of s2).sqT hp
        refine ⟨_, ⟨p2, p, _, _, _, _, rfl, rfl, hp2, hq, rfl⟩, ?_⟩
        cases c : gt2 kk.1 kk.2 q.1 q.2 with
        | true =>
          rw [c, if_pos rfl] at h
          exact maxGo_ok k ds vs v d' p2 kk H2 s12 ha2 wr2 pl.2 (wv.same s2) pl.1 hp2 h
        | false =>
          rw [c, if_neg Bool.false_ne_true] at h
          exact maxGo_ok k ds vs b bd p q H2 s12 ha2 wr2 pl.2 (wb.same s2) pb hq h
instance sf_maxK {G : List D → Option D} {t : TA} {f : En → Option (List D)} [A : SA K n t f] : SF K n (tMaxK K (spP K 1 G) t) (fun ρ => (f ρ).bind (maxKD G)) := ⟨fun {σ hv H U ρ τv τd d Q} I h k => by
  obtain ⟨x, h1, h2⟩ := Option.bind_eq_some_iff.mp h
  refine A.s I h1 fun vs H1 s1 w => ?_
  unfold maxKD at h2
  split at h2
  · next d' ds =>
    by_cases c : plainL (d' :: ds) = true
    · rw [if_pos c] at h2
      obtain ⟨e, h3, h2⟩ := Option.bind_eq_some_iff.mp h2
      obtain ⟨kk, h4, h2⟩ := Option.bind_eq_some_iff.mp h2
      rw [plainL, Bool.and_eq_true] at c
      obtain ⟨v, rfl, w1⟩ := w.one
      obtain ⟨a, us, rfl, hc, vl⟩ := w1.kids'
      have hc2 : H1 a = some (.lst us) := hc.2
      refine ⟨a, us, rfl, hc2, ?_⟩
      cases us with
      | nil => cases vl.1
      | cons v vs =>
        have wv : Vw K H1 T1 v d' := vl.2 0 v d' rfl rfl
        have wr : VwL K H1 T1 vs ds := ⟨by have := vl.1; simpa using this, fun i x y hx hy => vl.2 (i + 1) x y (by simpa using hx) (by simpa using hy)⟩
        refine ⟨[d'], e, rfl, ⟨rfl, fun i x y hx hy => ?_⟩, h3, fun kv H2 s2 o => ⟨s2 _ _ hc2, ?_⟩⟩
        · cases i with
          | zero => cases hx; cases hy; exact wv
          | succ i => simp at hx
        · obtain ⟨p2, rfl, hp2⟩ := pairI_at o.vw h4
          exact maxGo_ok k ds vs v d' p2 kk H2 (s1.trans s2) (s2 _ _ hc2) ⟨wr.1, fun i x y hx hy => (wr.2 i x y hx hy).same s2⟩ c.2 (wv.same s2) c.1 hp2 h2
    · rw [if_neg c] at h2; cases h2
  · cases h2⟩
end
end VL
namespace VL
open PySem PySem.Spec PyProof.Rows L2
section
variable {P : Program} {w : World} {K : W.Frag} {mg : Str → Option Value} {base : Heap} {k : Nat} {f : Addr} {fd : FuncData} {ps : List Str} {m : Nat} {mask : List Bool}
theorem fn_noneP : FnOk P w K mg base CX0 k f fd ps (spP K m fun _ => none) := by
  refine ⟨fun vs H Q E h => ?_, fun A outer s H args us vs Q E _ _ _ _ h => ?_⟩
  · obtain ⟨ds, d, _, _, h, _⟩ := h; cases h
  · obtain ⟨ds, d, _, _, h, _⟩ := h; cases h
end
section
variable {K : W.Frag} {n : Nat} {H H' H1 H2 : Hp} {U U' : Addr → Prop} {σ hv : List (Option V)} {ρ ρ' : En} {τv vs : List V} {τd ds : List D} {v y : V} {d : D} {E : Ends} {N : Addr → Prop}
noncomputable def forM1 (fa : En → Option (List D × En)) (fg : D → En → Option En) (fb : En → Option Fl) (ρ : En) : Option Fl := (fa ρ).bind fun a => (rng1 a.1).bind fun ds => forL fg fb ds a.2
instance (priority := 50) ss_forM1 {ta : TA} {g : TG} {tb : TS} {fa : En → Option (List D × En)} {fg : D → En → Option En} {is : List Nat} {fb : En → Option Fl} [A : SMA K n ta fa] [G : SG K n g fg is] [B' : SS K n tb fb] : SS K n (tFor (iRng1 ta) g tb) (forM1 fa fg fb) := ⟨fun {σ hv H U ρ τv τd fl E} I h k => by
  obtain ⟨⟨as, ρ0⟩, h1, h⟩ := Option.bind_eq_some_iff.mp h
  obtain ⟨ds, h2, h⟩ := Option.bind_eq_some_iff.mp h
  refine A.s I h1 fun vs H1 U1 hl I1 st1 => ?_
  obtain ⟨j, e, c1, c2, e2⟩ := rng1_vs (I1.lasts hl) h2
  have I1' := I1.drop hl
  have wk := rng_walkS (K := K) 0 j.toNat
  subst e
  refine ⟨j, rfl, c1, c2, ?_⟩
  rw [← e2] at wk
  refine ⟨fun i m σ' H' => m = ds.length - i ∧ i ≤ ds.length ∧ ∃ U' ρ', Sit K n H' U' σ' hv ρ' τv τd ∧ Stp U H U' H' ∧ forL fg fb (ds.drop i) ρ' = some fl, ⟨ds.length, by simp, Nat.zero_le _, U1, ρ0, I1', st1, h⟩, ?_⟩
  rintro i m σ' H' ⟨rfl, hi, U', ρ', Ix, st, fo⟩
  by_cases hlt : i < ds.length
  · right
    have hd : ds[i]? = some ds[i] := List.getElem?_eq_getElem hlt
    obtain ⟨go, yl⟩ := wk.item (H := H') (U := U') trivial hd
    rw [List.drop_eq_getElem_cons hlt, forL] at fo
    obtain ⟨ρ1, b1, fo⟩ := Option.bind_eq_some_iff.mp fo
    obtain ⟨fl1, b2, fo⟩ := Option.bind_eq_some_iff.mp fo
    refine ⟨go, fun σ2 H2 => ∃ U2 ρ2, Sit K n H2 U2 σ2 hv ρ2 τv τd ∧ Stp U' H' U2 H2 ∧ forL fg fb (ds.drop (i + 1)) ρ2 = some fl, fun σ2 H2 ⟨U2, ρ2, a1, a2, a3⟩ => ⟨_, by omega, rfl, hlt, U2, ρ2, a1, st.trans a2, a3⟩, fun x H2 y2 => ?_⟩
    obtain ⟨e, w2⟩ := yl x H2 y2
    subst e
    refine G.s Ix w2 b1 fun σ2 I2 => ?_
    refine B'.s I2 b2 ?_
    cases fl1 with
    | nx ρ2 => exact fun σ3 H3 U3 I3 s3 => ⟨U3, ρ2, I3, s3, fo⟩
    | ct ρ2 => exact fun σ3 H3 U3 I3 s3 => ⟨U3, ρ2, I3, s3, fo⟩
    | bk ρ2 => cases fo; exact fun σ3 H3 U3 I3 s3 => k σ3 H3 U3 I3 (st.trans s3)
    | rt d ρ2 => cases fo; exact fun v σ3 H3 U3 I3 s3 => k v σ3 H3 U3 I3 (st.trans s3)
  · left
    have e : i = ds.length := by omega
    subst e
    rw [List.drop_length, forL] at fo
    cases fo
    exact ⟨wk.stop (H := H') (U := U') trivial, k σ' H' U' Ix st⟩⟩
end
section
variable {K : W.Frag} {n : Nat}
end
end VL
namespace VL
open PySem PySem.Spec PyProof.Rows L2
section
variable {K : W.Frag} {n : Nat}
def addV (a b : D) : Option D := match a, b with
  | .nd .tup xs, .nd .tup ys => if xs ≠ [] ∧ xs.length + ys.length ≤ sizeLine then some (.nd .tup (xs ++ ys)) else none
  | a, b => addD a b
theorem addV_run {H : Hp} {x y : V} {a b d : D} {Q : VK} (w1 : Vw K H T1 x a) (w2 : Vw K H T1 y b) (h : addV a b = some d) (k : ∀ v H', Same H H' → Vw K H' T1 v d → Q v H') : rAddU K x y H Q := by
  unfold addV at h
  split at h
  · next xs ys =>
    by_cases c : xs ≠ [] ∧ xs.length + ys.length ≤ sizeLine
    · rw [if_pos c] at h; cases h
      obtain ⟨a, vs, rfl, hc, vl⟩ := w1.kids'
      obtain ⟨b, us, rfl, hc2, ul⟩ := w2.kids'
      have nv : vs ≠ [] := fun z => by
        subst z
        have := vl.1
        exact c.1 (List.eq_nil_of_length_eq_zero this.symm)
      refine .inr (.inr (.inr ⟨a, b, vs, us, rfl, rfl, SqT.of hc.2, SqT.of hc2.2, nv, by rw [vl.1, ul.1]; exact c.2, fun z => ?_, fun _ p hp => ?_⟩))
      · subst z
        have e : ys = [] := List.eq_nil_of_length_eq_zero ul.1.symm
        subst e
        rw [List.append_nil] at k
        exact k _ H (Same.refl H) w1
      · exact k _ _ (same_new hp _) ((vl.app ul).node hp (.inl ⟨rfl, rfl⟩))
    · rw [if_neg c] at h; cases h
  · exact op_addD.s w1 w2 h fun v H3 s3 o => k v H3 s3 o.vw
instance (priority := 950) sv_addT {ta tb : TE} {fa fb : En → Option D} [A : SV K n ta fa] [B' : SV K n tb fb] : SV K n (tOp (rAddU K) ta tb) (op2 addV fa fb) := ⟨fun {σ hv H U ρ τv τd d Q} I h k => by
  obtain ⟨a, ha, h⟩ := Option.bind_eq_some_iff.mp h
  obtain ⟨b, hb, h⟩ := Option.bind_eq_some_iff.mp h
  refine A.s I ha fun x H1 s1 w1 => ?_
  refine B'.s (I.same s1) hb fun y H2 s2 w2 => ?_
  exact addV_run (w1.same s2) w2 h fun v H3 s3 w => k v H3 (s1.trans (s2.trans s3)) w⟩
def slV (a : D) (lo hi : Option Int) : Option D := match a with
  | .nd .tup cs => some (.nd .tup (cutD cs lo hi))
  | a => slD a lo hi
theorem slV_run {H : Hp} {v : V} {a d : D} {lo hi : Option Int} {Q : VK} (w : Vw K H T1 v a) (h : slV a lo hi = some d) (k : ∀ v H', Same H H' → Vw K H' T1 v d → Q v H') : rSlU K v lo hi H Q := by
  unfold slV at h
  split at h
  · next cs =>
    cases h
    obtain ⟨a, vs, rfl, hc, vl⟩ := w.kids'
    by_cases cw : HT.sIx vs.length 0 lo = 0 ∧ HT.sIx vs.length vs.length hi = vs.length
    · refine .inr (.inl ⟨a, vs, rfl, SqT.of hc.2, cw, ?_⟩)
      have e : cutD cs lo hi = cs := by
        unfold cutD
        rw [← vl.1, cw.1, cw.2, List.drop_zero, Nat.sub_zero, vl.1, List.take_length]
      rw [e] at k
      exact k _ H (Same.refl H) w
    · refine .inl ⟨a, vs, rfl, SqT.of hc.2, cw, fun p hp => ?_⟩
      have g := cut_get vl.1 vl.2 lo hi
      exact k _ _ (same_new hp _) (VwL.node (k := .tup) ⟨g.1, g.2⟩ hp (.inl ⟨rfl, rfl⟩))
  · exact slD_run w h fun v H4 s4 o => k v H4 s4 o.vw
def slVF (fe : En → Option D) (fl fh : En → Option (Option Int)) (ρ : En) : Option D := (fe ρ).bind fun d => (fl ρ).bind fun lo => (fh ρ).bind fun hi => slV d lo hi
instance (priority := 950) sv_slT {te : TE} {tl th : TO} {fe : En → Option D} {fl fh : En → Option (Option Int)} [A : SV K n te fe] [L : SO K n tl fl] [R : SO K n th fh] : SV K n (tSl (rSlU K) te tl th) (slVF fe fl fh) := ⟨fun {σ hv H U ρ τv τd d Q} I h k => by
  obtain ⟨x, h1, h⟩ := Option.bind_eq_some_iff.mp h
  obtain ⟨lo, h2, h⟩ := Option.bind_eq_some_iff.mp h
  obtain ⟨hi, h3, h⟩ := Option.bind_eq_some_iff.mp h
  refine A.s I h1 fun v H1 s1 w1 => L.s (I.same s1) h2 fun H2 s2 => R.s ((I.same s1).same s2) h3 fun H3 s3 => ?_
  exact slV_run (w1.same (s2.trans s3)) h fun v H4 s4 w => k v H4 (s1.trans (s2.trans (s3.trans s4))) w⟩
end
end VL
namespace VL
open PySem PySem.Spec PyProof.Rows L2
section
variable {K : W.Frag} {n : Nat}
end
end VL
namespace VL
open PySem PySem.Spec PyProof.Rows L2
section
variable {K : W.Frag} {n : Nat} {C : Addr} {E : XK}
def makeM (G : List D → Option (D × List D)) (C : Addr) (k : Nat) (fa : En → Option (List D × En)) (ρ : En) : Option (D × En) := (fa ρ).bind fun p => if p.1.length = k then (G (.nd (.obj C []) [] :: p.1)).bind fun
  | (r, [o]) => if isNon r = true then some (o, p.2) else none
  | _ => none else none
instance (priority := 60) sm_makeM {t : TA} {k : Nat} {G : List D → Option (D × List D)} {fa : En → Option (List D × En)} [hC : ClsI K C] [A : SMA K n t fa] : SM K n (tMake C (spI K (true :: List.replicate k false) G) [] E t) (makeM G C k fa) := ⟨fun {σ hv H U ρ ρ' τv τd d Q} I h kk => by
  obtain ⟨⟨ds, ρ1⟩, h1, h⟩ := Option.bind_eq_some_iff.mp h
  have h : (if ds.length = k then (G (.nd (.obj C []) [] :: ds)).bind fun
    | (r, [o]) => if isNon r = true then some (o, ρ1) else none
    | _ => none else none) = some (d, ρ') := h
  by_cases c : ds.length = k
  · rw [if_pos c] at h
    obtain ⟨⟨r, outs⟩, h2, h⟩ := Option.bind_eq_some_iff.mp h
    match outs, h with
    | [o], h =>
      have h : (if isNon r = true then some (o, ρ1) else none) = some (d, ρ') := h
      by_cases cr : isNon r = true
      · rw [if_pos cr] at h
        cases h
        have er : r = .sc .non := by
          unfold isNon at cr
          split at cr
          · rfl
          · cases cr
        refine A.s I h1 fun vs H1 U1 hl I1 st1 => ?_
        intro x dx hx hdx ne
        rw [List.append_nil]
        refine make_new hC.h (I1.lasts hl) c h2 er hx hdx ne fun H2 s2 o => ?_
        obtain ⟨U3, I3, st3⟩ := (I1.drop hl).push s2 o
        exact kk _ H2 U3 I3 (st1.trans st3)
      · rw [if_neg cr] at h; cases h
    | [], h => cases h
    | _ :: _ :: _, h => cases h
  · rw [if_neg c] at h; cases h⟩
def callPM (G : List D → Option D) (m : Nat) (fa : En → Option (List D × En)) (ρ : En) : Option (D × En) := (fa ρ).bind fun p => if p.1.length = m then (G p.1).map fun d => (d, p.2) else none
instance (priority := 60) sm_callP {ta : TA} {fa : En → Option (List D × En)} {G : List D → Option D} {m : Nat} [A : SMA K n ta fa] : SM K n (tCall (spP K m G) [] E ta) (callPM G m fa) := ⟨fun {σ hv H U ρ ρ' τv τd d Q} I h kk => by
  obtain ⟨⟨ds, ρ1⟩, h1, h⟩ := Option.bind_eq_some_iff.mp h
  have h : (if ds.length = m then (G ds).map fun d => (d, ρ1) else none) = some (d, ρ') := h
  by_cases c : ds.length = m
  · rw [if_pos c] at h
    obtain ⟨d', h2, h3⟩ := Option.map_eq_some_iff.mp h
    cases h3
    refine A.s I h1 fun vs H1 U1 hl I1 st1 => ?_
    show spP K m G (vs ++ []) H1 Q E
    rw [List.append_nil]
    refine ⟨ds, _, c, I1.lasts hl, h2, fun v H2 s2 o => ?_⟩
    obtain ⟨U3, I3, st3⟩ := (I1.drop hl).push s2 o
    exact kk _ H2 U3 I3 (st1.trans st3)
  · rw [if_neg c] at h; cases h⟩
end
end VL
namespace VL
open PySem PySem.Spec PyProof.Rows L2
section
variable {K : W.Frag} {n : Nat} {H H' : Hp} {U U' : Addr → Prop} {σ hv : List (Option V)} {ρ ρ' : En} {τv vs : List V} {τd ds : List D} {v : V} {d : D}
def inPair (j : Nat) (f2 : En → Option D) (ρ : En) : Option (D × En) := (f2 ρ).bind fun e => (mvVar j ρ).map fun r => (.nd .tup [r.1, e], r.2)
instance (priority := 3000) sm_inPair {j : Nat} {t2 : TE} {f2 : En → Option D} [Lj : LtN j n] [S2 : SF K n t2 f2] : SM K n (tTup (tCons (tVar j) (tCons t2 tNil))) (inPair j f2) := ⟨fun {σ hv H U ρ ρ' τv τd d Q} I h k => by
  obtain ⟨e, h2, h⟩ := Option.bind_eq_some_iff.mp h
  obtain ⟨⟨d0, ρ1⟩, hm, h⟩ := Option.map_eq_some_iff.mp h
  cases h
  obtain ⟨v0, ev, U1, I1, st1⟩ : ∃ v0, σ[j]? = some (some v0) ∧ ∃ U1, Sit K n H U1 σ hv ρ1 (τv ++ [v0]) (τd ++ [d0]) ∧ Stp U H U1 H := by
    obtain ⟨d1, g1, g2⟩ := Option.bind_eq_some_iff.mp hm
    by_cases p : plain d1 = true
    · rw [if_pos p] at g2
      cases g2
      obtain ⟨v, ev, w⟩ : tVar j σ H (fun v H' => Vw K H' T1 v d0) := (sv_var (i := j)).s I g1 fun v H' s w => w
      obtain ⟨U', I', st⟩ := I.push (Same.refl H) (Own.plain w p)
      exact ⟨v, ev, U', I', st⟩
    · rw [if_neg p] at g2
      split at g2
      · next d' e1 =>
        cases g2
        obtain ⟨v, ev, I'⟩ := I.moved Lj.h e1
        exact ⟨v, ev, U, I', Stp.refl U H⟩
      · cases g2
  refine ⟨v0, ev, S2.s I h2 fun v2 H1 s1 o1 => ?_⟩
  obtain ⟨U2, I2, st2⟩ := I1.push s1 o1
  refine ⟨by show 2 ≤ sizeLine; decide, fun p hp => ?_⟩
  have I2' : Sit K n H1 U2 σ hv ρ1 (τv ++ [v0, v2]) (τd ++ [d0, e]) := by
    simp only [List.append_assoc] at I2
    exact I2
  obtain ⟨U3, I3, st3⟩ := I2'.gather (k := .tup) (o := .tup [v0, v2]) rfl hp (.inl ⟨rfl, rfl, rfl⟩)
  exact k _ _ U3 I3 (st1.trans (st2.trans st3))⟩
end
end VL
namespace VL
open PySem PySem.Spec PyProof.Rows L2
def maxI (n : Int) (ns : List Int) : Int := ns.foldl (fun a b => if b > a then b else a) n
theorem argBest_max (n : Int) (ns : List Int) : ∀ k, k ≤ ns.length → (n :: ns).getD (argBest (fun i j => decide ((n :: ns).getD i 0 > (n :: ns).getD j 0)) k) 0 = maxI n (ns.take k)
  | 0, _ => rfl
  | k + 1, h => by
    have ih := argBest_max n ns k (by omega)
    have e : ns.take (k + 1) = ns.take k ++ [ns.getD k 0] := by
      rw [List.take_add_one, List.getElem?_eq_getElem (by omega)]
      simp [List.getD, List.getElem?_eq_getElem (show k < ns.length by omega)]
    have e2 : maxI n (ns.take (k + 1)) = if ns.getD k 0 > maxI n (ns.take k) then ns.getD k 0 else maxI n (ns.take k) := by
      rw [e]; unfold maxI; rw [List.foldl_append]; rfl
    rw [e2, argBest, ← ih]
    simp only [decide_eq_true_eq]
    split
    · next c => exact (if_pos (show ns.getD k 0 > _ from c)).symm
    · next c => exact (if_neg (show ¬ ns.getD k 0 > _ from c)).symm
section
variable {X : Cx}
theorem call_maxI (hc : X.calm = true) : CallR X (.builtin "max") (fun xs H Q => ∃ (a : Addr) (n : Int) (ns : List Int), xs = [.ref a] ∧ SqL X.K H a ((n :: ns).map V.int) ∧ Q (.int (maxI n ns)) H) := by
  intro pins s σ H xs us Q I r h
  obtain ⟨a, n, ns, rfl, hs, q⟩ := h
  obtain ⟨u, rfl, ru⟩ := vals1 r
  cases ru
  obtain ⟨its, rv, pl, hz⟩ := I.list hs
  have hl : its.length = ns.length + 1 := by rw [← rv.length, List.length_map]; rfl
  refine call_max_walk ?_
  refine wpAny_pyIter_list pl.isList ?_
  have lt : a < s.heap.objs.size := by obtain ⟨o, n, e, _⟩ := pl; exact Heap.lt_size e
  have at_ : ∀ (i : Nat) (v : Value), its.toArray[i]? = some v → ∃ t, v = Value.int ((n :: ns).getD i 0) t := fun i v hv => by
    have hv' : its[i]? = some v := by simpa using hv
    have hi : i < (n :: ns).length := by
      have := (List.getElem?_eq_some_iff.mp hv').1
      rw [List.length_cons]
      omega
    have hx : ((n :: ns).map V.int)[i]? = some (.int ((n :: ns).getD i 0)) := by
      rw [List.getElem?_map, List.getElem?_eq_getElem hi]
      simp [List.getD, List.getElem?_eq_getElem hi]
    obtain ⟨u, hu, ru⟩ := rv.get hx
    rw [hv'] at hu
    cases hu
    exact ru
  refine ⟨s.heap.objs.size, _, _, _, _, _, fun i j => decide ((n :: ns).getD i 0 > (n :: ns).getD j 0), rfl, Walks.list (A := X.A.in1) (show X.A.in1.handled = none from I.ok.hd hc) _ a (Nat.ne_of_lt lt) its.toArray, ⟨⟨_, Heap.get?_push_size _ rfl, rfl, rfl⟩, pl.isList.at fun o e => Heap.get?_push_of_some _ e⟩, fun b hb => ?_, ?_, CmpOf.ints_gt _ at_, fun v h' tk hP hk => ?_⟩
  · rw [Heap.size_push]
    rcases List.mem_cons.mp hb with z | hb
    · rw [z]; exact Nat.lt_succ_self _
    · rw [List.mem_singleton.mp hb]; exact Nat.lt_succ_of_lt lt
  · rw [List.size_toArray, hl]; exact Nat.succ_pos _
  · obtain ⟨t, rfl⟩ := at_ _ v hP
    rw [List.size_toArray, hl, Nat.add_sub_cancel, argBest_max n ns _ (Nat.le_refl _), List.take_length]
    refine ⟨.int (maxI n ns), H, I.kept (t' := tk) fun b o eo => hk b o ?_ (Heap.get?_push_of_some _ eo), ⟨t, rfl⟩, q⟩
    intro z
    rw [List.mem_singleton.mp z] at eo
    exact absurd (Heap.lt_size eo) (Nat.lt_irrefl _)
def rMaxL (K : W.Frag) : List V → Hp → VK → Prop := fun xs H Q => ∃ (a : Addr) (n : Int) (ns : List Int), xs = [.ref a] ∧ SqL K H a ((n :: ns).map V.int) ∧ Q (.int (maxI n ns)) H
theorem call_maxL' {X : Cx} (hc : X.calm = true) : CallR X (.builtin "max") (rMaxL X.K) := call_maxI hc
end
section
variable {K : W.Frag} {n : Nat} {H H' : Hp} {N : Addr → Prop}
def intsOf : List D → Option (List Int)
  | [] => some []
  | .sc (.int b) :: r => (intsOf r).map (b :: ·)
  | _ :: _ => none
theorem intsOf_vs : ∀ {cs : List D} {vs : List V} {bs : List Int}, vs.length = cs.length → (∀ (i : Nat) (v : V) (d : D), vs[i]? = some v → cs[i]? = some d → Vw K H N v d) → intsOf cs = some bs → vs = bs.map V.int
  | [], [], _, _, _, h => by rw [intsOf] at h; cases h; rfl
  | [], _ :: _, _, h, _, _ => by cases h
  | _ :: _, [], _, h, _, _ => by cases h
  | d :: cs, v :: vs, ts, hl, hk, h => by
    unfold intsOf at h
    split at h
    · next e => cases e
    · next t r e =>
      cases e
      obtain ⟨x, h2, h⟩ := Option.map_eq_some_iff.mp h
      subst h
      rw [List.map_cons, (hk 0 v _ rfl rfl).scal, intsOf_vs (Nat.succ.inj hl) (fun i v d a b => hk (i + 1) v d (by simpa using a) (by simpa using b)) h2]
    · cases h
def maxOf : List Int → Option D
  | n :: ns => some (.sc (.int (maxI n ns)))
  | [] => none
def maxLD : List D → Option D
  | [.nd .lst cs] => (intsOf cs).bind maxOf
  | _ => none
instance cd_maxL : CallD K (rMaxL K) maxLD := ⟨fun {H vs ds d Q} w h k => by
  unfold maxLD at h
  split at h
  · next cs =>
    obtain ⟨bs, h1, h2⟩ := Option.bind_eq_some_iff.mp h
    cases bs with
    | nil => cases h2
    | cons n ns =>
      cases h2
      obtain ⟨v, rfl, w1⟩ := w.one
      obtain ⟨a, us, rfl, _, hc, hl, kid⟩ := w1.node
      have e := intsOf_vs hl kid h1
      exact ⟨a, n, ns, rfl, SqL.of (by rw [← e]; exact hc.2), k _ H (Same.refl H) (.sc _)⟩
  · cases h⟩
end
end VL
namespace VL
open PySem PySem.Spec PyProof.Rows L2
def sortI (ns : List Int) : List Int := ns.mergeSort fun a b => decide (a ≤ b)
theorem sortI_perm (ns : List Int) : (sortI ns).Perm ns := List.mergeSort_perm ..
theorem sortI_up (ns : List Int) : (sortI ns).Pairwise (· ≤ ·) := by
  have h := List.pairwise_mergeSort (le := fun a b : Int => decide (a ≤ b)) (fun a b c h1 h2 => by simp at *; omega) (fun a b => by simp; omega) ns
  exact h.imp fun z => by simpa using z
theorem sortI_of {ns ns' : List Int} (h : ns'.Perm ns) (p : ns'.Pairwise (· ≤ ·)) : ns' = sortI ns :=
  List.Perm.eq_of_pairwise (fun a b _ _ h1 h2 => Int.le_antisymm h1 h2) p (sortI_up ns) (h.trans (sortI_perm ns).symm)
def rSortI (K : W.Frag) : List V → Hp → VK → Prop := fun xs H Q => ∃ p ns, xs = [.ref p] ∧ SqL K H p (ns.map V.int) ∧ ns.length < 64 ∧ ∀ l, H l = none → Q (.ref l) (upd H l (.lst ((sortI ns).map V.int)))
theorem call_sortI' {X : Cx} : CallR X (.builtin "sorted") (rSortI X.K) := by
  intro pins s σ H xs us Q I r h
  obtain ⟨p, ns, e, hs, hl, q⟩ := h
  exact call_sortedI pins s σ H xs us Q I r ⟨p, ns, e, hs, hl, fun l ns' hn hp hq => by rw [sortI_of hp hq]; exact q l hn⟩
section
variable {K : W.Frag} {n : Nat} {H H' : Hp} {N : Addr → Prop}
def sortOf (ns : List Int) : Option D := if ns.length < 64 then some (.nd .lst ((sortI ns).map fun i => .sc (.int i))) else none
def sortD : List D → Option D
  | [.nd .lst cs] => (intsOf cs).bind sortOf
  | _ => none
instance cd_sortI : CallD K (rSortI K) sortD := ⟨fun {H vs ds d Q} w h k => by
  unfold sortD at h
  split at h
  · next cs =>
    obtain ⟨ns, h1, h2⟩ := Option.bind_eq_some_iff.mp h
    unfold sortOf at h2
    by_cases c : ns.length < 64
    · rw [if_pos c] at h2; cases h2
      obtain ⟨v, rfl, w1⟩ := w.one
      obtain ⟨a, us, rfl, _, hc, hl, kid⟩ := w1.node
      have e := intsOf_vs hl kid h1
      refine ⟨a, ns, rfl, SqL.of (by rw [← e]; exact hc.2), c, fun l hl => k _ _ (same_new hl _) ?_⟩
      have vl : VwL K H T1 ((sortI ns).map V.int) ((sortI ns).map fun i => D.sc (.int i)) := ⟨by simp, fun i v d hv hd => by
        rw [List.getElem?_map] at hv hd
        cases e : (sortI ns)[i]? with
        | none => rw [e] at hv; cases hv
        | some x => rw [e] at hv hd; cases hv; cases hd; exact .sc _⟩
      exact vl.own (plainL_of fun d hd => by obtain ⟨i, _, rfl⟩ := List.mem_map.mp hd; rfl) hl (.inr ⟨rfl, trivial, 0, rfl⟩)
    · rw [if_neg c] at h2; cases h2
  · cases h⟩
end
end VL
set_option maxHeartbeats 4000000
namespace VL
open PySem L2
abbrev iD (i : Int) : D := .sc (.int i)
abbrev tD (b : Bool) : D := .sc (.bl b)
abbrev sD (s : Str) : D := .sc (.str s)
def scr (cs : List Int) : D := .nd .frl (cs.map fun i => .sc (.int i))
theorem eq0 (c d : Int) : eqP id (.sc (.int c)) (.sc (.int d)) = some (.sc (.bl (decide (c = d)))) := by
  simp [eqP, toPy, PyData.canLay0, PyData.depth, PyData.eqv]
  by_cases h : c = d <;> simp [h]
theorem ne0 (c d : Int) : eqP (!·) (.sc (.int c)) (.sc (.int d)) = some (.sc (.bl (decide (c ≠ d)))) := by
  simp [eqP, toPy, PyData.canLay0, PyData.depth, PyData.eqv]
  by_cases h : c = d <;> simp [h]
theorem eqS (c d : Str) (hc : PyData.strOk c = true) (hd : PyData.strOk d = true) : eqP id (.sc (.str c)) (.sc (.str d)) = some (.sc (.bl (decide (c = d)))) := by
  simp [hc, hd, eqP, toPy, PyData.canLay0, PyData.depth, PyData.eqv]
  by_cases h : c = d <;> simp [h]
theorem neS (c d : Str) (hc : PyData.strOk c = true) (hd : PyData.strOk d = true) : eqP (!·) (.sc (.str c)) (.sc (.str d)) = some (.sc (.bl (decide (c ≠ d)))) := by
  simp [hc, hd, eqP, toPy, PyData.canLay0, PyData.depth, PyData.eqv]
  by_cases h : c = d <;> simp [h]
theorem sl1 : (1 ≤ sizeLine) = True := eq_true (by decide)
theorem sl2 : (2 ≤ sizeLine) = True := eq_true (by decide)
theorem sl3 : (3 ≤ sizeLine) = True := eq_true (by decide)
theorem sl4 : (4 ≤ sizeLine) = True := eq_true (by decide)
theorem sl5 : (5 ≤ sizeLine) = True := eq_true (by decide)
theorem sl6 : (6 ≤ sizeLine) = True := eq_true (by decide)
theorem sl7 : (7 ≤ sizeLine) = True := eq_true (by decide)
def NA (x : Option B) : Prop := ∀ r p, x ≠ some (.ali r p)
theorem unroot_nil {i : Nat} : unroot i [] = [] := rfl
theorem unroot_own {i : Nat} {d : D} {r : En} : unroot i (some (.own d) :: r) = some (.own d) :: unroot i r := rfl
theorem unroot_ro {i : Nat} {d : D} {r : En} : unroot i (some (.ro d) :: r) = some (.ro d) :: unroot i r := rfl
theorem unroot_none {i : Nat} {r : En} : unroot i (none :: r) = none :: unroot i r := rfl
theorem unroot_ali {i j : Nat} {p : List Nat} {r : En} : unroot i (some (.ali j p) :: r) = (if j = i then none else some (.ali j p)) :: unroot i r := rfl
theorem unroot_na {i : Nat} {x : Option B} {r : En} (h : NA x) : unroot i (x :: r) = x :: unroot i r := by
  match x, h with
  | none, _ => rfl
  | some (.own _), _ => rfl
  | some (.ro _), _ => rfl
  | some (.ali r p), h => exact absurd rfl (h r p)
theorem pruneB_na {ρ : En} {x : Option B} (h : NA x) : pruneB ρ x = x := by
  match x, h with
  | none, _ => rfl
  | some (.own _), _ => rfl
  | some (.ro _), _ => rfl
  | some (.ali r p), h => exact absurd rfl (h r p)
def Ev (f : En → Option Fl) (ρ : En) (Q : Fl → Prop) : Prop := ∃ fl, f ρ = some fl ∧ Q fl
theorem Ev.seq {t u : En → Option Fl} {ρ : En} {Q : Fl → Prop} (h : Ev t ρ fun fl => match fl with | .nx ρ' => Ev u ρ' Q | fl => Q fl) : Ev (seqF t u) ρ Q := by
  obtain ⟨fl, e, h⟩ := h
  unfold Ev seqF
  rw [e]
  cases fl with
  | nx ρ' => exact h
  | _ => exact ⟨_, rfl, h⟩
theorem Ev.nx {t u : En → Option Fl} {ρ ρ' : En} {Q : Fl → Prop} (e : t ρ = some (.nx ρ')) (h : Ev u ρ' Q) : Ev (seqF t u) ρ Q := Ev.seq ⟨_, e, h⟩
theorem bodyP_ev {n : Nat} {f : En → Option Fl} {ds : List D} {R : D → Prop} (h : Ev f (ds.map (fun d => some (.ro d)) ++ List.replicate (n - ds.length) none) fun fl => match fl with | .rt d _ => R d | .nx _ => R (.sc .non) | _ => False) : ∃ d, bodyP n f ds = some d ∧ R d := by
  obtain ⟨fl, e, h⟩ := h
  unfold bodyP
  rw [e]
  cases fl with
  | nx ρ' => exact ⟨_, rfl, h⟩
  | rt d ρ' => exact ⟨_, rfl, h⟩
  | bk _ => exact h.elim
  | ct _ => exact h.elim
theorem forL_ev {fg : D → En → Option En} {fb : En → Option Fl} {Q : Fl → Prop} (P : En → Prop) : ∀ (ds : List D) (ρ : En), P ρ → (∀ d ∈ ds, ∀ ρ, P ρ → ∃ ρ1, fg d ρ = some ρ1 ∧ Ev fb ρ1 fun fl => match fl with | .nx ρ2 => P ρ2 | .ct ρ2 => P ρ2 | .bk ρ2 => Q (.nx ρ2) | .rt d ρ2 => Q (.rt d ρ2)) →
    (∀ ρ, P ρ → Q (.nx ρ)) → ∃ fl, forL fg fb ds ρ = some fl ∧ Q fl
  | [], ρ, p, _, hd => ⟨_, rfl, hd ρ p⟩
  | d :: ds, ρ, p, st, hd => by
    obtain ⟨ρ1, e1, fl, e2, h⟩ := st d (.head _) ρ p
    rw [forL, e1]
    show ∃ fl, (fb ρ1).bind _ = some fl ∧ Q fl
    rw [e2]
    cases fl with
    | nx ρ2 => exact forL_ev P ds ρ2 h (fun d hd' => st d (.tail _ hd')) hd
    | ct ρ2 => exact forL_ev P ds ρ2 h (fun d hd' => st d (.tail _ hd')) hd
    | bk ρ2 => exact ⟨_, rfl, h⟩
    | rt d ρ2 => exact ⟨_, rfl, h⟩
theorem Ev.for {fi : En → Option (List D)} {fg : D → En → Option En} {fb : En → Option Fl} {ρ : En} {Q : Fl → Prop} {ds : List D} (hi : fi ρ = some ds) (P : En → Prop) (h0 : P ρ)
    (st : ∀ d ∈ ds, ∀ ρ, P ρ → ∃ ρ1, fg d ρ = some ρ1 ∧ Ev fb ρ1 fun fl => match fl with | .nx ρ2 => P ρ2 | .ct ρ2 => P ρ2 | .bk ρ2 => Q (.nx ρ2) | .rt d ρ2 => Q (.rt d ρ2)) (hd : ∀ ρ, P ρ → Q (.nx ρ)) :
    Ev (fun ρ => (fi ρ).bind fun ds => forL fg fb ds ρ) ρ Q := by
  show ∃ fl, (fi ρ).bind _ = some fl ∧ Q fl
  rw [hi]
  exact forL_ev P ds ρ h0 st hd
theorem rng1_ok (m : Nat) (hm : m < 100) : rng1 [.sc (.int (m : Int))] = some (rngD 0 m) := by
  unfold rng1
  dsimp only
  rw [if_pos ⟨by omega, by omega⟩]
  rfl
theorem compD_map {α : Type} {fg : D → En → Option En} {ft : En → Option Bool} {fe : En → Option D} {ρ0 : En} (g : α → D) (p : α → Bool) (h : α → D) : ∀ (l : List α), (∀ a ∈ l, ∃ ρ1, fg (g a) ρ0 = some ρ1 ∧ ft ρ1 = some (p a) ∧ (p a = true → fe ρ1 = some (h a))) →
    compD fg ft fe ρ0 (l.map g) = some ((l.filter p).map h)
  | [], _ => rfl
  | a :: l, H => by
    obtain ⟨ρ1, e1, e2, e3⟩ := H a (.head _)
    have ih := compD_map g p h l fun x hx => H x (.tail _ hx)
    rw [List.map_cons, compD, e1]
    show (ft ρ1).bind _ = _
    rw [e2]
    show (if p a = true then _ else _) = _
    cases q : p a with
    | true => rw [if_pos rfl, e3 q]; show (compD fg ft fe ρ0 (l.map g)).map _ = _; rw [ih, List.filter_cons_of_pos q]; rfl
    | false => rw [if_neg Bool.false_ne_true, ih, List.filter_cons_of_neg (by rw [q]; exact Bool.false_ne_true)]
theorem bodyP_rt {n : Nat} {f : En → Option Fl} {ds : List D} {d : D} {ρ' : En} (h : f (ds.map (fun d => some (.ro d)) ++ List.replicate (n - ds.length) none) = some (.rt d ρ')) : bodyP n f ds = some d := by
  unfold bodyP
  rw [h]
theorem bodyI_rt {n : Nat} {mask : List Bool} {f : En → Option Fl} {ds o : List D} {d : D} {ρ' : En} (h : f (envI n mask ds) = some (.rt d ρ')) (ho : allOwn (ρ'.drop n) = some o) : bodyI n mask f ds = some (d, o) := by
  unfold bodyI
  rw [h]
  show (allOwn (ρ'.drop n)).map _ = _
  rw [ho]
  rfl
theorem retF_ok {f : En → Option (D × En)} {ρ ρ' : En} {d : D} (h : f ρ = some (d, ρ')) : retF f ρ = some (.rt d ρ') := by
  unfold retF
  rw [h]
  rfl
theorem seqF_nx {t u : En → Option Fl} {ρ ρ' : En} {r : Option Fl} (e : t ρ = some (.nx ρ')) (h : u ρ' = r) : seqF t u ρ = r := by
  unfold seqF
  rw [e]
  exact h
theorem map_ok {x : Option D} {ρ : En} {d : D} (h : x = some d) : x.map (fun d => (d, ρ)) = some (d, ρ) := by rw [h]; rfl
theorem lcF_ok {n : Nat} {js : List (Option Nat)} {is : List Nat} {fi : En → Option (List D)} {fg : D → En → Option En} {ft : En → Option Bool} {fe : En → Option D} {ρ : En} {ds ys : List D} (h1 : fi ρ = some ds) (hz : ds.length ≤ sizeLine) (hall : is.all (fun i => js[i]? == some none) = true)
    (h2 : compD fg ft fe (capE n js ρ) ds = some ys) : lcF n js is fi fg ft fe ρ = some (.nd .lst ys) := by
  unfold lcF
  rw [h1]
  show (if _ then _ else _) = _
  rw [if_pos ⟨hz, hall⟩, h2]
  rfl
theorem lcF_map {α : Type} {n : Nat} {js : List (Option Nat)} {is : List Nat} {fi : En → Option (List D)} {fg : D → En → Option En} {ft : En → Option Bool} {fe : En → Option D} {ρ : En} (l : List α) (g : α → D) (p : α → Bool) (h : α → D) (h1 : fi ρ = some (l.map g)) (hz : l.length ≤ sizeLine) (hall : is.all (fun i => js[i]? == some none) = true)
    (h2 : ∀ a ∈ l, ∃ ρ1, fg (g a) (capE n js ρ) = some ρ1 ∧ ft ρ1 = some (p a) ∧ (p a = true → fe ρ1 = some (h a))) : lcF n js is fi fg ft fe ρ = some (.nd .lst ((l.filter p).map h)) :=
  lcF_ok h1 (by rw [List.length_map]; exact hz) hall (compD_map g p h l h2)
theorem mem_rng {lo : Int} {m : Nat} {d : D} (h : d ∈ rngD lo m) : ∃ i : Nat, i < m ∧ d = iD (lo + i) := by
  unfold rngD at h
  obtain ⟨i, hi, e⟩ := List.mem_map.mp h
  exact ⟨i, List.mem_range.mp hi, e.symm⟩
theorem pB_own {ρ : En} {d : D} : pruneB ρ (some (.own d)) = some (.own d) := rfl
theorem pB_ro {ρ : En} {d : D} : pruneB ρ (some (.ro d)) = some (.ro d) := rfl
theorem pB_none {ρ : En} : pruneB ρ none = none := rfl
theorem na_none : NA none := fun _ _ h => by cases h
theorem na_ro {d : D} : NA (some (.ro d)) := fun _ _ h => by cases h
theorem na_own {d : D} : NA (some (.own d)) := fun _ _ h => by cases h
theorem sne_many_number : (Str.ofString "many" = Str.ofString "number") = False := eq_false (by decide +kernel)
theorem sne_term_number : (Str.ofString "term" = Str.ofString "number") = False := eq_false (by decide +kernel)
theorem sne_term_many : (Str.ofString "term" = Str.ofString "many") = False := eq_false (by decide +kernel)
theorem sne_of_number : (Str.ofString "of" = Str.ofString "number") = False := eq_false (by decide +kernel)
theorem sne_of_many : (Str.ofString "of" = Str.ofString "many") = False := eq_false (by decide +kernel)
theorem sne_of_term : (Str.ofString "of" = Str.ofString "term") = False := eq_false (by decide +kernel)
theorem sne_log_number : (Str.ofString "log" = Str.ofString "number") = False := eq_false (by decide +kernel)
theorem sne_log_many : (Str.ofString "log" = Str.ofString "many") = False := eq_false (by decide +kernel)
theorem sne_log_term : (Str.ofString "log" = Str.ofString "term") = False := eq_false (by decide +kernel)
theorem sne_log_of : (Str.ofString "log" = Str.ofString "of") = False := eq_false (by decide +kernel)
theorem sne_done_number : (Str.ofString "done" = Str.ofString "number") = False := eq_false (by decide +kernel)
theorem sne_done_many : (Str.ofString "done" = Str.ofString "many") = False := eq_false (by decide +kernel)
theorem sne_done_term : (Str.ofString "done" = Str.ofString "term") = False := eq_false (by decide +kernel)
theorem sne_done_of : (Str.ofString "done" = Str.ofString "of") = False := eq_false (by decide +kernel)
theorem sne_done_log : (Str.ofString "done" = Str.ofString "log") = False := eq_false (by decide +kernel)
theorem sne_role_number : (Str.ofString "role" = Str.ofString "number") = False := eq_false (by decide +kernel)
theorem sne_role_many : (Str.ofString "role" = Str.ofString "many") = False := eq_false (by decide +kernel)
theorem sne_role_term : (Str.ofString "role" = Str.ofString "term") = False := eq_false (by decide +kernel)
theorem sne_role_of : (Str.ofString "role" = Str.ofString "of") = False := eq_false (by decide +kernel)
theorem sne_role_log : (Str.ofString "role" = Str.ofString "log") = False := eq_false (by decide +kernel)
theorem sne_role_done : (Str.ofString "role" = Str.ofString "done") = False := eq_false (by decide +kernel)
theorem sne_voices_number : (Str.ofString "voices" = Str.ofString "number") = False := eq_false (by decide +kernel)
theorem sne_voices_many : (Str.ofString "voices" = Str.ofString "many") = False := eq_false (by decide +kernel)
theorem sne_voices_term : (Str.ofString "voices" = Str.ofString "term") = False := eq_false (by decide +kernel)
theorem sne_voices_of : (Str.ofString "voices" = Str.ofString "of") = False := eq_false (by decide +kernel)
theorem sne_voices_log : (Str.ofString "voices" = Str.ofString "log") = False := eq_false (by decide +kernel)
theorem sne_voices_done : (Str.ofString "voices" = Str.ofString "done") = False := eq_false (by decide +kernel)
theorem sne_voices_role : (Str.ofString "voices" = Str.ofString "role") = False := eq_false (by decide +kernel)
theorem sne_sizes_number : (Str.ofString "sizes" = Str.ofString "number") = False := eq_false (by decide +kernel)
theorem sne_sizes_many : (Str.ofString "sizes" = Str.ofString "many") = False := eq_false (by decide +kernel)
theorem sne_sizes_term : (Str.ofString "sizes" = Str.ofString "term") = False := eq_false (by decide +kernel)
theorem sne_sizes_of : (Str.ofString "sizes" = Str.ofString "of") = False := eq_false (by decide +kernel)
theorem sne_sizes_log : (Str.ofString "sizes" = Str.ofString "log") = False := eq_false (by decide +kernel)
theorem sne_sizes_done : (Str.ofString "sizes" = Str.ofString "done") = False := eq_false (by decide +kernel)
theorem sne_sizes_role : (Str.ofString "sizes" = Str.ofString "role") = False := eq_false (by decide +kernel)
theorem sne_sizes_voices : (Str.ofString "sizes" = Str.ofString "voices") = False := eq_false (by decide +kernel)
theorem sne_fixed_number : (Str.ofString "fixed" = Str.ofString "number") = False := eq_false (by decide +kernel)
theorem sne_fixed_many : (Str.ofString "fixed" = Str.ofString "many") = False := eq_false (by decide +kernel)
theorem sne_fixed_term : (Str.ofString "fixed" = Str.ofString "term") = False := eq_false (by decide +kernel)
theorem sne_fixed_of : (Str.ofString "fixed" = Str.ofString "of") = False := eq_false (by decide +kernel)
theorem sne_fixed_log : (Str.ofString "fixed" = Str.ofString "log") = False := eq_false (by decide +kernel)
theorem sne_fixed_done : (Str.ofString "fixed" = Str.ofString "done") = False := eq_false (by decide +kernel)
theorem sne_fixed_role : (Str.ofString "fixed" = Str.ofString "role") = False := eq_false (by decide +kernel)
theorem sne_fixed_voices : (Str.ofString "fixed" = Str.ofString "voices") = False := eq_false (by decide +kernel)
theorem sne_fixed_sizes : (Str.ofString "fixed" = Str.ofString "sizes") = False := eq_false (by decide +kernel)
def Gd (n : Nat) (d : D) : Prop := ∃ p, toPy d = some p ∧ p.canLay0 = true ∧ p.depth ≤ n ∧ PyData.eqv p p = true
def GdL (n : Nat) (ds : List D) : Prop := ∃ ps, toPyL ds = some ps ∧ PyData.canLayAll0 ps = true ∧ PyData.depthAll ps ≤ n ∧ PyData.eqvAll ps ps = true
theorem Gd.int (i : Int) : Gd 0 (.sc (.int i)) := ⟨.int i, by simp [toPy], by simp [PyData.canLay0], by simp [PyData.depth], by simp [PyData.eqv]⟩
theorem Gd.str (x : Str) (h : PyData.strOk x = true) : Gd 0 (.sc (.str x)) := ⟨.str x, by simp [toPy], by simp [PyData.canLay0, h], by simp [PyData.depth], by simp [PyData.eqv]⟩
theorem Gd.mono {m n : Nat} {d : D} (h : Gd m d) (l : m ≤ n) : Gd n d := by
  obtain ⟨p, a, b, c, e⟩ := h
  exact ⟨p, a, b, Nat.le_trans c l, e⟩
theorem GdL.nil {n : Nat} : GdL n [] := ⟨[], by simp [toPyL], by simp [PyData.canLayAll0], by simp [PyData.depthAll], by simp [PyData.eqvAll]⟩
theorem GdL.cons {n : Nat} {d : D} {ds : List D} (h : Gd n d) (t : GdL n ds) : GdL n (d :: ds) := by
  obtain ⟨p, a, b, c, e⟩ := h
  obtain ⟨ps, a', b', c', e'⟩ := t
  exact ⟨p :: ps, by simp [toPyL, a, a'], by simp [PyData.canLayAll0, b, b'], by simp [PyData.depthAll]; omega, by simp [PyData.eqvAll, e, e']⟩
theorem GdL.all {n : Nat} : ∀ {ds : List D}, (∀ d ∈ ds, Gd n d) → GdL n ds
  | [], _ => .nil
  | d :: ds, h => .cons (h d (.head _)) (GdL.all fun x hx => h x (.tail _ hx))
theorem GdL.tup {n : Nat} {ds : List D} (h : GdL n ds) : Gd (n + 1) (.nd .tup ds) := by
  obtain ⟨ps, a, b, c, e⟩ := h
  exact ⟨.tuple ps, by simp [toPy, a], by simp [PyData.canLay0, b], by simp [PyData.depth]; omega, by simp [PyData.eqv, e]⟩
theorem GdL.lst {n : Nat} {ds : List D} (h : GdL n ds) : Gd (n + 1) (.nd .lst ds) := by
  obtain ⟨ps, a, b, c, e⟩ := h
  exact ⟨.list ps, by simp [toPy, a], by simp [PyData.canLay0, b], by simp [PyData.depth]; omega, by simp [PyData.eqv, e]⟩
theorem ne_same {d : D} (h : Gd 60 d) : eqP (!·) d d = some (.sc (.bl false)) := by
  obtain ⟨p, a, b, c, e⟩ := h
  simp [eqP, a, b, c, e]
theorem ne_nil : eqP (!·) (.nd .tup []) (.nd .tup []) = some (.sc (.bl false)) := ne_same ((GdL.nil (n := 0)).tup.mono (by decide))
theorem rngD_eq (m : Nat) : rngD 0 m = (List.range m).map fun i : Nat => D.sc (.int (i : Int)) := by
  unfold rngD
  refine List.map_congr_left fun i _ => ?_
  rw [Int.zero_add]
def oth (nu : Int) (m : Nat) : List Nat := (List.range m).filter fun i : Nat => decide ((i : Int) ≠ nu)
def nxt (nu ma te : Int) : Int := te + 1 + (nu - (te + 1)) % ma
def Lp (l : List D) : Prop := ∃ x y : Int, l = [iD x] ∨ l = [iD x, iD y]
theorem bodyI_ev {n : Nat} {mask : List Bool} {f : En → Option Fl} {ds : List D} {R : D → List D → Prop} (h : Ev f (envI n mask ds) fun fl => match fl with | .rt d ρ' => ∃ o, allOwn (ρ'.drop n) = some o ∧ R d o | _ => False) : ∃ d o, bodyI n mask f ds = some (d, o) ∧ R d o := by
  obtain ⟨fl, e, h⟩ := h
  cases fl with
  | rt d ρ' =>
    obtain ⟨o, ho, r⟩ := h
    exact ⟨d, o, bodyI_rt e ho, r⟩
  | nx _ => exact h.elim
  | bk _ => exact h.elim
  | ct _ => exact h.elim
theorem Ev.ifT {fc : En → Option (Bool × En)} {a b : En → Option Fl} {ρ ρ1 : En} {Q : Fl → Prop} (h : fc ρ = some (true, ρ1)) (ha : Ev a ρ1 Q) : Ev (ifF fc a b) ρ Q := by
  obtain ⟨fl, e, q⟩ := ha
  refine ⟨fl, ?_, q⟩
  unfold ifF
  rw [h]
  exact e
def fns : List Str := ["number", "many", "term", "of", "log", "done", "role", "voices", "sizes", "fixed"]
inductive RowD : D → Prop
  | a (s : Str) (k : Int) : PyData.strOk s = true → RowD (.nd .tup [.sc (.str s), .sc (.int k)])
  | b (s : Str) (k t : Int) : PyData.strOk s = true → RowD (.nd .tup [.sc (.str s), .sc (.int k), .sc (.int t)])
  | c (s : Str) (k : Int) (t : Str) : PyData.strOk s = true → PyData.strOk t = true → RowD (.nd .tup [.sc (.str s), .sc (.int k), .sc (.str t)])
def Rws (L : List D) : Prop := ∀ d ∈ L, RowD d
theorem RowD.plain {d : D} (h : RowD d) : VL.plain d = true := by cases h <;> simp [VL.plain, VL.plainL]
theorem RowD.gd {d : D} (h : RowD d) : Gd 1 d := by
  cases h with
  | a s k h => exact GdL.tup (GdL.cons (Gd.str _ h) (GdL.cons (Gd.int _) GdL.nil))
  | b s k t h => exact GdL.tup (GdL.cons (Gd.str _ h) (GdL.cons (Gd.int _) (GdL.cons (Gd.int _) GdL.nil)))
  | c s k t h h2 => exact GdL.tup (GdL.cons (Gd.str _ h) (GdL.cons (Gd.int _) (GdL.cons (Gd.str _ h2) GdL.nil)))
theorem Rws.plain {L : List D} (h : Rws L) : VL.plainL L = true := plainL_of fun d hd => (h d hd).plain
theorem Rws.gd {L : List D} (h : Rws L) : GdL 1 L := GdL.all fun d hd => (h d hd).gd
theorem Rws.nil : Rws [] := fun _ h => nomatch h
theorem Rws.app {L M : List D} (h : Rws L) (g : Rws M) : Rws (L ++ M) := fun d hd => (List.mem_append.mp hd).elim (h d) (g d)
theorem Rws.one {r : D} (h : RowD r) : Rws [r] := fun d hd => by rw [List.mem_singleton.mp hd]; exact h
def mD (C : Addr) (nu ma te o : Int) (L : List D) (dn : Int) (role : Str) (vo si : D) : D := .nd (.obj C fns) [iD nu, iD ma, iD te, iD o, .nd .lst L, iD dn, sD role, vo, si, tD true]
def fD (nu ma te o : Int) (L : List D) (dn : Int) (role : Str) : D := .nd .tup [iD nu, iD ma, iD te, iD o, .nd .lst L, iD dn, sD role]
theorem m_plain {C : Addr} (nu ma te o : Int) (L : List D) (dn : Int) (role : Str) (vo si : D) : VL.plain (mD C nu ma te o L dn role vo si) = false := by simp [mD, VL.plain]
theorem f_gd (nu ma te o : Int) (L : List D) (dn : Int) (role : Str) (hL : Rws L) (h : PyData.strOk role = true) : Gd 60 (fD nu ma te o L dn role) :=
  (GdL.tup (n := 2) (.cons ((Gd.int _).mono (by decide)) (.cons ((Gd.int _).mono (by decide)) (.cons ((Gd.int _).mono (by decide)) (.cons ((Gd.int _).mono (by decide)) (.cons (hL.gd.lst) (.cons ((Gd.int _).mono (by decide)) (.cons ((Gd.str _ h).mono (by decide)) .nil)))))))).mono (by decide)
theorem obj_of {C : Addr} {m : Str} (h : (posF m fns).isNone = true) (nu ma te o : Int) (L : List D) (dn : Int) (role : Str) (vo si : D) : isObjOf C m (mD C nu ma te o L dn role vo si) = true := by
  show (decide (C = C) && (posF m fns).isNone) = true
  rw [decide_eq_true rfl, h]
  rfl
theorem fl_number {C : Addr} (nu ma te o : Int) (L : List D) (dn : Int) (role : Str) (vo si : D) : fldD "number" (mD C nu ma te o L dn role vo si) = some (iD nu) := by
  simp [mD, fns, fldD, fldI, posF, kidD]
theorem fl_many {C : Addr} (nu ma te o : Int) (L : List D) (dn : Int) (role : Str) (vo si : D) : fldD "many" (mD C nu ma te o L dn role vo si) = some (iD ma) := by
  simp [mD, fns, fldD, fldI, posF, kidD, sne_many_number]
theorem fl_term {C : Addr} (nu ma te o : Int) (L : List D) (dn : Int) (role : Str) (vo si : D) : fldD "term" (mD C nu ma te o L dn role vo si) = some (iD te) := by
  simp [mD, fns, fldD, fldI, posF, kidD, sne_term_number, sne_term_many]
theorem fl_log {C : Addr} (nu ma te o : Int) (L : List D) (dn : Int) (role : Str) (vo si : D) : fldD "log" (mD C nu ma te o L dn role vo si) = some (.nd .lst L) := by
  simp [mD, fns, fldD, fldI, posF, kidD, sne_log_number, sne_log_many, sne_log_term, sne_log_of]
theorem fl_done {C : Addr} (nu ma te o : Int) (L : List D) (dn : Int) (role : Str) (vo si : D) : fldD "done" (mD C nu ma te o L dn role vo si) = some (iD dn) := by
  simp [mD, fns, fldD, fldI, posF, kidD, sne_done_number, sne_done_many, sne_done_term, sne_done_of, sne_done_log]
theorem fl_role {C : Addr} (nu ma te o : Int) (L : List D) (dn : Int) (role : Str) (vo si : D) : fldD "role" (mD C nu ma te o L dn role vo si) = some (sD role) := by
  simp [mD, fns, fldD, fldI, posF, kidD, sne_role_number, sne_role_many, sne_role_term, sne_role_of, sne_role_log, sne_role_done]
theorem fl_sizes {C : Addr} (nu ma te o : Int) (L : List D) (dn : Int) (role : Str) (vo si : D) : fldD "sizes" (mD C nu ma te o L dn role vo si) = some (si) := by
  simp [mD, fns, fldD, fldI, posF, kidD, sne_sizes_number, sne_sizes_many, sne_sizes_term, sne_sizes_of, sne_sizes_log, sne_sizes_done, sne_sizes_role, sne_sizes_voices]
end VL
set_option synthInstance.maxHeartbeats 1000000
set_option synthInstance.maxSize 4000
namespace K28
open PySem L2 VL
def top (i : Nat) : Stmt := PySem.Challenge.pw_farshelf_k28_how_much_is_written.main.body.getD i (.Pass ⟨0, 0, 0, 0⟩)
abbrev s_Lcell_at : Stmt := top 20
abbrev s_Lmix : Stmt := top 21
abbrev s_Lrich : Stmt := top 22
abbrev s_Lleft : Stmt := top 23
abbrev s_Master_init : Stmt := inClass (top 5) 0
abbrev s_next_term : Stmt := top 7
abbrev s_is_fixed : Stmt := top 3
abbrev s_own_copy : Stmt := top 2
abbrev s_take_behind : Stmt := top 9
abbrev s_take_rows : Stmt := top 10
abbrev s_is_most : Stmt := top 11
abbrev s_rank_of_voice : Stmt := top 12
abbrev s_lead_by_voices : Stmt := top 13
abbrev s_others : Stmt := top 6
abbrev s_Master_rise : Stmt := inClass (top 5) 1
abbrev s_Lrows : Stmt := top 26
abbrev s_Lpick : Stmt := top 24
abbrev s_count_done : Stmt := top 14
abbrev s_hear_kept : Stmt := top 18
abbrev s_rows_told : Stmt := top 8
abbrev s_hear_voice : Stmt := top 16
abbrev s_Master_hear : Stmt := inClass (top 5) 5
abbrev s_Lled : Stmt := top 27
abbrev s_Lfields : Stmt := top 25
abbrev s_Master_send : Stmt := inClass (top 5) 3
abbrev s_Master_add : Stmt := inClass (top 5) 2
abbrev s_Lwritten : Stmt := top 28
abbrev s_Lwalked : Stmt := top 29
abbrev s_law : Stmt := top 30
structure Txt (mg : Str → Option Value) : Prop where
  b_len : mg "len" = none
  b_range : mg "range" = none
  b_list : mg "list" = none
  b_tuple : mg "tuple" = none
  b_int : mg "int" = none
  b_max : mg "max" = none
  b_min : mg "min" = none
  b_all : mg "all" = none
  b_any : mg "any" = none
  b_isinstance : mg "isinstance" = none
  b_str : mg "str" = none
  b_bool : mg "bool" = none
  b_dict : mg "dict" = none
  b_sorted : mg "sorted" = none
section
variable {P : Program} {w : World} {K : W.Frag} {mg : Str → Option Value} {base : Heap} {Cm : Addr} [ClsI K Cm]
abbrev t_Lcell_at (K : W.Frag) (Cm : Addr) [ClsI K Cm] : TS := (tSeq (tIfS (tTest (tOp (rI0 fun i j => .bl (decide (i < j))) (tVar 1) (tCB (rLenU K) (tCons (tVar 0) tNil))))
      (tRet (tOp (rIxU K) (tVar 0) (tVar 1))) tNext)
    (tRet (tC (.int 0))))
noncomputable def b_Lcell_at (K : W.Frag) (Cm : Addr) [ClsI K Cm] : {f : En → Option Fl // SS K 2 (t_Lcell_at K Cm) f} := ⟨_, inferInstance⟩
noncomputable def f_Lcell_at (K : W.Frag) (Cm : Addr) [ClsI K Cm] : En → Option Fl := (b_Lcell_at K Cm).1
theorem sc_Lcell_at : FnScope ["_law_script", "_law_k"] ["_law_script", "_law_k"] (defScope s_Lcell_at) := ⟨rfl, rfl, rfl, by decide +kernel, rfl, by decide +kernel, by decide +kernel⟩
noncomputable def G_Lcell_at (K : W.Frag) (Cm : Addr) [ClsI K Cm] : List D → Option D := bodyP 2 (f_Lcell_at K Cm)
theorem ok_Lcell_at {f : Addr} {fd : FuncData} (F : Fun K "_law_cell_at" "_law_cell_at" s_Lcell_at f fd) (T : Txt mg) : FnOk P w K mg base CX0 1 f fd ["_law_script", "_law_k"] (spP K 2 (G_Lcell_at K Cm)) := by
  refine F.ok sc_Lcell_at (fun vs H Q E h => spP_len h) (fun cdv A outer s H vs Q E hr h => ?_)
  exact ⟨t_Lcell_at K Cm, (pss_cons (ps_if (pt_cmpR op_lt (pv 1) (pe_callB (r := (rLenU K)) call_lenU rfl T.b_len PySem.boot_len (pa_cons (pv 0) pa_nil)) (nomark _))
      (pss_one (ps_ret (pe_ix (r := rIxU K) (ix_any (hu_of hr)) (pv 0) (pv 1) (fun _ _ => rfl)))) pss_nil)
    (pss_one (ps_ret pe_int))), pure_fn (S := (b_Lcell_at K Cm).2) h (by decide)⟩
abbrev t_Lmix (K : W.Frag) (Cm : Addr) [ClsI K Cm] : TS := (tSeq (tAsg (tOp (rI (fun _ j => 0 < j) fun i j => .int (i % j)) (tOp (rI CMul fun i j => .int (i * j)) (tOp (rAddU K) (tOp (rAddU K) (tOp (rI (fun _ j => 0 < j) fun i j => .int (i % j)) (tVar 0) (tC (.int 2147483629))) (tOp (rI CMul fun i j => .int (i * j)) (tOp (rI CMul fun i j => .int (i * j)) (tVar 1) (tVar 1)) (tC (.int 7919)))) (tC (.int 11))) (tC (.int 48271))) (tC (.int 2147483647))) (gName 2))
    (tRet (tOp (rI (fun _ j => 0 < j) fun i j => .int (i % j)) (tOp (rI CMul fun i j => .int (i * j)) (tVar 2) (tVar 2)) (tC (.int 1999999973)))))
noncomputable def b_Lmix (K : W.Frag) (Cm : Addr) [ClsI K Cm] : {f : En → Option Fl // SS K 3 (t_Lmix K Cm) f} := ⟨_, inferInstance⟩
noncomputable def f_Lmix (K : W.Frag) (Cm : Addr) [ClsI K Cm] : En → Option Fl := (b_Lmix K Cm).1
theorem sc_Lmix : FnScope ["_law_cell", "_law_k", "_law_m"] ["_law_cell", "_law_k"] (defScope s_Lmix) := ⟨rfl, rfl, rfl, by decide +kernel, rfl, by decide +kernel, by decide +kernel⟩
noncomputable def G_Lmix (K : W.Frag) (Cm : Addr) [ClsI K Cm] : List D → Option D := bodyP 3 (f_Lmix K Cm)
theorem ok_Lmix {f : Addr} {fd : FuncData} (F : Fun K "_law_mix" "_law_mix" s_Lmix f fd) (T : Txt mg) : FnOk P w K mg base CX0 1 f fd ["_law_cell", "_law_k"] (spP K 2 (G_Lmix K Cm)) := by
  refine F.ok sc_Lmix (fun vs H Q E h => spP_len h) (fun cdv A outer s H vs Q E hr h => ?_)
  exact ⟨t_Lmix K Cm, (pss_cons (ps_set (i := 2) sc_Lmix.nd rfl (Or.inl rfl) (pe_op op_mod (pe_op op_mul (pe_op op_addU (pe_op op_addU (pe_op op_mod (pv 0) pe_int) (pe_op op_mul (pe_op op_mul (pv 1) (pv 1)) pe_int)) pe_int) pe_int) pe_int))
    (pss_one (ps_ret (pe_op op_mod (pe_op op_mul (pv 2) (pv 2)) pe_int)))), pure_fn (S := (b_Lmix K Cm).2) h (by decide)⟩
abbrev t_Lrich (K : W.Frag) (Cm : Addr) [ClsI K Cm] : TS := (tSeq (tAsg (tC (.int 0)) (gName 2))
    (tSeq (tFor (iRng1 (tCons (tC (.int 12)) tNil)) (gName 3)
      (tAsg (tOp (rAddU K) (tOp (rI CMul fun i j => .int (i * j)) (tVar 2) (tC (.int 1999999973))) (tCall (spP K 2 (G_Lmix K Cm)) [] E0 (tCons (tCall (spP K 2 (G_Lmix K Cm)) [] E0 (tCons (tVar 0) (tCons (tOp (rAddU K) (tVar 1) (tOp (rI CMul fun i j => .int (i * j)) (tC (.int 20)) (tVar 3))) tNil))) (tCons (tVar 3) tNil)))) (gName 2)))
    (tRet (tVar 2))))
noncomputable def b_Lrich (K : W.Frag) (Cm : Addr) [ClsI K Cm] : {f : En → Option Fl // SS K 4 (t_Lrich K Cm) f} := ⟨_, inferInstance⟩
noncomputable def f_Lrich (K : W.Frag) (Cm : Addr) [ClsI K Cm] : En → Option Fl := (b_Lrich K Cm).1
theorem sc_Lrich : FnScope ["_law_cell", "_law_k", "_law_number", "_law_j"] ["_law_cell", "_law_k"] (defScope s_Lrich) := ⟨rfl, rfl, rfl, by decide +kernel, rfl, by decide +kernel, by decide +kernel⟩
noncomputable def G_Lrich (K : W.Frag) (Cm : Addr) [ClsI K Cm] : List D → Option D := bodyP 4 (f_Lrich K Cm)
theorem ok_Lrich {f : Addr} {fd : FuncData} (F : Fun K "_law_rich" "_law_rich" s_Lrich f fd) (T : Txt mg) (C_Lmix : Cal P w K mg base "_law_mix" ["_law_cell", "_law_k"] 1 (spP K 2 (G_Lmix K Cm))) : FnOk P w K mg base CX0 2 f fd ["_law_cell", "_law_k"] (spP K 2 (G_Lrich K Cm)) := by
  refine F.ok sc_Lrich (fun vs H Q E h => spP_len h) (fun cdv A outer s H vs Q E hr h => ?_)
  exact ⟨t_Lrich K Cm, (pss_cons (ps_set (i := 2) sc_Lrich.nd rfl (Or.inl rfl) pe_int)
    (pss_cons (ps_for PassesOwn.never rfl (pi_range1 rfl T.b_range (pa_cons pe_int pa_nil)) (pg_name (i := 3) sc_Lrich.nd rfl (Or.inl rfl))
      (pss_one (ps_set (i := 2) sc_Lrich.nd rfl (Or.inl rfl) (pe_op op_addU (pe_op op_mul (pv 2) pe_int) (pe_cal C_Lmix hr rfl (pa_cons (pe_cal C_Lmix hr rfl (pa_cons (pv 0) (pa_cons (pe_op op_addU (pv 1) (pe_op op_mul pe_int (pv 3))) pa_nil))) (pa_cons (pv 3) pa_nil)))))))
    (pss_one (ps_ret (pv 2))))), pure_fn (S := (b_Lrich K Cm).2) h (by decide)⟩
abbrev t_Lleft (K : W.Frag) (Cm : Addr) [ClsI K Cm] : TS := (tSeq (tAsg (tCall (spP K 2 (G_Lcell_at K Cm)) [] E0 (tCons (tVar 0) (tCons (tVar 1) tNil))) (gName 2))
    (tSeq (tIfS (tTest (tOp (rI0 fun i j => .bl (decide (j ≤ i))) (tVar 2) (tOp (rI CPow fun i j => .int (i ^ j.toNat)) (tC (.int 10)) (tC (.int 18)))))
      (tRet (tLst (tCons (tVar 2) (tCons (tCall (spP K 2 (G_Lrich K Cm)) [] E0 (tCons (tVar 2) (tCons (tVar 1) tNil))) tNil)))) tNext)
    (tRet (tLst (tCons (tCall (spP K 2 (G_Lrich K Cm)) [] E0 (tCons (tVar 2) (tCons (tVar 1) tNil))) tNil)))))
noncomputable def b_Lleft (K : W.Frag) (Cm : Addr) [ClsI K Cm] : {f : En → Option Fl // SS K 3 (t_Lleft K Cm) f} := ⟨_, inferInstance⟩
noncomputable def f_Lleft (K : W.Frag) (Cm : Addr) [ClsI K Cm] : En → Option Fl := (b_Lleft K Cm).1
theorem sc_Lleft : FnScope ["_law_script", "_law_k", "_law_cell"] ["_law_script", "_law_k"] (defScope s_Lleft) := ⟨rfl, rfl, rfl, by decide +kernel, rfl, by decide +kernel, by decide +kernel⟩
noncomputable def G_Lleft (K : W.Frag) (Cm : Addr) [ClsI K Cm] : List D → Option D := bodyP 3 (f_Lleft K Cm)
theorem ok_Lleft {f : Addr} {fd : FuncData} (F : Fun K "_law_left" "_law_left" s_Lleft f fd) (T : Txt mg) (C_Lcell_at : Cal P w K mg base "_law_cell_at" ["_law_script", "_law_k"] 1 (spP K 2 (G_Lcell_at K Cm))) (C_Lrich : Cal P w K mg base "_law_rich" ["_law_cell", "_law_k"] 2 (spP K 2 (G_Lrich K Cm))) : FnOk P w K mg base CX0 3 f fd ["_law_script", "_law_k"] (spP K 2 (G_Lleft K Cm)) := by
  refine F.ok sc_Lleft (fun vs H Q E h => spP_len h) (fun cdv A outer s H vs Q E hr h => ?_)
  exact ⟨t_Lleft K Cm, (pss_cons (ps_set (i := 2) sc_Lleft.nd rfl (Or.inl rfl) (pe_cal C_Lcell_at hr rfl (pa_cons (pv 0) (pa_cons (pv 1) pa_nil))))
    (pss_cons (ps_if (pt_cmpR op_ge (pv 2) (pe_op op_pow pe_int pe_int) (nomark _))
      (pss_one (ps_ret (pe_lst (pa_cons (pv 2) (pa_cons (pe_cal C_Lrich hr rfl (pa_cons (pv 2) (pa_cons (pv 1) pa_nil))) pa_nil))))) pss_nil)
    (pss_one (ps_ret (pe_lst (pa_cons (pe_cal C_Lrich hr rfl (pa_cons (pv 2) (pa_cons (pv 1) pa_nil))) pa_nil)))))), pure_fn (S := (b_Lleft K Cm).2) h (by decide)⟩
abbrev t_Master_init (K : W.Frag) (Cm : Addr) [ClsI K Cm] : TS := (tSeq (sFld K (tVar 0) (tVar 1) "number")
    (tSeq (sFld K (tVar 0) (tVar 2) "many")
    (tSeq (sFld K (tVar 0) (tC (.int 0)) "term")
    (tSeq (sFld K (tVar 0) (tC (.int 0)) "of")
    (tSeq (sFld K (tVar 0) (tLst tNil) "log")
    (tSeq (sFld K (tVar 0) (tC (.int 0)) "done")
    (tSeq (sFld K (tVar 0) (tC (.str "hears")) "role")
    (tSeq (sFld K (tVar 0) tDNewK "voices")
    (tSeq (sFld K (tVar 0) tDNewK "sizes")
    (sFld K (tVar 0) (tC (.bl true)) "fixed"))))))))))
noncomputable def b_Master_init (K : W.Frag) (Cm : Addr) [ClsI K Cm] : {f : En → Option Fl // SS K 3 (t_Master_init K Cm) f} := ⟨_, inferInstance⟩
noncomputable def f_Master_init (K : W.Frag) (Cm : Addr) [ClsI K Cm] : En → Option Fl := (b_Master_init K Cm).1
theorem sc_Master_init : FnScope ["self", "number", "many"] ["self", "number", "many"] (defScope s_Master_init) := ⟨rfl, rfl, rfl, by decide +kernel, rfl, by decide +kernel, by decide +kernel⟩
noncomputable def G_Master_init (K : W.Frag) (Cm : Addr) [ClsI K Cm] : List D → Option (D × List D) := bodyI 3 (true :: List.replicate 2 false) (f_Master_init K Cm)
theorem ok_Master_init {f : Addr} {fd : FuncData} (F : Fun K "__init__" "Master.__init__" s_Master_init f fd) (T : Txt mg) : FnOk P w K mg base CX0 1 f fd ["self", "number", "many"] (spI K (true :: List.replicate 2 false) (G_Master_init K Cm)) := by
  refine F.ok sc_Master_init (fun vs H Q E h => h.1) (fun cdv A outer s H vs Q E hr h => ?_)
  exact ⟨t_Master_init K Cm, (pss_cons (ps_fld (pv 0) (pv 1) rfl)
    (pss_cons (ps_fld (pv 0) (pv 2) rfl)
    (pss_cons (ps_fld (pv 0) pe_int rfl)
    (pss_cons (ps_fld (pv 0) pe_int rfl)
    (pss_cons (ps_fld (pv 0) (pe_lst pa_nil) rfl)
    (pss_cons (ps_fld (pv 0) pe_int rfl)
    (pss_cons (ps_fld (pv 0) pe_str rfl)
    (pss_cons (ps_fld (pv 0) pe_dnewK rfl)
    (pss_cons (ps_fld (pv 0) pe_dnewK rfl)
    (pss_one (ps_fld (pv 0) pe_bl rfl))))))))))), io_fn (S := (b_Master_init K Cm).2) h (by decide)⟩
abbrev t_next_term (K : W.Frag) (Cm : Addr) [ClsI K Cm] : TS := (tSeq (tAsg (tOp (rAddU K) (tFld K (tVar 0) "term") (tC (.int 1))) (gName 1))
    (tRet (tOp (rAddU K) (tVar 1) (tOp (rI (fun _ j => 0 < j) fun i j => .int (i % j)) (tOp (rI0 fun i j => .int (i - j)) (tFld K (tVar 0) "number") (tVar 1)) (tFld K (tVar 0) "many")))))
noncomputable def b_next_term (K : W.Frag) (Cm : Addr) [ClsI K Cm] : {f : En → Option Fl // SS K 2 (t_next_term K Cm) f} := ⟨_, inferInstance⟩
noncomputable def f_next_term (K : W.Frag) (Cm : Addr) [ClsI K Cm] : En → Option Fl := (b_next_term K Cm).1
theorem sc_next_term : FnScope ["master", "least"] ["master"] (defScope s_next_term) := ⟨rfl, rfl, rfl, by decide +kernel, rfl, by decide +kernel, by decide +kernel⟩
noncomputable def G_next_term (K : W.Frag) (Cm : Addr) [ClsI K Cm] : List D → Option D := bodyP 2 (f_next_term K Cm)
theorem ok_next_term {f : Addr} {fd : FuncData} (F : Fun K "next_term" "next_term" s_next_term f fd) (T : Txt mg) : FnOk P w K mg base CX0 1 f fd ["master"] (spP K 1 (G_next_term K Cm)) := by
  refine F.ok sc_next_term (fun vs H Q E h => spP_len h) (fun cdv A outer s H vs Q E hr h => ?_)
  exact ⟨t_next_term K Cm, (pss_cons (ps_set (i := 1) sc_next_term.nd rfl (Or.inl rfl) (pe_op op_addU (pe_fldK (K := K) rfl (pv 0) rfl) pe_int))
    (pss_one (ps_ret (pe_op op_addU (pv 1) (pe_op op_mod (pe_op op_sub (pe_fldK (K := K) rfl (pv 0) rfl) (pv 1)) (pe_fldK (K := K) rfl (pv 0) rfl)))))), pure_fn (S := (b_next_term K Cm).2) h (by decide)⟩
abbrev t_is_fixed (K : W.Frag) (Cm : Addr) [ClsI K Cm] (Gs : List D → Option D) : TS := (tSeq (tIfS (tB (tCB (rIsi K "tuple") (tCons (tVar 0) (tCons (tC (.ty "tuple")) tNil))))
      (tRet (tCB (rAll K) (tCons (tLC (iAny K (tVar 0)) (gName 0) tTrue (tCall (spP K 1 Gs) [] E0 (tCons (tVar 0) tNil)) [none]) tNil))) tNext)
    (tRet (tNotV (tCB (rIsiT K) (tCons (tVar 0) (tCons (tTup (tCons (tC (.ty "list")) (tCons (tC (.ty "dict")) tNil))) tNil))))))
noncomputable def b_is_fixed (K : W.Frag) (Cm : Addr) [ClsI K Cm] (Gs : List D → Option D) : {f : En → Option Fl // SS K 1 (t_is_fixed K Cm Gs) f} := ⟨_, inferInstance⟩
noncomputable def f_is_fixed (K : W.Frag) (Cm : Addr) [ClsI K Cm] (Gs : List D → Option D) : En → Option Fl := (b_is_fixed K Cm Gs).1
theorem sc_is_fixed : FnScope ["value"] ["value"] (defScope s_is_fixed) := ⟨rfl, rfl, rfl, by decide +kernel, rfl, by decide +kernel, by decide +kernel⟩
noncomputable def H_is_fixed (K : W.Frag) (Cm : Addr) [ClsI K Cm] : Nat → List D → Option D
  | 0 => fun _ => none
  | m + 1 => bodyP 1 (f_is_fixed K Cm (H_is_fixed K Cm m))
noncomputable def G_is_fixed (K : W.Frag) (Cm : Addr) [ClsI K Cm] : List D → Option D := H_is_fixed K Cm 3
theorem ok_is_fixed {f : Addr} {fd : FuncData} (F : Fun K "is_fixed" "is_fixed" s_is_fixed f fd) (T : Txt mg) (hb : L2.Binds K fd ["value"] []) (hm : mg "is_fixed" = some (.ref f)) : ∀ m : Nat, FnOk P w K mg base CX0 (1 + m) f fd ["value"] (spP K 1 (H_is_fixed K Cm m))
  | 0 => fn_noneP
  | j + 1 => by
    have C_is_fixed := Cal.of F hb hm (ok_is_fixed F T hb hm j)
    refine F.ok sc_is_fixed (fun vs H Q E h => spP_len h) (fun cdv A outer s H vs Q E hr h => ?_)
    exact ⟨t_is_fixed K Cm (H_is_fixed K Cm j), (pss_cons (ps_if (pt_val (pe_callB (r := rIsi K "tuple") call_isi rfl T.b_isinstance PyProof.Rows.boot_isinstance (pa_cons (pv 0) (pa_cons (pe_bltn (v := .ty "tuple") rfl T.b_tuple PyProof.Rows.boot_tuple rfl) pa_nil))))
      (pss_one (ps_ret (pe_callB (r := (rAll K)) (call_all' rfl) rfl T.b_all PyProof.Rows.boot_all (pa_cons (pe_lc [none] ["part"] rfl (capOf trivial) (pi_any (pv 0)) (fun _ _ _ _ _ _ => (pg_name (i := 0) nd1 rfl (Or.inl rfl))) (fun _ _ _ _ _ _ => pifs_nil) (fun _ _ _ _ _ _ => (pe_cal C_is_fixed hr rfl (pa_cons (pv 0) pa_nil) (Nat.le_refl _)))) pa_nil)))) pss_nil)
    (pss_one (ps_ret (pe_not (pe_callB (r := rIsiT K) call_isiT rfl T.b_isinstance PyProof.Rows.boot_isinstance (pa_cons (pv 0) (pa_cons (pe_tup (pa_cons (pe_bltn (v := .ty "list") rfl T.b_list PyProof.Rows.boot_list rfl) (pa_cons (pe_bltn (v := .ty "dict") rfl T.b_dict PyProof.Rows.boot_dict rfl) pa_nil))) pa_nil))))))), pure_fn (S := (b_is_fixed K Cm (H_is_fixed K Cm j)).2) h (by decide)⟩
abbrev t_own_copy (K : W.Frag) (Cm : Addr) [ClsI K Cm] (Gs : List D → Option D) : TS := (tSeq (tIfS (tB (tCB (rIsi K "list") (tCons (tVar 0) (tCons (tC (.ty "list")) tNil))))
      tNever tNext)
    (tSeq (tIfS (tB (tCB (rIsi K "tuple") (tCons (tVar 0) (tCons (tC (.ty "tuple")) tNil))))
      (tRet (tCB (rTupOf K) (tCons (tLC (iAny K (tVar 0)) (gName 0) tTrue (tCall (spP K 1 Gs) [] E0 (tCons (tVar 0) tNil)) [none]) tNil))) tNext)
    (tSeq (tIfS (tB (tCB (rIsi K "dict") (tCons (tVar 0) (tCons (tC (.ty "dict")) tNil))))
      tNever tNext)
    (tRet (tVar 0)))))
noncomputable def b_own_copy (K : W.Frag) (Cm : Addr) [ClsI K Cm] (Gs : List D → Option D) : {f : En → Option Fl // SS K 1 (t_own_copy K Cm Gs) f} := ⟨_, inferInstance⟩
noncomputable def f_own_copy (K : W.Frag) (Cm : Addr) [ClsI K Cm] (Gs : List D → Option D) : En → Option Fl := (b_own_copy K Cm Gs).1
theorem sc_own_copy : FnScope ["value"] ["value"] (defScope s_own_copy) := ⟨rfl, rfl, rfl, by decide +kernel, rfl, by decide +kernel, by decide +kernel⟩
noncomputable def H_own_copy (K : W.Frag) (Cm : Addr) [ClsI K Cm] : Nat → List D → Option D
  | 0 => fun _ => none
  | m + 1 => bodyP 1 (f_own_copy K Cm (H_own_copy K Cm m))
noncomputable def G_own_copy (K : W.Frag) (Cm : Addr) [ClsI K Cm] : List D → Option D := H_own_copy K Cm 3
theorem ok_own_copy {f : Addr} {fd : FuncData} (F : Fun K "own_copy" "own_copy" s_own_copy f fd) (T : Txt mg) (hb : L2.Binds K fd ["value"] []) (hm : mg "own_copy" = some (.ref f)) : ∀ m : Nat, FnOk P w K mg base CX0 (1 + m) f fd ["value"] (spP K 1 (H_own_copy K Cm m))
  | 0 => fn_noneP
  | j + 1 => by
    have C_own_copy := Cal.of F hb hm (ok_own_copy F T hb hm j)
    refine F.ok sc_own_copy (fun vs H Q E h => spP_len h) (fun cdv A outer s H vs Q E hr h => ?_)
    exact ⟨t_own_copy K Cm (H_own_copy K Cm j), (pss_cons (ps_if (pt_val (pe_callB (r := rIsi K "list") call_isi rfl T.b_isinstance PyProof.Rows.boot_isinstance (pa_cons (pv 0) (pa_cons (pe_bltn (v := .ty "list") rfl T.b_list PyProof.Rows.boot_list rfl) pa_nil))))
      pss_never pss_nil)
    (pss_cons (ps_if (pt_val (pe_callB (r := rIsi K "tuple") call_isi rfl T.b_isinstance PyProof.Rows.boot_isinstance (pa_cons (pv 0) (pa_cons (pe_bltn (v := .ty "tuple") rfl T.b_tuple PyProof.Rows.boot_tuple rfl) pa_nil))))
      (pss_one (ps_ret (pe_callTy (r := (rTupOf K)) call_tupOf rfl T.b_tuple PyProof.Rows.boot_tuple (pa_cons (pe_lc [none] ["part"] rfl (capOf trivial) (pi_any (pv 0)) (fun _ _ _ _ _ _ => (pg_name (i := 0) nd1 rfl (Or.inl rfl))) (fun _ _ _ _ _ _ => pifs_nil) (fun _ _ _ _ _ _ => (pe_cal C_own_copy hr rfl (pa_cons (pv 0) pa_nil) (Nat.le_refl _)))) pa_nil)))) pss_nil)
    (pss_cons (ps_if (pt_val (pe_callB (r := rIsi K "dict") call_isi rfl T.b_isinstance PyProof.Rows.boot_isinstance (pa_cons (pv 0) (pa_cons (pe_bltn (v := .ty "dict") rfl T.b_dict PyProof.Rows.boot_dict rfl) pa_nil))))
      pss_never pss_nil)
    (pss_one (ps_ret (pv 0)))))), pure_fn (S := (b_own_copy K Cm (H_own_copy K Cm j)).2) h (by decide)⟩
abbrev t_take_behind (K : W.Frag) (Cm : Addr) [ClsI K Cm] : TS := (tSeq (tAsg (tCall (spP K 1 (G_is_fixed K Cm)) [] E0 (tCons (tVar 1) tNil)) (gName 2))
    (tSeq (sFld K (tVar 0) (tOp (rAddU K) (tFld K (tVar 0) "log") (tCB (rListOf K) (tCons (tIf (tB (tVar 2)) (tVar 1) (tCall (spP K 1 (G_own_copy K Cm)) [] E0 (tCons (tVar 1) tNil))) tNil))) "log")
    (sFld K (tVar 0) (tAndV (tFld K (tVar 0) "fixed") (tVar 2)) "fixed")))
noncomputable def b_take_behind (K : W.Frag) (Cm : Addr) [ClsI K Cm] : {f : En → Option Fl // SS K 3 (t_take_behind K Cm) f} := ⟨_, inferInstance⟩
noncomputable def f_take_behind (K : W.Frag) (Cm : Addr) [ClsI K Cm] : En → Option Fl := (b_take_behind K Cm).1
theorem sc_take_behind : FnScope ["master", "rows", "fixed"] ["master", "rows"] (defScope s_take_behind) := ⟨rfl, rfl, rfl, by decide +kernel, rfl, by decide +kernel, by decide +kernel⟩
noncomputable def G_take_behind (K : W.Frag) (Cm : Addr) [ClsI K Cm] : List D → Option (D × List D) := bodyI 3 [true, false] (f_take_behind K Cm)
theorem ok_take_behind {f : Addr} {fd : FuncData} (F : Fun K "take_behind" "take_behind" s_take_behind f fd) (T : Txt mg) (C_is_fixed : Cal P w K mg base "is_fixed" ["value"] 4 (spP K 1 (G_is_fixed K Cm))) (C_own_copy : Cal P w K mg base "own_copy" ["value"] 4 (spP K 1 (G_own_copy K Cm))) : FnOk P w K mg base CX0 5 f fd ["master", "rows"] (spI K [true, false] (G_take_behind K Cm)) := by
  refine F.ok sc_take_behind (fun vs H Q E h => h.1) (fun cdv A outer s H vs Q E hr h => ?_)
  exact ⟨t_take_behind K Cm, (pss_cons (ps_set (i := 2) sc_take_behind.nd rfl (Or.inl rfl) (pe_cal C_is_fixed hr rfl (pa_cons (pv 1) pa_nil)))
    (pss_cons (ps_fld (pv 0) (pe_op op_addU (pe_fldK (K := K) rfl (pv 0) rfl) (pe_callTy (r := (rListOf K)) call_listOf rfl T.b_list PyProof.Rows.boot_list (pa_cons (pe_ifExp (pt_val (pv 2)) (pv 1) (pe_cal C_own_copy hr rfl (pa_cons (pv 1) pa_nil))) pa_nil))) rfl)
    (pss_one (ps_fld (pv 0) (pe_and (pe_fldK (K := K) rfl (pv 0) rfl) (pe_one (pv 2))) rfl)))), io_fn (S := (b_take_behind K Cm).2) h (by decide)⟩
abbrev t_take_rows (K : W.Frag) (Cm : Addr) [ClsI K Cm] : TS := (tSeq (tAsg (tCB (rLenU K) (tCons (tFld K (tVar 0) "log") tNil)) (gName 2))
    (tSeq (tIfS (tTest (tOp (rNeD K) (tSl (rSlU K) (tVar 1) tNoPart (tPart (tVar 2))) (tCB (rTupOf K) (tCons (tFld K (tVar 0) "log") tNil))))
      (tSeq (tAsg (tC (.int 0)) (gName 2))
    (tSeq (sFld K (tVar 0) (tLst tNil) "log")
    (sFld K (tVar 0) (tC (.bl true)) "fixed"))) tNext)
    (tDrop (tCall (spI K [true, false] (G_take_behind K Cm)) [] E0 (tCons (tVar 0) (tCons (tSl (rSlU K) (tVar 1) (tPart (tVar 2)) tNoPart) tNil))))))
noncomputable def b_take_rows (K : W.Frag) (Cm : Addr) [ClsI K Cm] : {f : En → Option Fl // SS K 3 (t_take_rows K Cm) f} := ⟨_, inferInstance⟩
noncomputable def f_take_rows (K : W.Frag) (Cm : Addr) [ClsI K Cm] : En → Option Fl := (b_take_rows K Cm).1
theorem sc_take_rows : FnScope ["master", "rows", "size"] ["master", "rows"] (defScope s_take_rows) := ⟨rfl, rfl, rfl, by decide +kernel, rfl, by decide +kernel, by decide +kernel⟩
noncomputable def G_take_rows (K : W.Frag) (Cm : Addr) [ClsI K Cm] : List D → Option (D × List D) := bodyI 3 [true, false] (f_take_rows K Cm)
theorem ok_take_rows {f : Addr} {fd : FuncData} (F : Fun K "take_rows" "take_rows" s_take_rows f fd) (T : Txt mg) (C_take_behind : Cal P w K mg base "take_behind" ["master", "rows"] 5 (spI K [true, false] (G_take_behind K Cm))) : FnOk P w K mg base CX0 6 f fd ["master", "rows"] (spI K [true, false] (G_take_rows K Cm)) := by
  refine F.ok sc_take_rows (fun vs H Q E h => h.1) (fun cdv A outer s H vs Q E hr h => ?_)
  exact ⟨t_take_rows K Cm, (pss_cons (ps_set (i := 2) sc_take_rows.nd rfl (Or.inl rfl) (pe_callB (r := (rLenU K)) call_lenU rfl T.b_len PySem.boot_len (pa_cons (pe_fldK (K := K) rfl (pv 0) rfl) pa_nil)))
    (pss_cons (ps_if (pt_cmpR (op_neV hr.units) (pe_slice (r := rSlU K) sl_any (pv 1) po_none (po_some (pv 2))) (pe_callTy (r := (rTupOf K)) call_tupOf rfl T.b_tuple PyProof.Rows.boot_tuple (pa_cons (pe_fldK (K := K) rfl (pv 0) rfl) pa_nil)) (nomark _))
      (pss_cons (ps_set (i := 2) sc_take_rows.nd rfl (Or.inl rfl) pe_int)
    (pss_cons (ps_fld (pv 0) (pe_lst pa_nil) rfl)
    (pss_one (ps_fld (pv 0) pe_bl rfl)))) pss_nil)
    (pss_one (ps_expr (pe_cal C_take_behind hr rfl (pa_cons (pv 0) (pa_cons (pe_slice (r := rSlU K) sl_any (pv 1) (po_some (pv 2)) po_none) pa_nil))))))), io_fn (S := (b_take_rows K Cm).2) h (by decide)⟩
abbrev t_is_most (K : W.Frag) (Cm : Addr) [ClsI K Cm] : TS := (tRet (tOp (rI0 fun i j => .bl (decide (j < i))) (tOp (rI CMul fun i j => .int (i * j)) (tC (.int 2)) (tVar 1)) (tFld K (tVar 0) "many")))
noncomputable def b_is_most (K : W.Frag) (Cm : Addr) [ClsI K Cm] : {f : En → Option Fl // SS K 2 (t_is_most K Cm) f} := ⟨_, inferInstance⟩
noncomputable def f_is_most (K : W.Frag) (Cm : Addr) [ClsI K Cm] : En → Option Fl := (b_is_most K Cm).1
theorem sc_is_most : FnScope ["master", "many"] ["master", "many"] (defScope s_is_most) := ⟨rfl, rfl, rfl, by decide +kernel, rfl, by decide +kernel, by decide +kernel⟩
noncomputable def G_is_most (K : W.Frag) (Cm : Addr) [ClsI K Cm] : List D → Option D := bodyP 2 (f_is_most K Cm)
theorem ok_is_most {f : Addr} {fd : FuncData} (F : Fun K "is_most" "is_most" s_is_most f fd) (T : Txt mg) : FnOk P w K mg base CX0 1 f fd ["master", "many"] (spP K 2 (G_is_most K Cm)) := by
  refine F.ok sc_is_most (fun vs H Q E h => spP_len h) (fun cdv A outer s H vs Q E hr h => ?_)
  exact ⟨t_is_most K Cm, (pss_one (ps_ret (pe_cmpR op_gt (pe_op op_mul pe_int (pv 1)) (pe_fldK (K := K) rfl (pv 0) rfl) (nomark _)))), pure_fn (S := (b_is_most K Cm).2) h (by decide)⟩
abbrev t_rank_of_voice (K : W.Frag) (Cm : Addr) [ClsI K Cm] : TS := (tRet (tTup (tCons (tOp (rIxU K) (tVar 0) (tC (.int 0))) (tCons (tCB (rLenU K) (tCons (tOp (rIxU K) (tVar 0) (tC (.int 1))) tNil)) tNil))))
noncomputable def b_rank_of_voice (K : W.Frag) (Cm : Addr) [ClsI K Cm] : {f : En → Option Fl // SS K 1 (t_rank_of_voice K Cm) f} := ⟨_, inferInstance⟩
noncomputable def f_rank_of_voice (K : W.Frag) (Cm : Addr) [ClsI K Cm] : En → Option Fl := (b_rank_of_voice K Cm).1
theorem sc_rank_of_voice : FnScope ["voice"] ["voice"] (defScope s_rank_of_voice) := ⟨rfl, rfl, rfl, by decide +kernel, rfl, by decide +kernel, by decide +kernel⟩
noncomputable def G_rank_of_voice (K : W.Frag) (Cm : Addr) [ClsI K Cm] : List D → Option D := bodyP 1 (f_rank_of_voice K Cm)
theorem ok_rank_of_voice {f : Addr} {fd : FuncData} (F : Fun K "rank_of_voice" "rank_of_voice" s_rank_of_voice f fd) (T : Txt mg) : FnOk P w K mg base CX0 1 f fd ["voice"] (spP K 1 (G_rank_of_voice K Cm)) := by
  refine F.ok sc_rank_of_voice (fun vs H Q E h => spP_len h) (fun cdv A outer s H vs Q E hr h => ?_)
  exact ⟨t_rank_of_voice K Cm, (pss_one (ps_ret (pe_tup (pa_cons (pe_ix (r := rIxU K) (ix_any (hu_of hr)) (pv 0) pe_int (fun _ _ => rfl)) (pa_cons (pe_callB (r := (rLenU K)) call_lenU rfl T.b_len PySem.boot_len (pa_cons (pe_ix (r := rIxU K) (ix_any (hu_of hr)) (pv 0) pe_int (fun _ _ => rfl)) pa_nil)) pa_nil))))), pure_fn (S := (b_rank_of_voice K Cm).2) h (by decide)⟩
abbrev t_lead_by_voices (K : W.Frag) (Cm : Addr) [ClsI K Cm] : TS := (tSeq (tIfS (tNot (tB (tCall (spP K 2 (G_is_most K Cm)) [] E0 (tCons (tVar 0) (tCons (tCB (rLenU K) (tCons (tFld K (tVar 0) "voices") tNil)) tNil)))))
      tRetN tNext)
    (tSeq (tAsg (tMaxK K (spP K 1 (G_rank_of_voice K Cm)) (tCons (tCB rListV (tCons (tVals (tFld K (tVar 0) "voices")) tNil)) tNil)) (gName 1))
    (tSeq (tDrop (tCall (spI K [true, false] (G_take_rows K Cm)) [] E0 (tCons (tVar 0) (tCons (tOp (rIxU K) (tVar 1) (tC (.int 1))) tNil))))
    (tSeq (sFld K (tVar 0) (tFld K (tVar 0) "term") "of")
    (tSeq (sFld K (tVar 0) (tC (.str "leads")) "role")
    (sFld K (tVar 0) tDNewK "sizes"))))))
noncomputable def b_lead_by_voices (K : W.Frag) (Cm : Addr) [ClsI K Cm] : {f : En → Option Fl // SS K 2 (t_lead_by_voices K Cm) f} := ⟨_, inferInstance⟩
noncomputable def f_lead_by_voices (K : W.Frag) (Cm : Addr) [ClsI K Cm] : En → Option Fl := (b_lead_by_voices K Cm).1
theorem sc_lead_by_voices : FnScope ["master", "greatest"] ["master"] (defScope s_lead_by_voices) := ⟨rfl, rfl, rfl, by decide +kernel, rfl, by decide +kernel, by decide +kernel⟩
noncomputable def G_lead_by_voices (K : W.Frag) (Cm : Addr) [ClsI K Cm] : List D → Option (D × List D) := bodyI 2 [true] (f_lead_by_voices K Cm)
theorem ok_lead_by_voices {f : Addr} {fd : FuncData} (F : Fun K "lead_by_voices" "lead_by_voices" s_lead_by_voices f fd) (T : Txt mg) (C_is_most : Cal P w K mg base "is_most" ["master", "many"] 1 (spP K 2 (G_is_most K Cm))) (C_rank_of_voice : Cal P w K mg base "rank_of_voice" ["voice"] 1 (spP K 1 (G_rank_of_voice K Cm))) (C_take_rows : Cal P w K mg base "take_rows" ["master", "rows"] 6 (spI K [true, false] (G_take_rows K Cm))) : FnOk P w K mg base CX0 8 f fd ["master"] (spI K [true] (G_lead_by_voices K Cm)) := by
  refine F.ok sc_lead_by_voices (fun vs H Q E h => h.1) (fun cdv A outer s H vs Q E hr h => ?_)
  exact ⟨t_lead_by_voices K Cm, (pss_cons (ps_if (pt_not (pt_val (pe_cal C_is_most hr rfl (pa_cons (pv 0) (pa_cons (pe_callB (r := (rLenU K)) call_lenU rfl T.b_len PySem.boot_len (pa_cons (pe_fldK (K := K) rfl (pv 0) rfl) pa_nil)) pa_nil)))))
      (pss_one ps_retN) pss_nil)
    (pss_cons (ps_set (i := 1) sc_lead_by_voices.nd rfl (Or.inl rfl) (pe_maxK C_rank_of_voice hr rfl rfl T.b_max rfl (pa_cons (pe_callTy (r := rListV) (call_listV rfl) rfl T.b_list PyProof.Rows.boot_list (pa_cons (pe_vals (pe_fldK (K := K) rfl (pv 0) rfl)) pa_nil)) pa_nil)))
    (pss_cons (ps_expr (pe_cal C_take_rows hr rfl (pa_cons (pv 0) (pa_cons (pe_ix (r := rIxU K) (ix_any (hu_of hr)) (pv 1) pe_int (fun _ _ => rfl)) pa_nil))))
    (pss_cons (ps_fld (pv 0) (pe_fldK (K := K) rfl (pv 0) rfl) rfl)
    (pss_cons (ps_fld (pv 0) pe_str rfl)
    (pss_one (ps_fld (pv 0) pe_dnewK rfl))))))), io_fn (S := (b_lead_by_voices K Cm).2) h (by decide)⟩
abbrev t_others (K : W.Frag) (Cm : Addr) [ClsI K Cm] : TS := (tRet (tLC (iRng1 (tCons (tFld K (tVar 0) "many") tNil)) (gName 0) (tTest (tOp (rNeD K) (tVar 0) (tFld K (tVar 1) "number"))) (tVar 0) [none, some 0]))
noncomputable def b_others (K : W.Frag) (Cm : Addr) [ClsI K Cm] : {f : En → Option Fl // SS K 1 (t_others K Cm) f} := ⟨_, inferInstance⟩
noncomputable def f_others (K : W.Frag) (Cm : Addr) [ClsI K Cm] : En → Option Fl := (b_others K Cm).1
theorem sc_others : FnScope ["master"] ["master"] (defScope s_others) := ⟨rfl, rfl, rfl, by decide +kernel, rfl, by decide +kernel, by decide +kernel⟩
noncomputable def G_others (K : W.Frag) (Cm : Addr) [ClsI K Cm] : List D → Option D := bodyP 1 (f_others K Cm)
theorem ok_others {f : Addr} {fd : FuncData} (F : Fun K "others" "others" s_others f fd) (T : Txt mg) : FnOk P w K mg base CX0 1 f fd ["master"] (spP K 1 (G_others K Cm)) := by
  refine F.ok sc_others (fun vs H Q E h => spP_len h) (fun cdv A outer s H vs Q E hr h => ?_)
  exact ⟨t_others K Cm, (pss_one (ps_ret (pe_lc [none, some 0] ["number", "master"] rfl (capOf ⟨⟨rfl, rfl, .inl rfl⟩, trivial⟩) (pi_range1 rfl T.b_range (pa_cons (pe_fldK (K := K) rfl (pv 0) rfl) pa_nil)) (fun _ _ _ _ _ _ => (pg_name (i := 0) (by decide +kernel : (["number", "master"] : List Str).Nodup) rfl (Or.inl rfl))) (fun _ _ _ _ _ _ => (pifs_one (pt_cmpR (op_neV hr.units) (pv 0) (pe_fldK (K := K) rfl (pv 1) rfl) (nomark _)))) (fun _ _ _ _ _ _ => (pv 0))))), pure_fn (S := (b_others K Cm).2) h (by decide)⟩
abbrev t_Master_rise (K : W.Frag) (Cm : Addr) [ClsI K Cm] : TS := (tSeq (sFld K (tVar 0) (tCall (spP K 1 (G_next_term K Cm)) [] E0 (tCons (tVar 0) tNil)) "term")
    (tSeq (sFld K (tVar 0) (tC (.str "stands")) "role")
    (tSeq (sFld K (tVar 0) (tDisp [((tFld K (tVar 0) "number"), (tTup (tCons (tFld K (tVar 0) "of") (tCons (tCB (rTupOf K) (tCons (tFld K (tVar 0) "log") tNil)) tNil))))]) "voices")
    (tSeq (tDrop (tCall (spI K [true] (G_lead_by_voices K Cm)) [] E0 (tCons (tVar 0) tNil)))
    (tRet (tLC (iAny K (tCall (spP K 1 (G_others K Cm)) [] E0 (tCons (tVar 0) tNil))) (gName 0) tTrue (tTup (tCons (tC (.str "stand")) (tCons (tFld K (tVar 1) "number") (tCons (tVar 0) (tCons (tFld K (tVar 1) "term") tNil))))) [none, some 0]))))))
noncomputable def b_Master_rise (K : W.Frag) (Cm : Addr) [ClsI K Cm] : {f : En → Option Fl // SS K 1 (t_Master_rise K Cm) f} := ⟨_, inferInstance⟩
noncomputable def f_Master_rise (K : W.Frag) (Cm : Addr) [ClsI K Cm] : En → Option Fl := (b_Master_rise K Cm).1
theorem sc_Master_rise : FnScope ["self"] ["self"] (defScope s_Master_rise) := ⟨rfl, rfl, rfl, by decide +kernel, rfl, by decide +kernel, by decide +kernel⟩
noncomputable def G_Master_rise (K : W.Frag) (Cm : Addr) [ClsI K Cm] : List D → Option (D × List D) := bodyI 1 [true] (f_Master_rise K Cm)
theorem ok_Master_rise {f : Addr} {fd : FuncData} (F : Fun K "rise" "Master.rise" s_Master_rise f fd) (T : Txt mg) (C_next_term : Cal P w K mg base "next_term" ["master"] 1 (spP K 1 (G_next_term K Cm))) (C_lead_by_voices : Cal P w K mg base "lead_by_voices" ["master"] 8 (spI K [true] (G_lead_by_voices K Cm))) (C_others : Cal P w K mg base "others" ["master"] 1 (spP K 1 (G_others K Cm))) : FnOk P w K mg base CX0 9 f fd ["self"] (spI K [true] (G_Master_rise K Cm)) := by
  refine F.ok sc_Master_rise (fun vs H Q E h => h.1) (fun cdv A outer s H vs Q E hr h => ?_)
  exact ⟨t_Master_rise K Cm, (pss_cons (ps_fld (pv 0) (pe_cal C_next_term hr rfl (pa_cons (pv 0) pa_nil)) rfl)
    (pss_cons (ps_fld (pv 0) pe_str rfl)
    (pss_cons (ps_fld (pv 0) (pe_disp1 (pe_fldK (K := K) rfl (pv 0) rfl) (pe_tup (pa_cons (pe_fldK (K := K) rfl (pv 0) rfl) (pa_cons (pe_callTy (r := (rTupOf K)) call_tupOf rfl T.b_tuple PyProof.Rows.boot_tuple (pa_cons (pe_fldK (K := K) rfl (pv 0) rfl) pa_nil)) pa_nil)))) rfl)
    (pss_cons (ps_expr (pe_cal C_lead_by_voices hr rfl (pa_cons (pv 0) pa_nil)))
    (pss_one (ps_ret (pe_lc [none, some 0] ["other", "self"] rfl (capOf ⟨⟨rfl, rfl, .inl rfl⟩, trivial⟩) (pi_any (pe_cal C_others hr rfl (pa_cons (pv 0) pa_nil))) (fun _ _ _ _ _ _ => (pg_name (i := 0) (by decide +kernel : (["other", "self"] : List Str).Nodup) rfl (Or.inl rfl))) (fun _ _ _ _ _ _ => pifs_nil) (fun _ _ _ _ _ _ => (pe_tup (pa_cons pe_str (pa_cons (pe_fldK (K := K) rfl (pv 1) rfl) (pa_cons (pv 0) (pa_cons (pe_fldK (K := K) rfl (pv 1) rfl) pa_nil))))))))))))), io_fn (S := (b_Master_rise K Cm).2) h (by decide)⟩
abbrev t_Lrows (K : W.Frag) (Cm : Addr) [ClsI K Cm] : TS := (tRet (tCB (rTupOf K) (tCons (tOp (rAddU K) (tLC (iRng1 (tCons (tCB rMin2 (tCons (tVar 1) (tCons (tC (.int 5)) tNil))) tNil)) (gName 0) tTrue (tTup (tCons (tC (.str "row")) (tCons (tVar 0) tNil))) [none]) (tLC (iRng2 (tCons (tC (.int 5)) (tCons (tVar 1) tNil))) (gName 0) tTrue (tTup (tCons (tC (.str "row")) (tCons (tVar 0) (tCons (tVar 1) tNil)))) [none, some 0])) tNil)))
noncomputable def b_Lrows (K : W.Frag) (Cm : Addr) [ClsI K Cm] : {f : En → Option Fl // SS K 2 (t_Lrows K Cm) f} := ⟨_, inferInstance⟩
noncomputable def f_Lrows (K : W.Frag) (Cm : Addr) [ClsI K Cm] : En → Option Fl := (b_Lrows K Cm).1
theorem sc_Lrows : FnScope ["_law_term", "_law_many"] ["_law_term", "_law_many"] (defScope s_Lrows) := ⟨rfl, rfl, rfl, by decide +kernel, rfl, by decide +kernel, by decide +kernel⟩
noncomputable def G_Lrows (K : W.Frag) (Cm : Addr) [ClsI K Cm] : List D → Option D := bodyP 2 (f_Lrows K Cm)
theorem ok_Lrows {f : Addr} {fd : FuncData} (F : Fun K "_law_rows" "_law_rows" s_Lrows f fd) (T : Txt mg) : FnOk P w K mg base CX0 1 f fd ["_law_term", "_law_many"] (spP K 2 (G_Lrows K Cm)) := by
  refine F.ok sc_Lrows (fun vs H Q E h => spP_len h) (fun cdv A outer s H vs Q E hr h => ?_)
  exact ⟨t_Lrows K Cm, (pss_one (ps_ret (pe_callTy (r := (rTupOf K)) call_tupOf rfl T.b_tuple PyProof.Rows.boot_tuple (pa_cons (pe_op op_addU (pe_lc [none] ["_law_k"] rfl (capOf trivial) (pi_range1 rfl T.b_range (pa_cons (pe_callB (r := rMin2) (call_min2' rfl) rfl T.b_min PyProof.Rows.boot_min (pa_cons (pv 1) (pa_cons pe_int pa_nil))) pa_nil)) (fun _ _ _ _ _ _ => (pg_name (i := 0) nd1 rfl (Or.inl rfl))) (fun _ _ _ _ _ _ => pifs_nil) (fun _ _ _ _ _ _ => (pe_tup (pa_cons pe_str (pa_cons (pv 0) pa_nil))))) (pe_lc [none, some 0] ["_law_k", "_law_term"] rfl (capOf ⟨⟨rfl, rfl, .inl rfl⟩, trivial⟩) (pi_range2 rfl T.b_range (pa_cons pe_int (pa_cons (pv 1) pa_nil))) (fun _ _ _ _ _ _ => (pg_name (i := 0) (by decide +kernel : (["_law_k", "_law_term"] : List Str).Nodup) rfl (Or.inl rfl))) (fun _ _ _ _ _ _ => pifs_nil) (fun _ _ _ _ _ _ => (pe_tup (pa_cons pe_str (pa_cons (pv 0) (pa_cons (pv 1) pa_nil))))))) pa_nil)))), pure_fn (S := (b_Lrows K Cm).2) h (by decide)⟩
abbrev t_Lpick (K : W.Frag) (Cm : Addr) [ClsI K Cm] : TS := (tSeq (tIfS (tAnd (tTest (tOp (rEqD K) (tOp (rIxU K) (tVar 0) (tC (.int 0))) (tC (.int 0)))) (tTest (tOp (rI0 fun i j => .bl (decide (j < i))) (tCB (rLenU K) (tCons (tVar 0) tNil)) (tC (.int 1)))))
      (tAsg (tBM0 K "list" rPop (tVar 0)) (gSub (tVar 0) (tC (.int 0)) rSetL)) tNext)
    (tSeq (tAsg (tOp (rI (fun _ j => 0 < j) fun i j => .int (i % j)) (tOp (rIxU K) (tVar 0) (tC (.int 0))) (tVar 1)) (gName 2))
    (tSeq (tAsg (tOp (rI CDivL fun i j => .int (i / j)) (tOp (rIxU K) (tVar 0) (tC (.int 0))) (tVar 1)) (gSub (tVar 0) (tC (.int 0)) rSetL))
    (tRet (tVar 2)))))
noncomputable def b_Lpick (K : W.Frag) (Cm : Addr) [ClsI K Cm] : {f : En → Option Fl // SS K 3 (t_Lpick K Cm) f} := ⟨_, inferInstance⟩
noncomputable def f_Lpick (K : W.Frag) (Cm : Addr) [ClsI K Cm] : En → Option Fl := (b_Lpick K Cm).1
theorem sc_Lpick : FnScope ["_law_left_here", "_law_many", "_law_digit"] ["_law_left_here", "_law_many"] (defScope s_Lpick) := ⟨rfl, rfl, rfl, by decide +kernel, rfl, by decide +kernel, by decide +kernel⟩
noncomputable def G_Lpick (K : W.Frag) (Cm : Addr) [ClsI K Cm] : List D → Option (D × List D) := bodyI 3 [true, false] (f_Lpick K Cm)
theorem ok_Lpick {f : Addr} {fd : FuncData} (F : Fun K "_law_pick" "_law_pick" s_Lpick f fd) (T : Txt mg) : FnOk P w K mg base CX0 1 f fd ["_law_left_here", "_law_many"] (spI K [true, false] (G_Lpick K Cm)) := by
  refine F.ok sc_Lpick (fun vs H Q E h => h.1) (fun cdv A outer s H vs Q E hr h => ?_)
  exact ⟨t_Lpick K Cm, (pss_cons (ps_if (PW.pt (pw_and (pt_cmpR (op_eqV hr.units) (pe_ix (r := rIxU K) (ix_any (hu_of hr)) (pv 0) pe_int (fun _ _ => rfl)) pe_int (nomark _)) (pw_and1 (pt_cmpR op_gt (pe_callB (r := (rLenU K)) call_lenU rfl T.b_len PySem.boot_len (pa_cons (pv 0) pa_nil)) pe_int (nomark _)))))
      (pss_one (ps_asg (pe_bm0 PySem.F.plainAttrs_list PySem.F.slot_list_pop PySem.F.type_list_pop mt_pop (pv 0)) (pg_sub (pv 0) pe_int set_list))) pss_nil)
    (pss_cons (ps_set (i := 2) sc_Lpick.nd rfl (Or.inl rfl) (pe_op op_mod (pe_ix (r := rIxU K) (ix_any (hu_of hr)) (pv 0) pe_int (fun _ _ => rfl)) (pv 1)))
    (pss_cons (ps_asg (pe_op op_fdivL (pe_ix (r := rIxU K) (ix_any (hu_of hr)) (pv 0) pe_int (fun _ _ => rfl)) (pv 1)) (pg_sub (pv 0) pe_int set_list))
    (pss_one (ps_ret (pv 2)))))), io_fn (S := (b_Lpick K Cm).2) h (by decide)⟩
abbrev t_count_done (K : W.Frag) (Cm : Addr) [ClsI K Cm] : TS := (tSeq (tAsg (tOp (rAddU K) (tLC (iAny K (tCall (spP K 1 (G_others K Cm)) [] E0 (tCons (tVar 0) tNil))) (gName 0) tTrue (tDGet2 (tFld K (tVar 1) "sizes") (tVar 0) (tC (.int 0))) [none, some 0]) (tLst (tCons (tCB (rLenU K) (tCons (tFld K (tVar 0) "log") tNil)) tNil))) (gName 1))
    (tSeq (tAsg (tLC (iAny K (tVar 1)) (gName 0) (tB (tCall (spP K 2 (G_is_most K Cm)) [] E0 (tCons (tVar 1) (tCons (tCB (rLenU K) (tCons (tLC (iAny K (tVar 2)) (gName 0) (tTest (tOp (rI0 fun i j => .bl (decide (j ≤ i))) (tVar 0) (tVar 1))) (tVar 0) [none, some 0]) tNil)) tNil)))) (tVar 0) [none, some 0, some 1]) (gName 2))
    (sFld K (tVar 0) (tCB (rMaxL K) (tCons (tOp (rAddU K) (tLst (tCons (tFld K (tVar 0) "done") tNil)) (tVar 2)) tNil)) "done")))
noncomputable def b_count_done (K : W.Frag) (Cm : Addr) [ClsI K Cm] : {f : En → Option Fl // SS K 3 (t_count_done K Cm) f} := ⟨_, inferInstance⟩
noncomputable def f_count_done (K : W.Frag) (Cm : Addr) [ClsI K Cm] : En → Option Fl := (b_count_done K Cm).1
theorem sc_count_done : FnScope ["master", "sizes", "common"] ["master"] (defScope s_count_done) := ⟨rfl, rfl, rfl, by decide +kernel, rfl, by decide +kernel, by decide +kernel⟩
noncomputable def G_count_done (K : W.Frag) (Cm : Addr) [ClsI K Cm] : List D → Option (D × List D) := bodyI 3 [true] (f_count_done K Cm)
theorem ok_count_done {f : Addr} {fd : FuncData} (F : Fun K "count_done" "count_done" s_count_done f fd) (T : Txt mg) (C_others : Cal P w K mg base "others" ["master"] 1 (spP K 1 (G_others K Cm))) (C_is_most : Cal P w K mg base "is_most" ["master", "many"] 1 (spP K 2 (G_is_most K Cm))) : FnOk P w K mg base CX0 3 f fd ["master"] (spI K [true] (G_count_done K Cm)) := by
  refine F.ok sc_count_done (fun vs H Q E h => h.1) (fun cdv A outer s H vs Q E hr h => ?_)
  exact ⟨t_count_done K Cm, (pss_cons (ps_set (i := 1) sc_count_done.nd rfl (Or.inr rfl) (pe_op op_addU (pe_lc [none, some 0] ["other", "master"] rfl (capOf ⟨⟨rfl, rfl, .inl rfl⟩, trivial⟩) (pi_any (pe_cal C_others hr rfl (pa_cons (pv 0) pa_nil))) (fun _ _ _ _ _ _ => (pg_name (i := 0) (by decide +kernel : (["other", "master"] : List Str).Nodup) rfl (Or.inl rfl))) (fun _ _ _ _ _ _ => pifs_nil) (fun _ _ _ _ _ _ => (pe_dget2 (hu_of hr) (pe_fldK (K := K) rfl (pv 1) rfl) (pv 0) pe_int ⟨rfl, rfl, rfl, rfl⟩))) (pe_lst (pa_cons (pe_callB (r := (rLenU K)) call_lenU rfl T.b_len PySem.boot_len (pa_cons (pe_fldK (K := K) rfl (pv 0) rfl) pa_nil)) pa_nil))))
    (pss_cons (ps_setC (k := 2) [none, some 0, some 1] ["size", "master", "sizes"] rfl (capOf ⟨⟨rfl, rfl, .inl rfl⟩, ⟨⟨rfl, rfl, .inl rfl⟩, trivial⟩⟩) sc_count_done.nd rfl (Or.inl rfl) (pi_any (pv 1)) (fun _ _ _ _ _ _ => (pg_name (i := 0) (by decide +kernel : (["size", "master", "sizes"] : List Str).Nodup) rfl (Or.inr rfl))) (fun _ _ _ _ _ _ => (pifs_one (pt_val (pe_cal C_is_most hr rfl (pa_cons (pv 1) (pa_cons (pe_callB (r := (rLenU K)) call_lenU rfl T.b_len PySem.boot_len (pa_cons (pe_lc [none, some 0] ["other", "size"] rfl (capOf ⟨⟨rfl, rfl, (by first | exact .inl rfl | exact .inr rfl)⟩, trivial⟩) (pi_any (pv 2)) (fun _ _ _ _ _ _ => (pg_name (i := 0) (by decide +kernel : (["other", "size"] : List Str).Nodup) rfl (Or.inl rfl))) (fun _ _ _ _ _ _ => (pifs_one (pt_cmpR op_ge (pv 0) (pv 1) (nomark _)))) (fun _ _ _ _ _ _ => (pv 0))) pa_nil)) pa_nil)))))) (fun _ _ _ _ _ _ => (pv 0)))
    (pss_one (ps_fld (pv 0) (pe_callB (r := (rMaxL K)) (call_maxL' rfl) rfl T.b_max PyProof.Rows.boot_max (pa_cons (pe_op op_addU (pe_lst (pa_cons (pe_fldK (K := K) rfl (pv 0) rfl) pa_nil)) (pv 2)) pa_nil)) rfl)))), io_fn (S := (b_count_done K Cm).2) h (by decide)⟩
abbrev t_hear_kept (K : W.Frag) (Cm : Addr) [ClsI K Cm] : TS := (tSeq (tIfS (tAnd (tTest (tOp (rEqD K) (tFld K (tVar 0) "role") (tC (.str "leads")))) (tTest (tOp (rEqD K) (tVar 2) (tFld K (tVar 0) "term"))))
      (tSeq (sDPut (tFld K (tVar 0) "sizes") (tVar 1) (tCB rMax2 (tCons (tVar 3) (tCons (tDGet2 (tFld K (tVar 0) "sizes") (tVar 1) (tC (.int 0))) tNil))))
    (tDrop (tCall (spI K [true] (G_count_done K Cm)) [] E0 (tCons (tVar 0) tNil)))) tNext)
    (tRet (tLst tNil)))
noncomputable def b_hear_kept (K : W.Frag) (Cm : Addr) [ClsI K Cm] : {f : En → Option Fl // SS K 4 (t_hear_kept K Cm) f} := ⟨_, inferInstance⟩
noncomputable def f_hear_kept (K : W.Frag) (Cm : Addr) [ClsI K Cm] : En → Option Fl := (b_hear_kept K Cm).1
theorem sc_hear_kept : FnScope ["master", "sender", "term", "size"] ["master", "sender", "term", "size"] (defScope s_hear_kept) := ⟨rfl, rfl, rfl, by decide +kernel, rfl, by decide +kernel, by decide +kernel⟩
noncomputable def G_hear_kept (K : W.Frag) (Cm : Addr) [ClsI K Cm] : List D → Option (D × List D) := bodyI 4 [true, false, false, false] (f_hear_kept K Cm)
theorem ok_hear_kept {f : Addr} {fd : FuncData} (F : Fun K "hear_kept" "hear_kept" s_hear_kept f fd) (T : Txt mg) (C_count_done : Cal P w K mg base "count_done" ["master"] 3 (spI K [true] (G_count_done K Cm))) : FnOk P w K mg base CX0 5 f fd ["master", "sender", "term", "size"] (spI K [true, false, false, false] (G_hear_kept K Cm)) := by
  refine F.ok sc_hear_kept (fun vs H Q E h => h.1) (fun cdv A outer s H vs Q E hr h => ?_)
  exact ⟨t_hear_kept K Cm, (pss_cons (ps_if (PW.pt (pw_and (pt_cmpR (op_eqV hr.units) (pe_fldK (K := K) rfl (pv 0) rfl) pe_str (nomark _)) (pw_and1 (pt_cmpR (op_eqV hr.units) (pv 2) (pe_fldK (K := K) rfl (pv 0) rfl) (nomark _)))))
      (pss_cons (ps_dput (hu_of hr) (pe_fldK (K := K) rfl (pv 0) rfl) (pv 1) (pe_callB (r := rMax2) (call_max2' rfl) rfl T.b_max PyProof.Rows.boot_max (pa_cons (pv 3) (pa_cons (pe_dget2 (hu_of hr) (pe_fldK (K := K) rfl (pv 0) rfl) (pv 1) pe_int ⟨rfl, rfl, rfl, rfl⟩) pa_nil))) rfl)
    (pss_one (ps_expr (pe_cal C_count_done hr rfl (pa_cons (pv 0) pa_nil))))) pss_nil)
    (pss_one (ps_ret (pe_lst pa_nil)))), io_fn (S := (b_hear_kept K Cm).2) h (by decide)⟩
abbrev t_rows_told (K : W.Frag) (Cm : Addr) [ClsI K Cm] : TS := (tSeq (tAsg (tCB (rTupOf K) (tCons (tFld K (tVar 0) "log") tNil)) (gName 1))
    (tRet (tIf (tB (tFld K (tVar 0) "fixed")) (tVar 1) (tCall (spP K 1 (G_own_copy K Cm)) [] E0 (tCons (tVar 1) tNil)))))
noncomputable def b_rows_told (K : W.Frag) (Cm : Addr) [ClsI K Cm] : {f : En → Option Fl // SS K 2 (t_rows_told K Cm) f} := ⟨_, inferInstance⟩
noncomputable def f_rows_told (K : W.Frag) (Cm : Addr) [ClsI K Cm] : En → Option Fl := (b_rows_told K Cm).1
theorem sc_rows_told : FnScope ["master", "rows"] ["master"] (defScope s_rows_told) := ⟨rfl, rfl, rfl, by decide +kernel, rfl, by decide +kernel, by decide +kernel⟩
noncomputable def G_rows_told (K : W.Frag) (Cm : Addr) [ClsI K Cm] : List D → Option D := bodyP 2 (f_rows_told K Cm)
theorem ok_rows_told {f : Addr} {fd : FuncData} (F : Fun K "rows_told" "rows_told" s_rows_told f fd) (T : Txt mg) (C_own_copy : Cal P w K mg base "own_copy" ["value"] 4 (spP K 1 (G_own_copy K Cm))) : FnOk P w K mg base CX0 5 f fd ["master"] (spP K 1 (G_rows_told K Cm)) := by
  refine F.ok sc_rows_told (fun vs H Q E h => spP_len h) (fun cdv A outer s H vs Q E hr h => ?_)
  exact ⟨t_rows_told K Cm, (pss_cons (ps_set (i := 1) sc_rows_told.nd rfl (Or.inl rfl) (pe_callTy (r := (rTupOf K)) call_tupOf rfl T.b_tuple PyProof.Rows.boot_tuple (pa_cons (pe_fldK (K := K) rfl (pv 0) rfl) pa_nil)))
    (pss_one (ps_ret (pe_ifExp (pt_val (pe_fldK (K := K) rfl (pv 0) rfl)) (pv 1) (pe_cal C_own_copy hr rfl (pa_cons (pv 1) pa_nil)))))), pure_fn (S := (b_rows_told K Cm).2) h (by decide)⟩
abbrev t_hear_voice (K : W.Frag) (Cm : Addr) [ClsI K Cm] : TS := (tSeq (tIfS (tAnd (tTest (tOp (rEqD K) (tFld K (tVar 0) "role") (tC (.str "stands")))) (tTest (tOp (rEqD K) (tVar 2) (tFld K (tVar 0) "term"))))
      (tSeq (sDPut (tFld K (tVar 0) "voices") (tVar 1) (tTup (tCons (tVar 3) (tCons (tCall (spP K 1 (G_own_copy K Cm)) [] E0 (tCons (tVar 4) tNil)) tNil))))
    (tDrop (tCall (spI K [true] (G_lead_by_voices K Cm)) [] E0 (tCons (tVar 0) tNil)))) tNext)
    (tRet (tLst tNil)))
noncomputable def b_hear_voice (K : W.Frag) (Cm : Addr) [ClsI K Cm] : {f : En → Option Fl // SS K 5 (t_hear_voice K Cm) f} := ⟨_, inferInstance⟩
noncomputable def f_hear_voice (K : W.Frag) (Cm : Addr) [ClsI K Cm] : En → Option Fl := (b_hear_voice K Cm).1
theorem sc_hear_voice : FnScope ["master", "sender", "term", "of", "rows"] ["master", "sender", "term", "of", "rows"] (defScope s_hear_voice) := ⟨rfl, rfl, rfl, by decide +kernel, rfl, by decide +kernel, by decide +kernel⟩
noncomputable def G_hear_voice (K : W.Frag) (Cm : Addr) [ClsI K Cm] : List D → Option (D × List D) := bodyI 5 [true, false, false, false, false] (f_hear_voice K Cm)
theorem ok_hear_voice {f : Addr} {fd : FuncData} (F : Fun K "hear_voice" "hear_voice" s_hear_voice f fd) (T : Txt mg) (C_own_copy : Cal P w K mg base "own_copy" ["value"] 4 (spP K 1 (G_own_copy K Cm))) (C_lead_by_voices : Cal P w K mg base "lead_by_voices" ["master"] 8 (spI K [true] (G_lead_by_voices K Cm))) : FnOk P w K mg base CX0 9 f fd ["master", "sender", "term", "of", "rows"] (spI K [true, false, false, false, false] (G_hear_voice K Cm)) := by
  refine F.ok sc_hear_voice (fun vs H Q E h => h.1) (fun cdv A outer s H vs Q E hr h => ?_)
  exact ⟨t_hear_voice K Cm, (pss_cons (ps_if (PW.pt (pw_and (pt_cmpR (op_eqV hr.units) (pe_fldK (K := K) rfl (pv 0) rfl) pe_str (nomark _)) (pw_and1 (pt_cmpR (op_eqV hr.units) (pv 2) (pe_fldK (K := K) rfl (pv 0) rfl) (nomark _)))))
      (pss_cons (ps_dput (hu_of hr) (pe_fldK (K := K) rfl (pv 0) rfl) (pv 1) (pe_tup (pa_cons (pv 3) (pa_cons (pe_cal C_own_copy hr rfl (pa_cons (pv 4) pa_nil)) pa_nil))) rfl)
    (pss_one (ps_expr (pe_cal C_lead_by_voices hr rfl (pa_cons (pv 0) pa_nil))))) pss_nil)
    (pss_one (ps_ret (pe_lst pa_nil)))), io_fn (S := (b_hear_voice K Cm).2) h (by decide)⟩
abbrev t_Master_hear (K : W.Frag) (Cm : Addr) [ClsI K Cm] : TS := (tSeq (tIfS (tTest (tOp (rEqD K) (tOp (rIxU K) (tVar 1) (tC (.int 0))) (tC (.str "stand"))))
      tNever tNext)
    (tSeq (tIfS (tTest (tOp (rEqD K) (tOp (rIxU K) (tVar 1) (tC (.int 0))) (tC (.str "voice"))))
      (tRet (tCall (spI K [true, false, false, false, false] (G_hear_voice K Cm)) [] E0 (tCons (tVar 0) (tCons (tOp (rIxU K) (tVar 1) (tC (.int 1))) (tCons (tOp (rIxU K) (tVar 1) (tC (.int 3))) (tCons (tOp (rIxU K) (tVar 1) (tC (.int 4))) (tCons (tOp (rIxU K) (tVar 1) (tC (.int 5))) tNil))))))) tNext)
    (tSeq (tIfS (tTest (tOp (rEqD K) (tOp (rIxU K) (tVar 1) (tC (.int 0))) (tC (.str "keep"))))
      tNever tNext)
    (tRet (tCall (spI K [true, false, false, false] (G_hear_kept K Cm)) [] E0 (tCons (tVar 0) (tCons (tOp (rIxU K) (tVar 1) (tC (.int 1))) (tCons (tOp (rIxU K) (tVar 1) (tC (.int 3))) (tCons (tOp (rIxU K) (tVar 1) (tC (.int 4))) tNil)))))))))
noncomputable def b_Master_hear (K : W.Frag) (Cm : Addr) [ClsI K Cm] : {f : En → Option Fl // SS K 2 (t_Master_hear K Cm) f} := ⟨_, inferInstance⟩
noncomputable def f_Master_hear (K : W.Frag) (Cm : Addr) [ClsI K Cm] : En → Option Fl := (b_Master_hear K Cm).1
theorem sc_Master_hear : FnScope ["self", "message"] ["self", "message"] (defScope s_Master_hear) := ⟨rfl, rfl, rfl, by decide +kernel, rfl, by decide +kernel, by decide +kernel⟩
noncomputable def G_Master_hear (K : W.Frag) (Cm : Addr) [ClsI K Cm] : List D → Option (D × List D) := bodyI 2 [true, false] (f_Master_hear K Cm)
theorem ok_Master_hear {f : Addr} {fd : FuncData} (F : Fun K "hear" "Master.hear" s_Master_hear f fd) (T : Txt mg) (C_hear_voice : Cal P w K mg base "hear_voice" ["master", "sender", "term", "of", "rows"] 9 (spI K [true, false, false, false, false] (G_hear_voice K Cm))) (C_hear_kept : Cal P w K mg base "hear_kept" ["master", "sender", "term", "size"] 5 (spI K [true, false, false, false] (G_hear_kept K Cm))) : FnOk P w K mg base CX0 10 f fd ["self", "message"] (spI K [true, false] (G_Master_hear K Cm)) := by
  refine F.ok sc_Master_hear (fun vs H Q E h => h.1) (fun cdv A outer s H vs Q E hr h => ?_)
  exact ⟨t_Master_hear K Cm, (pss_cons (ps_if (pt_cmpR (op_eqV hr.units) (pe_ix (r := rIxU K) (ix_any (hu_of hr)) (pv 1) pe_int (fun _ _ => rfl)) pe_str (nomark _))
      pss_never pss_nil)
    (pss_cons (ps_if (pt_cmpR (op_eqV hr.units) (pe_ix (r := rIxU K) (ix_any (hu_of hr)) (pv 1) pe_int (fun _ _ => rfl)) pe_str (nomark _))
      (pss_one (ps_ret (pe_cal C_hear_voice hr rfl (pa_cons (pv 0) (pa_cons (pe_ix (r := rIxU K) (ix_any (hu_of hr)) (pv 1) pe_int (fun _ _ => rfl)) (pa_cons (pe_ix (r := rIxU K) (ix_any (hu_of hr)) (pv 1) pe_int (fun _ _ => rfl)) (pa_cons (pe_ix (r := rIxU K) (ix_any (hu_of hr)) (pv 1) pe_int (fun _ _ => rfl)) (pa_cons (pe_ix (r := rIxU K) (ix_any (hu_of hr)) (pv 1) pe_int (fun _ _ => rfl)) pa_nil)))))))) pss_nil)
    (pss_cons (ps_if (pt_cmpR (op_eqV hr.units) (pe_ix (r := rIxU K) (ix_any (hu_of hr)) (pv 1) pe_int (fun _ _ => rfl)) pe_str (nomark _))
      pss_never pss_nil)
    (pss_one (ps_ret (pe_cal C_hear_kept hr rfl (pa_cons (pv 0) (pa_cons (pe_ix (r := rIxU K) (ix_any (hu_of hr)) (pv 1) pe_int (fun _ _ => rfl)) (pa_cons (pe_ix (r := rIxU K) (ix_any (hu_of hr)) (pv 1) pe_int (fun _ _ => rfl)) (pa_cons (pe_ix (r := rIxU K) (ix_any (hu_of hr)) (pv 1) pe_int (fun _ _ => rfl)) pa_nil)))))))))), io_fn (S := (b_Master_hear K Cm).2) h (by decide)⟩
abbrev t_Lled (K : W.Frag) (Cm : Addr) [ClsI K Cm] : TS := (tSeq (tAsg (tMake Cm (spI K (true :: List.replicate 2 false) (G_Master_init K Cm)) [] E0 (tCons (tCall (spI K [true, false] (G_Lpick K Cm)) [] E0 (tCons (tVar 0) (tCons (tVar 1) tNil))) (tCons (tVar 1) tNil))) (gName 2))
    (tSeq (tDrop (tMeth Cm "rise" (spI K [true] (G_Master_rise K Cm)) [] E0 (tVar 2) tNil))
    (tSeq (tAsg (tOp (rI0 fun i j => .int (i - j)) (tFld K (tVar 2) "term") (tC (.int 1))) (gName 3))
    (tSeq (tAsg (tCall (spP K 2 (G_Lrows K Cm)) [] E0 (tCons (tVar 3) (tCons (tOp (rI CMul fun i j => .int (i * j)) (tCall (spI K [true, false] (G_Lpick K Cm)) [] E0 (tCons (tVar 0) (tCons (tC (.int 4)) tNil))) (tCB rInt1 (tCons (tOp (rI0 fun i j => .bl (decide (j < i))) (tVar 3) (tC (.int 0))) tNil))) tNil))) (gName 4))
    (tSeq (tFor (iRng1 (tCons (tOp (rI CDivL fun i j => .int (i / j)) (tVar 1) (tC (.int 2))) tNil)) (gName 5)
      (tSeq (tAsg (tOp (rI (fun _ j => 0 < j) fun i j => .int (i % j)) (tOp (rAddU K) (tOp (rAddU K) (tFld K (tVar 2) "number") (tC (.int 1))) (tVar 5)) (tVar 1)) (gName 6))
    (tDrop (tMeth Cm "hear" (spI K [true, false] (G_Master_hear K Cm)) [] E0 (tVar 2) (tCons (tTup (tCons (tC (.str "voice")) (tCons (tVar 6) (tCons (tFld K (tVar 2) "number") (tCons (tFld K (tVar 2) "term") (tCons (tVar 3) (tCons (tVar 4) tNil))))))) tNil)))))
    (tRet (tVar 2)))))))
noncomputable def b_Lled (K : W.Frag) (Cm : Addr) [ClsI K Cm] : {f : En → Option Fl // SS K 7 (t_Lled K Cm) f} := ⟨_, inferInstance⟩
noncomputable def f_Lled (K : W.Frag) (Cm : Addr) [ClsI K Cm] : En → Option Fl := (b_Lled K Cm).1
theorem sc_Lled : FnScope ["_law_left_here", "_law_many", "_law_one", "_law_of", "_law_rows_here", "_law_turn", "_law_other"] ["_law_left_here", "_law_many"] (defScope s_Lled) := ⟨rfl, rfl, rfl, by decide +kernel, rfl, by decide +kernel, by decide +kernel⟩
noncomputable def G_Lled (K : W.Frag) (Cm : Addr) [ClsI K Cm] : List D → Option (D × List D) := bodyI 7 [true, false] (f_Lled K Cm)
theorem ok_Lled {f : Addr} {fd : FuncData} (F : Fun K "_law_led" "_law_led" s_Lled f fd) (T : Txt mg) (C_Master_init : CalC P w K mg base "Master" Cm ["self", "number", "many"] 1 (spI K (true :: List.replicate 2 false) (G_Master_init K Cm))) (C_Lpick : Cal P w K mg base "_law_pick" ["_law_left_here", "_law_many"] 1 (spI K [true, false] (G_Lpick K Cm))) (C_Master_rise : CalM P w K mg base Cm "rise" ["self"] 9 (spI K [true] (G_Master_rise K Cm))) (C_Lrows : Cal P w K mg base "_law_rows" ["_law_term", "_law_many"] 1 (spP K 2 (G_Lrows K Cm))) (C_Master_hear : CalM P w K mg base Cm "hear" ["self", "message"] 10 (spI K [true, false] (G_Master_hear K Cm))) : FnOk P w K mg base CX0 11 f fd ["_law_left_here", "_law_many"] (spI K [true, false] (G_Lled K Cm)) := by
  refine F.ok sc_Lled (fun vs H Q E h => h.1) (fun cdv A outer s H vs Q E hr h => ?_)
  exact ⟨t_Lled K Cm, (pss_cons (ps_set (i := 2) sc_Lled.nd rfl (Or.inl rfl) (pe_calC C_Master_init hr rfl (pa_cons (pe_cal C_Lpick hr rfl (pa_cons (pv 0) (pa_cons (pv 1) pa_nil))) (pa_cons (pv 1) pa_nil))))
    (pss_cons (ps_expr (pe_calM0 C_Master_rise hr (pv 2)))
    (pss_cons (ps_set (i := 3) sc_Lled.nd rfl (Or.inl rfl) (pe_op op_sub (pe_fldK (K := K) rfl (pv 2) rfl) pe_int))
    (pss_cons (ps_set (i := 4) sc_Lled.nd rfl (Or.inl rfl) (pe_cal C_Lrows hr rfl (pa_cons (pv 3) (pa_cons (pe_op op_mul (pe_cal C_Lpick hr rfl (pa_cons (pv 0) (pa_cons pe_int pa_nil))) (pe_callTy (r := rInt1) call_int1' rfl T.b_int PyProof.Rows.boot_int (pa_cons (pe_cmpR op_gt (pv 3) pe_int (nomark _)) pa_nil))) pa_nil))))
    (pss_cons (ps_for PassesOwn.never rfl (pi_range1 rfl T.b_range (pa_cons (pe_op op_fdivL (pv 1) pe_int) pa_nil)) (pg_name (i := 5) sc_Lled.nd rfl (Or.inl rfl))
      (pss_cons (ps_set (i := 6) sc_Lled.nd rfl (Or.inl rfl) (pe_op op_mod (pe_op op_addU (pe_op op_addU (pe_fldK (K := K) rfl (pv 2) rfl) pe_int) (pv 5)) (pv 1)))
    (pss_one (ps_expr (pe_calM C_Master_hear hr (pv 2) (pa_cons (pe_tup (pa_cons pe_str (pa_cons (pv 6) (pa_cons (pe_fldK (K := K) rfl (pv 2) rfl) (pa_cons (pe_fldK (K := K) rfl (pv 2) rfl) (pa_cons (pv 3) (pa_cons (pv 4) pa_nil))))))) pa_nil))))))
    (pss_one (ps_ret (pv 2)))))))), io_fn (S := (b_Lled K Cm).2) h (by decide)⟩
abbrev t_Lfields (K : W.Frag) (Cm : Addr) [ClsI K Cm] : TS := (tRet (tTup (tCons (tFld K (tVar 0) "number") (tCons (tFld K (tVar 0) "many") (tCons (tFld K (tVar 0) "term") (tCons (tFld K (tVar 0) "of") (tCons (tCB (rListOf K) (tCons (tFld K (tVar 0) "log") tNil)) (tCons (tFld K (tVar 0) "done") (tCons (tFld K (tVar 0) "role") tNil)))))))))
noncomputable def b_Lfields (K : W.Frag) (Cm : Addr) [ClsI K Cm] : {f : En → Option Fl // SS K 1 (t_Lfields K Cm) f} := ⟨_, inferInstance⟩
noncomputable def f_Lfields (K : W.Frag) (Cm : Addr) [ClsI K Cm] : En → Option Fl := (b_Lfields K Cm).1
theorem sc_Lfields : FnScope ["_law_one"] ["_law_one"] (defScope s_Lfields) := ⟨rfl, rfl, rfl, by decide +kernel, rfl, by decide +kernel, by decide +kernel⟩
noncomputable def G_Lfields (K : W.Frag) (Cm : Addr) [ClsI K Cm] : List D → Option D := bodyP 1 (f_Lfields K Cm)
theorem ok_Lfields {f : Addr} {fd : FuncData} (F : Fun K "_law_fields" "_law_fields" s_Lfields f fd) (T : Txt mg) : FnOk P w K mg base CX0 1 f fd ["_law_one"] (spP K 1 (G_Lfields K Cm)) := by
  refine F.ok sc_Lfields (fun vs H Q E h => spP_len h) (fun cdv A outer s H vs Q E hr h => ?_)
  exact ⟨t_Lfields K Cm, (pss_one (ps_ret (pe_tup (pa_cons (pe_fldK (K := K) rfl (pv 0) rfl) (pa_cons (pe_fldK (K := K) rfl (pv 0) rfl) (pa_cons (pe_fldK (K := K) rfl (pv 0) rfl) (pa_cons (pe_fldK (K := K) rfl (pv 0) rfl) (pa_cons (pe_callTy (r := (rListOf K)) call_listOf rfl T.b_list PyProof.Rows.boot_list (pa_cons (pe_fldK (K := K) rfl (pv 0) rfl) pa_nil)) (pa_cons (pe_fldK (K := K) rfl (pv 0) rfl) (pa_cons (pe_fldK (K := K) rfl (pv 0) rfl) pa_nil)))))))))), pure_fn (S := (b_Lfields K Cm).2) h (by decide)⟩
abbrev t_Master_send (K : W.Frag) (Cm : Addr) [ClsI K Cm] : TS := (tSeq (tIfS (tTest (tOp (rNeD K) (tFld K (tVar 0) "role") (tC (.str "leads"))))
      (tRet (tLst tNil)) tNext)
    (tRet (tLC (iAny K (tCall (spP K 1 (G_others K Cm)) [] E0 (tCons (tVar 0) tNil))) (gName 0) tTrue (tTup (tCons (tC (.str "keep")) (tCons (tFld K (tVar 1) "number") (tCons (tVar 0) (tCons (tFld K (tVar 1) "term") (tCons (tCall (spP K 1 (G_rows_told K Cm)) [] E0 (tCons (tVar 1) tNil)) (tCons (tFld K (tVar 1) "done") tNil))))))) [none, some 0])))
noncomputable def b_Master_send (K : W.Frag) (Cm : Addr) [ClsI K Cm] : {f : En → Option Fl // SS K 1 (t_Master_send K Cm) f} := ⟨_, inferInstance⟩
noncomputable def f_Master_send (K : W.Frag) (Cm : Addr) [ClsI K Cm] : En → Option Fl := (b_Master_send K Cm).1
theorem sc_Master_send : FnScope ["self"] ["self"] (defScope s_Master_send) := ⟨rfl, rfl, rfl, by decide +kernel, rfl, by decide +kernel, by decide +kernel⟩
noncomputable def G_Master_send (K : W.Frag) (Cm : Addr) [ClsI K Cm] : List D → Option D := bodyP 1 (f_Master_send K Cm)
theorem ok_Master_send {f : Addr} {fd : FuncData} (F : Fun K "send" "Master.send" s_Master_send f fd) (T : Txt mg) (C_others : Cal P w K mg base "others" ["master"] 1 (spP K 1 (G_others K Cm))) (C_rows_told : Cal P w K mg base "rows_told" ["master"] 5 (spP K 1 (G_rows_told K Cm))) : FnOk P w K mg base CX0 6 f fd ["self"] (spP K 1 (G_Master_send K Cm)) := by
  refine F.ok sc_Master_send (fun vs H Q E h => spP_len h) (fun cdv A outer s H vs Q E hr h => ?_)
  exact ⟨t_Master_send K Cm, (pss_cons (ps_if (pt_cmpR (op_neV hr.units) (pe_fldK (K := K) rfl (pv 0) rfl) pe_str (nomark _))
      (pss_one (ps_ret (pe_lst pa_nil))) pss_nil)
    (pss_one (ps_ret (pe_lc [none, some 0] ["other", "self"] rfl (capOf ⟨⟨rfl, rfl, .inl rfl⟩, trivial⟩) (pi_any (pe_cal C_others hr rfl (pa_cons (pv 0) pa_nil))) (fun _ _ _ _ _ _ => (pg_name (i := 0) (by decide +kernel : (["other", "self"] : List Str).Nodup) rfl (Or.inl rfl))) (fun _ _ _ _ _ _ => pifs_nil) (fun _ _ _ _ _ _ => (pe_tup (pa_cons pe_str (pa_cons (pe_fldK (K := K) rfl (pv 1) rfl) (pa_cons (pv 0) (pa_cons (pe_fldK (K := K) rfl (pv 1) rfl) (pa_cons (pe_cal C_rows_told hr rfl (pa_cons (pv 1) pa_nil)) (pa_cons (pe_fldK (K := K) rfl (pv 1) rfl) pa_nil)))))))))))), pure_fn (S := (b_Master_send K Cm).2) h (by decide)⟩
abbrev t_Master_add (K : W.Frag) (Cm : Addr) [ClsI K Cm] : TS := (tSeq (tIfS (tTest (tOp (rNeD K) (tFld K (tVar 0) "role") (tC (.str "leads"))))
      (tRet (tC .non)) tNext)
    (tSeq (tDrop (tCall (spI K [true, false] (G_take_behind K Cm)) [] E0 (tCons (tVar 0) (tCons (tTup (tCons (tVar 1) tNil)) tNil))))
    (tSeq (tDrop (tCall (spI K [true] (G_count_done K Cm)) [] E0 (tCons (tVar 0) tNil)))
    (tRet (tMeth Cm "send" (spP K 1 (G_Master_send K Cm)) [] E0 (tVar 0) tNil)))))
noncomputable def b_Master_add (K : W.Frag) (Cm : Addr) [ClsI K Cm] : {f : En → Option Fl // SS K 2 (t_Master_add K Cm) f} := ⟨_, inferInstance⟩
noncomputable def f_Master_add (K : W.Frag) (Cm : Addr) [ClsI K Cm] : En → Option Fl := (b_Master_add K Cm).1
theorem sc_Master_add : FnScope ["self", "row"] ["self", "row"] (defScope s_Master_add) := ⟨rfl, rfl, rfl, by decide +kernel, rfl, by decide +kernel, by decide +kernel⟩
noncomputable def G_Master_add (K : W.Frag) (Cm : Addr) [ClsI K Cm] : List D → Option (D × List D) := bodyI 2 [true, false] (f_Master_add K Cm)
theorem ok_Master_add {f : Addr} {fd : FuncData} (F : Fun K "add" "Master.add" s_Master_add f fd) (T : Txt mg) (C_take_behind : Cal P w K mg base "take_behind" ["master", "rows"] 5 (spI K [true, false] (G_take_behind K Cm))) (C_count_done : Cal P w K mg base "count_done" ["master"] 3 (spI K [true] (G_count_done K Cm))) (C_Master_send : CalM P w K mg base Cm "send" ["self"] 6 (spP K 1 (G_Master_send K Cm))) : FnOk P w K mg base CX0 7 f fd ["self", "row"] (spI K [true, false] (G_Master_add K Cm)) := by
  refine F.ok sc_Master_add (fun vs H Q E h => h.1) (fun cdv A outer s H vs Q E hr h => ?_)
  exact ⟨t_Master_add K Cm, (pss_cons (ps_if (pt_cmpR (op_neV hr.units) (pe_fldK (K := K) rfl (pv 0) rfl) pe_str (nomark _))
      (pss_one (ps_ret pe_non)) pss_nil)
    (pss_cons (ps_expr (pe_cal C_take_behind hr rfl (pa_cons (pv 0) (pa_cons (pe_tup (pa_cons (pv 1) pa_nil)) pa_nil))))
    (pss_cons (ps_expr (pe_cal C_count_done hr rfl (pa_cons (pv 0) pa_nil)))
    (pss_one (ps_ret (pe_calM0 C_Master_send hr (pv 0))))))), io_fn (S := (b_Master_add K Cm).2) h (by decide)⟩
abbrev t_Lwritten (K : W.Frag) (Cm : Addr) [ClsI K Cm] : TS := (tSeq (tAsg (tC (.int 0)) (gName 2))
    (tSeq (tFor (iAny K (tCB (rSortI K) (tCons (tOp (rAddU K) (tCB rListV (tCons (tVals (tVar 0)) tNil)) (tLst (tCons (tCB (rLenU K) (tCons (tFld K (tVar 1) "log") tNil)) tNil))) tNil))) (gName 3)
      (tSeq (tAsg (tLC (iAny K (tOp (rAddU K) (tCB rListV (tCons (tVals (tVar 0)) tNil)) (tLst (tCons (tCB (rLenU K) (tCons (tFld K (tVar 1) "log") tNil)) tNil)))) (gName 0) (tTest (tOp (rI0 fun i j => .bl (decide (j ≤ i))) (tVar 0) (tVar 1))) (tVar 0) [none, some 3]) (gName 4))
    (tIfS (tTest (tOp (rI0 fun i j => .bl (decide (j < i))) (tOp (rI CMul fun i j => .int (i * j)) (tC (.int 2)) (tCB (rLenU K) (tCons (tVar 4) tNil))) (tFld K (tVar 1) "many")))
      (tAsg (tVar 3) (gName 2)) tNext)))
    (tRet (tVar 2))))
noncomputable def b_Lwritten (K : W.Frag) (Cm : Addr) [ClsI K Cm] : {f : En → Option Fl // SS K 5 (t_Lwritten K Cm) f} := ⟨_, inferInstance⟩
noncomputable def f_Lwritten (K : W.Frag) (Cm : Addr) [ClsI K Cm] : En → Option Fl := (b_Lwritten K Cm).1
theorem sc_Lwritten : FnScope ["_law_sizes", "_law_one", "_law_found", "_law_size", "_law_some"] ["_law_sizes", "_law_one"] (defScope s_Lwritten) := ⟨rfl, rfl, rfl, by decide +kernel, rfl, by decide +kernel, by decide +kernel⟩
noncomputable def G_Lwritten (K : W.Frag) (Cm : Addr) [ClsI K Cm] : List D → Option D := bodyP 5 (f_Lwritten K Cm)
theorem ok_Lwritten {f : Addr} {fd : FuncData} (F : Fun K "_law_written" "_law_written" s_Lwritten f fd) (T : Txt mg) : FnOk P w K mg base CX0 1 f fd ["_law_sizes", "_law_one"] (spP K 2 (G_Lwritten K Cm)) := by
  refine F.ok sc_Lwritten (fun vs H Q E h => spP_len h) (fun cdv A outer s H vs Q E hr h => ?_)
  exact ⟨t_Lwritten K Cm, (pss_cons (ps_set (i := 2) sc_Lwritten.nd rfl (Or.inl rfl) pe_int)
    (pss_cons (ps_for PassesOwn.never rfl (pi_any (pe_callB (r := (rSortI K)) call_sortI' rfl T.b_sorted PyProof.Rows.boot_sorted (pa_cons (pe_op op_addU (pe_callTy (r := rListV) (call_listV rfl) rfl T.b_list PyProof.Rows.boot_list (pa_cons (pe_vals (pv 0)) pa_nil)) (pe_lst (pa_cons (pe_callB (r := (rLenU K)) call_lenU rfl T.b_len PySem.boot_len (pa_cons (pe_fldK (K := K) rfl (pv 1) rfl) pa_nil)) pa_nil))) pa_nil))) (pg_name (i := 3) sc_Lwritten.nd rfl (Or.inr rfl))
      (pss_cons (ps_setC (k := 4) [none, some 3] ["_law_other", "_law_size"] rfl (capOf ⟨⟨rfl, rfl, .inl rfl⟩, trivial⟩) sc_Lwritten.nd rfl (Or.inl rfl) (pi_any (pe_op op_addU (pe_callTy (r := rListV) (call_listV rfl) rfl T.b_list PyProof.Rows.boot_list (pa_cons (pe_vals (pv 0)) pa_nil)) (pe_lst (pa_cons (pe_callB (r := (rLenU K)) call_lenU rfl T.b_len PySem.boot_len (pa_cons (pe_fldK (K := K) rfl (pv 1) rfl) pa_nil)) pa_nil)))) (fun _ _ _ _ _ _ => (pg_name (i := 0) (by decide +kernel : (["_law_other", "_law_size"] : List Str).Nodup) rfl (Or.inl rfl))) (fun _ _ _ _ _ _ => (pifs_one (pt_cmpR op_ge (pv 0) (pv 1) (nomark _)))) (fun _ _ _ _ _ _ => (pv 0)))
    (pss_one (ps_if (pt_cmpR op_gt (pe_op op_mul pe_int (pe_callB (r := (rLenU K)) call_lenU rfl T.b_len PySem.boot_len (pa_cons (pv 4) pa_nil))) (pe_fldK (K := K) rfl (pv 1) rfl) (nomark _))
      (pss_one (ps_set (i := 2) sc_Lwritten.nd rfl (Or.inl rfl) (pv 3))) pss_nil))))
    (pss_one (ps_ret (pv 2))))), pure_fn (S := (b_Lwritten K Cm).2) h (by decide)⟩
abbrev t_Lwalked (K : W.Frag) (Cm : Addr) [ClsI K Cm] : TS := (tSeq (tAsg tDNewK (gName 2))
    (tSeq (tFor (iRng1 (tCons (tCall (spI K [true, false] (G_Lpick K Cm)) [] E0 (tCons (tVar 0) (tCons (tC (.int 17)) tNil))) tNil)) (gName 3)
      (tSeq (tAsg (tCall (spP K 1 (G_Lfields K Cm)) [] E0 (tCons (tVar 1) tNil)) (gName 4))
    (tSeq (tAsg (tOp (rIxU K) (tVar 4) (tC (.int 4))) (gName 5))
    (tSeq (tIfS (tOr (tTest (tOp (rEqD K) (tFld K (tVar 1) "many") (tC (.int 1)))) (tAnd (tTest (tOp (rI0 fun i j => .bl (decide (i < j))) (tCB (rLenU K) (tCons (tVar 5) tNil)) (tC (.int 12)))) (tTest (tOp (rEqD K) (tCall (spI K [true, false] (G_Lpick K Cm)) [] E0 (tCons (tVar 0) (tCons (tC (.int 3)) tNil))) (tC (.int 0))))))
      (tSeq (tAsg (tTup (tCons (tC (.str "row")) (tCons (tVar 3) (tCons (tCall (spI K [true, false] (G_Lpick K Cm)) [] E0 (tCons (tVar 0) (tCons (tC (.int 2)) tNil))) tNil)))) (gName 6))
    (tSeq (tIfS (tTest (tOp rIsN (tMeth Cm "add" (spI K [true, false] (G_Master_add K Cm)) [] E0 (tVar 1) (tCons (tVar 6) tNil)) (tC .non)))
      (tRet (tC (.bl false))) tNext)
    (tAsg (tOp (rAddU K) (tVar 5) (tLst (tCons (tVar 6) tNil))) (gName 5)))) (tSeq (tAsg (tOp (rI (fun _ j => 0 < j) fun i j => .int (i % j)) (tOp (rAddU K) (tOp (rAddU K) (tFld K (tVar 1) "number") (tC (.int 1))) (tCall (spI K [true, false] (G_Lpick K Cm)) [] E0 (tCons (tVar 0) (tCons (tOp (rI0 fun i j => .int (i - j)) (tFld K (tVar 1) "many") (tC (.int 1))) tNil)))) (tFld K (tVar 1) "many")) (gName 7))
    (tSeq (tAsg (tCall (spI K [true, false] (G_Lpick K Cm)) [] E0 (tCons (tVar 0) (tCons (tOp (rAddU K) (tCB (rLenU K) (tCons (tVar 5) tNil)) (tC (.int 1))) tNil))) (gName 8))
    (tSeq (tAsg (tCB rMax2 (tCons (tC (.int 0)) (tCons (tOp (rI0 fun i j => .int (i - j)) (tFld K (tVar 1) "term") (tOp (rI CMul fun i j => .int (i * j)) (tFld K (tVar 1) "many") (tCB rInt1 (tCons (tOp (rEqD K) (tCall (spI K [true, false] (G_Lpick K Cm)) [] E0 (tCons (tVar 0) (tCons (tC (.int 6)) tNil))) (tC (.int 0))) tNil)))) tNil))) (gName 9))
    (tSeq (tIfS (tTest (tOp (rNeD K) (tMeth Cm "hear" (spI K [true, false] (G_Master_hear K Cm)) [] E0 (tVar 1) (tCons (tTup (tCons (tC (.str "kept")) (tCons (tVar 7) (tCons (tFld K (tVar 1) "number") (tCons (tVar 9) (tCons (tVar 8) tNil)))))) tNil)) (tLst tNil)))
      (tRet (tC (.bl false))) tNext)
    (tIfS (tTest (tOp (rEqD K) (tVar 9) (tFld K (tVar 1) "term")))
      (sDPut (tVar 2) (tVar 7) (tCB rMax2 (tCons (tVar 8) (tCons (tDGet2 (tVar 2) (tVar 7) (tC (.int 0))) tNil)))) tNext))))))
    (tSeq (tIfS (tOr (tTest (tOp (rNeD K) (tFld K (tVar 1) "done") (tCB rMax2 (tCons (tOp (rIxU K) (tVar 4) (tC (.int 5))) (tCons (tCall (spP K 2 (G_Lwritten K Cm)) [] E0 (tCons (tVar 2) (tCons (tVar 1) tNil))) tNil))))) (tB (tCB (rIsi K "bool") (tCons (tFld K (tVar 1) "done") (tCons (tC (.ty "bool")) tNil)))))
      (tRet (tC (.bl false))) tNext)
    (tIfS (tTest (tOp (rNeD K) (tCall (spP K 1 (G_Lfields K Cm)) [] E0 (tCons (tVar 1) tNil)) (tOp (rAddU K) (tSl (rSlU K) (tVar 4) tNoPart (tPart (tC (.int 4)))) (tTup (tCons (tVar 5) (tCons (tFld K (tVar 1) "done") (tCons (tC (.str "leads")) tNil)))))))
      (tRet (tC (.bl false))) tNext))))))
    (tRet (tC (.bl true)))))
noncomputable def b_Lwalked (K : W.Frag) (Cm : Addr) [ClsI K Cm] : {f : En → Option Fl // SS K 10 (t_Lwalked K Cm) f} := ⟨_, inferInstance⟩
noncomputable def f_Lwalked (K : W.Frag) (Cm : Addr) [ClsI K Cm] : En → Option Fl := (b_Lwalked K Cm).1
theorem sc_Lwalked : FnScope ["_law_left_here", "_law_one", "_law_sizes", "_law_turn", "_law_ahead", "_law_log", "_law_row", "_law_other", "_law_size", "_law_term"] ["_law_left_here", "_law_one"] (defScope s_Lwalked) := ⟨rfl, rfl, rfl, by decide +kernel, rfl, by decide +kernel, by decide +kernel⟩
noncomputable def G_Lwalked (K : W.Frag) (Cm : Addr) [ClsI K Cm] : List D → Option (D × List D) := bodyI 10 [true, true] (f_Lwalked K Cm)
theorem ok_Lwalked {f : Addr} {fd : FuncData} (F : Fun K "_law_walked" "_law_walked" s_Lwalked f fd) (T : Txt mg) (C_Lpick : Cal P w K mg base "_law_pick" ["_law_left_here", "_law_many"] 1 (spI K [true, false] (G_Lpick K Cm))) (C_Lfields : Cal P w K mg base "_law_fields" ["_law_one"] 1 (spP K 1 (G_Lfields K Cm))) (C_Master_add : CalM P w K mg base Cm "add" ["self", "row"] 7 (spI K [true, false] (G_Master_add K Cm))) (C_Master_hear : CalM P w K mg base Cm "hear" ["self", "message"] 10 (spI K [true, false] (G_Master_hear K Cm))) (C_Lwritten : Cal P w K mg base "_law_written" ["_law_sizes", "_law_one"] 1 (spP K 2 (G_Lwritten K Cm))) : FnOk P w K mg base CX0 12 f fd ["_law_left_here", "_law_one"] (spI K [true, true] (G_Lwalked K Cm)) := by
  refine F.ok sc_Lwalked (fun vs H Q E h => h.1) (fun cdv A outer s H vs Q E hr h => ?_)
  exact ⟨t_Lwalked K Cm, (pss_cons (ps_set (i := 2) sc_Lwalked.nd rfl (Or.inl rfl) pe_dnewK)
    (pss_cons (ps_for PassesOwn.never rfl (pi_range1 rfl T.b_range (pa_cons (pe_cal C_Lpick hr rfl (pa_cons (pv 0) (pa_cons pe_int pa_nil))) pa_nil)) (pg_name (i := 3) sc_Lwalked.nd rfl (Or.inl rfl))
      (pss_cons (ps_set (i := 4) sc_Lwalked.nd rfl (Or.inl rfl) (pe_cal C_Lfields hr rfl (pa_cons (pv 1) pa_nil)))
    (pss_cons (ps_set (i := 5) sc_Lwalked.nd rfl (Or.inl rfl) (pe_ix (r := rIxU K) (ix_any (hu_of hr)) (pv 4) pe_int (fun _ _ => rfl)))
    (pss_cons (ps_if (PW.pt (pw_or (pt_cmpR (op_eqV hr.units) (pe_fldK (K := K) rfl (pv 1) rfl) pe_int (nomark _)) (pw_or1 (PW.pt (pw_and (pt_cmpR op_lt (pe_callB (r := (rLenU K)) call_lenU rfl T.b_len PySem.boot_len (pa_cons (pv 5) pa_nil)) pe_int (nomark _)) (pw_and1 (pt_cmpR (op_eqV hr.units) (pe_cal C_Lpick hr rfl (pa_cons (pv 0) (pa_cons pe_int pa_nil))) pe_int (nomark _))))))))
      (pss_cons (ps_set (i := 6) sc_Lwalked.nd rfl (Or.inl rfl) (pe_tup (pa_cons pe_str (pa_cons (pv 3) (pa_cons (pe_cal C_Lpick hr rfl (pa_cons (pv 0) (pa_cons pe_int pa_nil))) pa_nil)))))
    (pss_cons (ps_if (pt_cmpR op_isN' (pe_calM C_Master_add hr (pv 1) (pa_cons (pv 6) pa_nil)) pe_non (nomark _))
      (pss_one (ps_ret pe_bl)) pss_nil)
    (pss_one (ps_set (i := 5) sc_Lwalked.nd rfl (Or.inl rfl) (pe_op op_addU (pv 5) (pe_lst (pa_cons (pv 6) pa_nil))))))) (pss_cons (ps_set (i := 7) sc_Lwalked.nd rfl (Or.inl rfl) (pe_op op_mod (pe_op op_addU (pe_op op_addU (pe_fldK (K := K) rfl (pv 1) rfl) pe_int) (pe_cal C_Lpick hr rfl (pa_cons (pv 0) (pa_cons (pe_op op_sub (pe_fldK (K := K) rfl (pv 1) rfl) pe_int) pa_nil)))) (pe_fldK (K := K) rfl (pv 1) rfl)))
    (pss_cons (ps_set (i := 8) sc_Lwalked.nd rfl (Or.inl rfl) (pe_cal C_Lpick hr rfl (pa_cons (pv 0) (pa_cons (pe_op op_addU (pe_callB (r := (rLenU K)) call_lenU rfl T.b_len PySem.boot_len (pa_cons (pv 5) pa_nil)) pe_int) pa_nil))))
    (pss_cons (ps_set (i := 9) sc_Lwalked.nd rfl (Or.inl rfl) (pe_callB (r := rMax2) (call_max2' rfl) rfl T.b_max PyProof.Rows.boot_max (pa_cons pe_int (pa_cons (pe_op op_sub (pe_fldK (K := K) rfl (pv 1) rfl) (pe_op op_mul (pe_fldK (K := K) rfl (pv 1) rfl) (pe_callTy (r := rInt1) call_int1' rfl T.b_int PyProof.Rows.boot_int (pa_cons (pe_cmpR (op_eqV hr.units) (pe_cal C_Lpick hr rfl (pa_cons (pv 0) (pa_cons pe_int pa_nil))) pe_int (nomark _)) pa_nil)))) pa_nil))))
    (pss_cons (ps_if (pt_cmpR (op_neV hr.units) (pe_calM C_Master_hear hr (pv 1) (pa_cons (pe_tup (pa_cons pe_str (pa_cons (pv 7) (pa_cons (pe_fldK (K := K) rfl (pv 1) rfl) (pa_cons (pv 9) (pa_cons (pv 8) pa_nil)))))) pa_nil)) (pe_lst pa_nil) (nomark _))
      (pss_one (ps_ret pe_bl)) pss_nil)
    (pss_one (ps_if (pt_cmpR (op_eqV hr.units) (pv 9) (pe_fldK (K := K) rfl (pv 1) rfl) (nomark _))
      (pss_one (ps_dput (hu_of hr) (pv 2) (pv 7) (pe_callB (r := rMax2) (call_max2' rfl) rfl T.b_max PyProof.Rows.boot_max (pa_cons (pv 8) (pa_cons (pe_dget2 (hu_of hr) (pv 2) (pv 7) pe_int ⟨rfl, rfl, rfl, rfl⟩) pa_nil))) rfl)) pss_nil)))))))
    (pss_cons (ps_if (PW.pt (pw_or (pt_cmpR (op_neV hr.units) (pe_fldK (K := K) rfl (pv 1) rfl) (pe_callB (r := rMax2) (call_max2' rfl) rfl T.b_max PyProof.Rows.boot_max (pa_cons (pe_ix (r := rIxU K) (ix_any (hu_of hr)) (pv 4) pe_int (fun _ _ => rfl)) (pa_cons (pe_cal C_Lwritten hr rfl (pa_cons (pv 2) (pa_cons (pv 1) pa_nil))) pa_nil))) (nomark _)) (pw_or1 (pt_val (pe_callB (r := rIsi K "bool") call_isi rfl T.b_isinstance PyProof.Rows.boot_isinstance (pa_cons (pe_fldK (K := K) rfl (pv 1) rfl) (pa_cons (pe_bltn (v := .ty "bool") rfl T.b_bool PyProof.Rows.boot_bool rfl) pa_nil)))))))
      (pss_one (ps_ret pe_bl)) pss_nil)
    (pss_one (ps_if (pt_cmpR (op_neV hr.units) (pe_cal C_Lfields hr rfl (pa_cons (pv 1) pa_nil)) (pe_op op_addU (pe_slice (r := rSlU K) sl_any (pv 4) po_none (po_some pe_int)) (pe_tup (pa_cons (pv 5) (pa_cons (pe_fldK (K := K) rfl (pv 1) rfl) (pa_cons pe_str pa_nil))))) (nomark _))
      (pss_one (ps_ret pe_bl)) pss_nil)))))))
    (pss_one (ps_ret pe_bl)))), io_fn (S := (b_Lwalked K Cm).2) h (by decide)⟩
end
end K28
namespace K28
open PySem L2 VL
section
variable {P : Program} {w : World} {K : W.Frag} {mg : Str → Option Value} {base : Heap} {Cm : Addr} [ClsI K Cm]
abbrev t_law (K : W.Frag) (Cm : Addr) [ClsI K Cm] : TS := (tSeq (tFor (iRng1 (tCons (tCB rMax2 (tCons (tC (.int 1)) (tCons (tCB rMin2 (tCons (tCB (rLenU K) (tCons (tVar 0) tNil)) (tCons (tC (.int 8)) tNil))) tNil))) tNil)) (gName 1)
      (tSeq (tAsg (tCall (spP K 2 (G_Lleft K Cm)) [] E0 (tCons (tVar 0) (tCons (tVar 1) tNil))) (gName 2))
    (tSeq (tAsg (tCall (spI K [true, false] (G_Lled K Cm)) [] E0 (tCons (tVar 2) (tCons (tOp (rAddU K) (tC (.int 1)) (tCall (spI K [true, false] (G_Lpick K Cm)) [] E0 (tCons (tVar 2) (tCons (tC (.int 7)) tNil)))) tNil))) (gName 3))
    (tSeq (tIfS (tOr (tTest (tOp (rNeD K) (tFld K (tVar 3) "role") (tC (.str "leads")))) (tNot (tB (tCall (spI K [true, true] (G_Lwalked K Cm)) [] E0 (tCons (tVar 2) (tCons (tVar 3) tNil))))))
      (tRet (tC (.bl false))) tNext)
    (tSeq (tDrop (tMeth Cm "rise" (spI K [true] (G_Master_rise K Cm)) [] E0 (tVar 3) tNil))
    (tSeq (tAsg (tCall (spP K 1 (G_Lfields K Cm)) [] E0 (tCons (tVar 3) tNil)) (gName 4))
    (tSeq (tAsg (tTup (tCons (tC (.str "kept")) (tCons (tOp (rI (fun _ j => 0 < j) fun i j => .int (i % j)) (tOp (rAddU K) (tFld K (tVar 3) "number") (tC (.int 1))) (tFld K (tVar 3) "many")) (tCons (tFld K (tVar 3) "number") (tCons (tFld K (tVar 3) "term") (tCons (tC (.int 9)) tNil)))))) (gName 5))
    (tIfS (tOr (tAnd (tTest (tOp (rI0 fun i j => .bl (decide (j < i))) (tFld K (tVar 3) "many") (tC (.int 1)))) (tTest (tOp (rNeD K) (tMeth Cm "hear" (spI K [true, false] (G_Master_hear K Cm)) [] E0 (tVar 3) (tCons (tVar 5) tNil)) (tLst tNil)))) (tTest (tOp (rNeD K) (tCall (spP K 1 (G_Lfields K Cm)) [] E0 (tCons (tVar 3) tNil)) (tVar 4))))
      (tRet (tC (.bl false))) tNext))))))))
    (tRet (tC (.bl true))))
noncomputable def b_law (K : W.Frag) (Cm : Addr) [ClsI K Cm] : {f : En → Option Fl // SS K 6 (t_law K Cm) f} := ⟨_, inferInstance⟩
noncomputable def f_law (K : W.Frag) (Cm : Addr) [ClsI K Cm] : En → Option Fl := (b_law K Cm).1
theorem sc_law : FnScope ["_law_script", "_law_k", "_law_left_here", "_law_one", "_law_ahead", "_law_message"] ["_law_script"] (defScope s_law) := ⟨rfl, rfl, rfl, by decide +kernel, rfl, by decide +kernel, by decide +kernel⟩
noncomputable def G_law (K : W.Frag) (Cm : Addr) [ClsI K Cm] : List D → Option D := bodyP 6 (f_law K Cm)
theorem ok_law {f : Addr} {fd : FuncData} (F : Fun K "law" "law" s_law f fd) (T : Txt mg) (C_Lleft : Cal P w K mg base "_law_left" ["_law_script", "_law_k"] 3 (spP K 2 (G_Lleft K Cm))) (C_Lled : Cal P w K mg base "_law_led" ["_law_left_here", "_law_many"] 11 (spI K [true, false] (G_Lled K Cm))) (C_Lpick : Cal P w K mg base "_law_pick" ["_law_left_here", "_law_many"] 1 (spI K [true, false] (G_Lpick K Cm))) (C_Lwalked : Cal P w K mg base "_law_walked" ["_law_left_here", "_law_one"] 12 (spI K [true, true] (G_Lwalked K Cm))) (C_Master_rise : CalM P w K mg base Cm "rise" ["self"] 9 (spI K [true] (G_Master_rise K Cm))) (C_Lfields : Cal P w K mg base "_law_fields" ["_law_one"] 1 (spP K 1 (G_Lfields K Cm))) (C_Master_hear : CalM P w K mg base Cm "hear" ["self", "message"] 10 (spI K [true, false] (G_Master_hear K Cm))) : FnOk P w K mg base CX0 14 f fd ["_law_script"] (spP K 1 (G_law K Cm)) := by
  refine F.ok sc_law (fun vs H Q E h => spP_len h) (fun cdv A outer s H vs Q E hr h => ?_)
  exact ⟨t_law K Cm, (pss_cons (ps_for PassesOwn.never rfl (pi_range1 rfl T.b_range (pa_cons (pe_callB (r := rMax2) (call_max2' rfl) rfl T.b_max PyProof.Rows.boot_max (pa_cons pe_int (pa_cons (pe_callB (r := rMin2) (call_min2' rfl) rfl T.b_min PyProof.Rows.boot_min (pa_cons (pe_callB (r := (rLenU K)) call_lenU rfl T.b_len PySem.boot_len (pa_cons (pv 0) pa_nil)) (pa_cons pe_int pa_nil))) pa_nil))) pa_nil)) (pg_name (i := 1) sc_law.nd rfl (Or.inl rfl))
      (pss_cons (ps_set (i := 2) sc_law.nd rfl (Or.inl rfl) (pe_cal C_Lleft hr rfl (pa_cons (pv 0) (pa_cons (pv 1) pa_nil))))
    (pss_cons (ps_set (i := 3) sc_law.nd rfl (Or.inl rfl) (pe_cal C_Lled hr rfl (pa_cons (pv 2) (pa_cons (pe_op op_addU pe_int (pe_cal C_Lpick hr rfl (pa_cons (pv 2) (pa_cons pe_int pa_nil)))) pa_nil))))
    (pss_cons (ps_if (PW.pt (pw_or (pt_cmpR (op_neV hr.units) (pe_fldK (K := K) rfl (pv 3) rfl) pe_str (nomark _)) (pw_or1 (pt_not (pt_val (pe_cal C_Lwalked hr rfl (pa_cons (pv 2) (pa_cons (pv 3) pa_nil))))))))
      (pss_one (ps_ret pe_bl)) pss_nil)
    (pss_cons (ps_expr (pe_calM0 C_Master_rise hr (pv 3)))
    (pss_cons (ps_set (i := 4) sc_law.nd rfl (Or.inl rfl) (pe_cal C_Lfields hr rfl (pa_cons (pv 3) pa_nil)))
    (pss_cons (ps_set (i := 5) sc_law.nd rfl (Or.inl rfl) (pe_tup (pa_cons pe_str (pa_cons (pe_op op_mod (pe_op op_addU (pe_fldK (K := K) rfl (pv 3) rfl) pe_int) (pe_fldK (K := K) rfl (pv 3) rfl)) (pa_cons (pe_fldK (K := K) rfl (pv 3) rfl) (pa_cons (pe_fldK (K := K) rfl (pv 3) rfl) (pa_cons pe_int pa_nil)))))))
    (pss_one (ps_if (PW.pt (pw_or (PW.pt (pw_and (pt_cmpR op_gt (pe_fldK (K := K) rfl (pv 3) rfl) pe_int (nomark _)) (pw_and1 (pt_cmpR (op_neV hr.units) (pe_calM C_Master_hear hr (pv 3) (pa_cons (pv 5) pa_nil)) (pe_lst pa_nil) (nomark _))))) (pw_or1 (pt_cmpR (op_neV hr.units) (pe_cal C_Lfields hr rfl (pa_cons (pv 3) pa_nil)) (pv 4) (nomark _)))))
      (pss_one (ps_ret pe_bl)) pss_nil)))))))))
    (pss_one (ps_ret pe_bl))), pure_fn (S := (b_law K Cm).2) h (by decide)⟩
end
end K28
namespace K28
open PySem L2 VL
variable {K : W.Frag} {C : Addr} [ClsI K C]
theorem cell_at_ok (cs : List Int) (k : Nat) : ∃ c : Int, G_Lcell_at K C [scr cs, iD k] = some (iD c) := by
  by_cases h : k < cs.length
  · exact ⟨cs[k], by simp [G_Lcell_at, f_Lcell_at, b_Lcell_at, scr, h, bD, bodyP, consA, dVar, dkPos, ifF, int0, ixD, ixN, ixS, ixU, ixV, keyOf, kidD, lenD, op2, VL.plain, plainM, retF, seqF, thenF]⟩
  · exact ⟨0, by simp [G_Lcell_at, f_Lcell_at, b_Lcell_at, scr, h, bD, bodyP, consA, dVar, dkPos, ifF, int0, ixD, ixN, ixS, ixU, ixV, keyOf, lenD, op2, plainM, retF, seqF, thenF]⟩
theorem mix_ok (c k : Int) (hk : 0 ≤ k ∧ k < 2 ^ 30) : ∃ m : Int, 0 ≤ m ∧ m < 1999999973 ∧ G_Lmix K C [iD c, iD k] = some (iD m) := by
  let m := ((c % 2147483629 + k * k * 7919 + 11) * 48271 % 2147483647)
  have hm : 0 ≤ m ∧ m < 2147483647 := ⟨Int.emod_nonneg _ (by decide), Int.emod_lt_of_pos _ (by decide)⟩
  refine ⟨m * m % 1999999973, Int.emod_nonneg _ (by decide), Int.emod_lt_of_pos _ (by decide), ?_⟩
  have k1 : -18446744073709551616 < k ∧ k < 18446744073709551616 := by omega
  have m1 : -18446744073709551616 < m ∧ m < 18446744073709551616 := by omega
  have m2 : -18446744073709551616 < (c % 2147483629 + k * k * 7919 + 11) * 48271 % 2147483647 ∧ (c % 2147483629 + k * k * 7919 + 11) * 48271 % 2147483647 < 18446744073709551616 := m1
  simp [G_Lmix, f_Lmix, b_Lmix, k1, m2, m, addV, addD, asgM, bD, bindE, bodyP, dVar, intD, op2, retF, seqF, thenF, CMul, unroot_nil, unroot_ro, unroot_none]
theorem pick1 (c m : Int) (hm : 0 < m) (h2 : m < 2 ^ 200) : G_Lpick K C [.nd .lst [iD c], iD m] = some (iD (c % m), [.nd .lst [iD (c / m)]]) := by
  have h3 : m < 1606938044258990275541962092341162602522202993782792835301376 := h2
  simp [G_Lpick, f_Lpick, b_Lpick, eq0, hm, h3, allOwn, andT, asgM, bD, bindE, bodyI, consA, dVar, dkPos, editE, envI, getP, ifF, int0, intD, ioL, ixD, ixN, ixS, ixU, ixV, keyOf, kidD, lenD, lstEd, mvVar, nodeAt, op2, owns, parB, plVar, VL.plain, popF, prune, pruneB, retF, rootD, seqF, setF, setIx, setP, thenF, CDivL, unroot_nil, unroot_own, unroot_ro, unroot_none, unroot_ali]
theorem pick2 (c r m : Int) (hm : 0 < m) (h2 : m < 2 ^ 200) : ∃ d l, 0 ≤ d ∧ d < m ∧ (∃ x y, l = [iD x] ∨ l = [iD x, iD y]) ∧ G_Lpick K C [.nd .lst [iD c, iD r], iD m] = some (iD d, [.nd .lst l]) := by
  have h3 : m < 1606938044258990275541962092341162602522202993782792835301376 := h2
  by_cases h : c = 0
  · subst h
    refine ⟨r % m, [iD (r / m)], Int.emod_nonneg _ (by omega), Int.emod_lt_of_pos _ hm, ⟨_, 0, .inl rfl⟩, ?_⟩
    simp [G_Lpick, f_Lpick, b_Lpick, eq0, hm, h3, allOwn, andT, asgM, bD, bindE, bodyI, consA, dVar, dkPos, editE, envI, getP, ifF, int0, intD, ioL, ixD, ixN, ixS, ixU, ixV, keyOf, kidD, lenD, lstEd, mvVar, nodeAt, op2, owns, parB, plVar, VL.plain, popF, prune, pruneB, retF, rootD, seqF, setF, setIx, setP, thenF, CDivL, unroot_nil, unroot_own, unroot_ro, unroot_none, unroot_ali]
  · refine ⟨c % m, [iD (c / m), iD r], Int.emod_nonneg _ (by omega), Int.emod_lt_of_pos _ hm, ⟨_, _, .inr rfl⟩, ?_⟩
    simp [G_Lpick, f_Lpick, b_Lpick, eq0, hm, h3, h, allOwn, andT, asgM, bD, bindE, bodyI, consA, dVar, dkPos, editE, envI, getP, ifF, int0, intD, ioL, ixD, ixN, ixS, ixU, ixV, keyOf, kidD, lenD, lstEd, mvVar, nodeAt, op2, owns, parB, plVar, VL.plain, popF, prune, pruneB, retF, rootD, seqF, setF, setIx, setP, thenF, CDivL, unroot_nil, unroot_own, unroot_ro, unroot_none, unroot_ali]
theorem rich_ok (c : Int) (k : Nat) (hk : k < 2 ^ 20) : ∃ r : Int, G_Lrich K C [iD c, iD k] = some (iD r) := by
  have key : ∃ d, G_Lrich K C [iD c, iD k] = some d ∧ ∃ r, d = iD r := by
    unfold G_Lrich f_Lrich b_Lrich
    dsimp only
    refine bodyP_ev (Ev.nx (ρ' := [some (.ro (iD c)), some (.ro (iD k)), some (.own (iD 0)), none]) (by simp [List.replicate, asgM, bindE, unroot_nil, unroot_ro, unroot_none]) (Ev.seq ?_))
    refine Ev.for (ds := rngD 0 12) (by simp [rng1, consA]) (fun ρ => ∃ (nu : Int) (x : Option B), NA x ∧ ρ = [some (.ro (iD c)), some (.ro (iD k)), some (.own (iD nu)), x]) ⟨0, none, (fun _ _ h => by cases h), rfl⟩ ?_ ?_
    · rintro d hd ρ ⟨nu, x, hx, rfl⟩
      obtain ⟨j, hj, rfl⟩ := mem_rng hd
      obtain ⟨m1, a1, a2, e1⟩ := mix_ok (K := K) (C := C) c (k + 20 * j) (by omega)
      obtain ⟨m2, b1, b2, e2⟩ := mix_ok (K := K) (C := C) m1 j (by omega)
      have z : (0 : Int) + j = j := Int.zero_add _
      rw [z]
      simp [Ev, unroot_na hx, e1, e2, addV, addD, asgM, bD, bindE, consA, dVar, intD, mvVar, op2, retF, CMul, unroot_nil, unroot_own, unroot_ro]
      exact (fun _ _ h => by cases h)
    · rintro ρ ⟨nu, x, hx, rfl⟩
      simp [Ev, bD, dVar, mvVar, VL.plain, retF]
  obtain ⟨d, e, r, rfl⟩ := key
  exact ⟨r, e⟩
theorem left_ok (cs : List Int) (k : Nat) (hk : k < 2 ^ 20) : ∃ l : List D, Lp l ∧ G_Lleft K C [scr cs, iD k] = some (.nd .lst l) := by
  obtain ⟨c, e1⟩ := cell_at_ok (K := K) (C := C) cs k
  obtain ⟨r, e2⟩ := rich_ok (K := K) (C := C) c k hk
  by_cases h : 1000000000000000000 ≤ c
  · refine ⟨[iD c, iD r], ⟨c, r, .inr rfl⟩, ?_⟩
    simp [G_Lleft, f_Lleft, b_Lleft, e1, e2, h, asgM, bD, bindE, bodyP, consA, consM, dVar, ifF, int0, intD, lstM, mvVar, op2, VL.plain, retF, seqF, thenF, CPow, unroot_nil, unroot_ro, unroot_none, sl2]
  · refine ⟨[iD r], ⟨r, 0, .inl rfl⟩, ?_⟩
    simp [G_Lleft, f_Lleft, b_Lleft, e1, e2, h, asgM, bD, bindE, bodyP, consA, consM, dVar, ifF, int0, intD, lstM, mvVar, op2, retF, seqF, thenF, CPow, unroot_nil, unroot_ro, unroot_none, sl1]
theorem pick_ok (l : List D) (hl : Lp l) (m : Int) (hm : 0 < m) (h2 : m < 2 ^ 200) : ∃ (d : Int) (l' : List D), 0 ≤ d ∧ d < m ∧ Lp l' ∧ G_Lpick K C [.nd .lst l, iD m] = some (iD d, [.nd .lst l']) := by
  obtain ⟨x, y, rfl | rfl⟩ := hl
  · exact ⟨_, _, Int.emod_nonneg _ (by omega), Int.emod_lt_of_pos _ hm, ⟨_, 0, .inl rfl⟩, pick1 x m hm h2⟩
  · obtain ⟨d, l, a, b, ⟨p, q, e⟩, g⟩ := pick2 (K := K) (C := C) x y m hm h2
    exact ⟨d, l, a, b, ⟨p, q, e⟩, g⟩
end K28
namespace K28
open PySem L2 VL
variable {K : W.Frag} {C : Addr} [ClsI K C]
theorem init_ok (nu ma : Int) (hn : ∀ f ∈ fns, NoAttr K C f) : G_Master_init K C [.nd (.obj C []) [], iD nu, iD ma] = some (.sc .non, [mD C nu ma 0 0 [] 0 "hears" (.nd (.dic []) []) (.nd (.dic []) [])]) := by
  have h : NoAttr K C "number" ∧ NoAttr K C "many" ∧ NoAttr K C "term" ∧ NoAttr K C "of" ∧ NoAttr K C "log" ∧ NoAttr K C "done" ∧ NoAttr K C "role" ∧ NoAttr K C "voices" ∧ NoAttr K C "sizes" ∧ NoAttr K C "fixed" := by
    simpa [fns] using hn
  obtain ⟨h1, h2, h3, h4, h5, h6, h7, h8, h9, h10⟩ := h
  simp [G_Master_init, f_Master_init, b_Master_init, h1, h2, h3, h4, h5, h6, h7, h8, h9, h10, mD, fns, sne_many_number, sne_term_number, sne_term_many, sne_of_number, sne_of_many, sne_of_term, sne_log_number, sne_log_many, sne_log_term, sne_log_of, sne_done_number, sne_done_many, sne_done_term, sne_done_of, sne_done_log, sne_role_number, sne_role_many, sne_role_term, sne_role_of, sne_role_log, sne_role_done, sne_voices_number, sne_voices_many, sne_voices_term, sne_voices_of, sne_voices_log, sne_voices_done, sne_voices_role, sne_sizes_number, sne_sizes_many, sne_sizes_term, sne_sizes_of, sne_sizes_log, sne_sizes_done, sne_sizes_role, sne_sizes_voices, sne_fixed_number, sne_fixed_many, sne_fixed_term, sne_fixed_of, sne_fixed_log, sne_fixed_done, sne_fixed_role, sne_fixed_voices, sne_fixed_sizes, allOwn, bD, bodyI, dVar, editE, envI, fldF, fldPut, getP, ioL, lstM, mvVar, nodeAt, owns, parB, plVar, VL.plain, posF, prune, pruneB, rootD, seqF, setP, thenF]
theorem fields_ok (nu ma te o : Int) (L : List D) (dn : Int) (role : Str) (vo si : D) (hL : Rws L) : G_Lfields K C [mD C nu ma te o L dn role vo si] = some (fD nu ma te o L dn role) := by
  have hp := hL.plain
  unfold fD
  simp [G_Lfields, f_Lfields, b_Lfields, mD, fns, hp, sne_many_number, sne_term_number, sne_term_many, sne_of_number, sne_of_many, sne_of_term, sne_log_number, sne_log_many, sne_log_term, sne_log_of, sne_done_number, sne_done_many, sne_done_term, sne_done_of, sne_done_log, sne_role_number, sne_role_many, sne_role_term, sne_role_of, sne_role_log, sne_role_done, bD, bodyP, consA, consM, dVar, fldD, fldI, kidD, listD, VL.plain, plainM, posF, retF, tupM, sl7]
theorem next_ok (nu ma te o : Int) (L : List D) (dn : Int) (role : Str) (vo si : D) (hm : 0 < ma) : G_next_term K C [mD C nu ma te o L dn role vo si] = some (iD (nxt nu ma te)) := by
  simp [G_next_term, f_next_term, b_next_term, mD, fns, sne_many_number, sne_term_number, sne_term_many, hm, nxt, addD, asgM, bD, bindE, bodyP, dVar, fldD, fldI, int0, intD, kidD, op2, posF, retF, seqF, thenF, unroot_nil, unroot_ro, unroot_none]
theorem most_ok (nu ma te o : Int) (L : List D) (dn n : Int) (role : Str) (vo si : D) : G_is_most K C [mD C nu ma te o L dn role vo si, iD n] = some (tD (decide (ma < 2 * n))) := by
  simp [G_is_most, f_is_most, b_is_most, mD, fns, sne_many_number, bD, bodyP, dVar, fldD, fldI, int0, intD, kidD, op2, posF, retF, CMul]
theorem rank_ok (o : Int) (L : List D) : G_rank_of_voice K C [.nd .tup [iD o, .nd .tup L]] = some (.nd .tup [iD o, iD L.length]) := by
  simp [G_rank_of_voice, f_rank_of_voice, b_rank_of_voice, bD, bodyP, consA, consM, dVar, dkPos, ixD, ixN, ixS, ixU, ixV, keyOf, kidD, lenD, op2, VL.plain, plainM, retF, tupM, sl2]
theorem isf_row {r : D} (h : RowD r) : H_is_fixed K C 2 [r] = some (tD true) := by
  cases h <;> simp [lcF, H_is_fixed, f_is_fixed, b_is_fixed, isiB, compD, allD, bD, bindE, blsOf, bodyP, capE, consA, dVar, ifF, isiB, isiD, isiTD, itemsD, ndQ, VL.plain, plainM, retF, seqF, thenF, tyN, tysOf, clNames, unroot_nil, unroot_none, sl2, sl3]
theorem bls_true : ∀ (L : List D), blsOf (L.map fun _ => tD true) = some (L.map fun _ => true)
  | [] => by simp [blsOf]
  | _ :: L => by
    rw [List.map_cons, List.map_cons, blsOf, bls_true L]
    rfl
theorem all_true (L : List D) : allD [.nd .lst (L.map fun _ => tD true)] = some (tD true) := by
  simp only [allD, bls_true]
  simp
theorem isf_lc (L : List D) (hL : Rws L) (h : L.length ≤ 100) : lcF 1 [none] [0] (fun ρ => (dVar 0 ρ).bind itemsD) (fun d ρ => some (bindE 0 (B.ro d) ρ)) (fun x => some true) (fun ρ => (consA (dVar 0) (fun x => some []) ρ).bind fun ds => if ds.length = 1 then H_is_fixed K C 2 ds else none) [some (.ro (.nd .tup L))] = some (.nd .lst (L.map fun _ => tD true)) := by
  have h3 : L.length ≤ sizeLine := Nat.le_trans h (by decide)
  rw [lcF_map (n := 1) (js := [none]) (is := [0]) (fi := fun ρ => (dVar 0 ρ).bind itemsD) (fg := fun d ρ => some (bindE 0 (B.ro d) ρ)) (ft := fun x => some true) (fe := fun ρ => (consA (dVar 0) (fun x => some []) ρ).bind fun ds => if ds.length = 1 then H_is_fixed K C 2 ds else none) (ρ := [some (.ro (.nd .tup L))]) L id (fun _ => true) (fun _ => tD true) ?_ h3 rfl ?_, List.filter_eq_self.mpr (fun _ _ => rfl)]
  · simp [bD, dVar, itemsD]
  · intro r hr
    have hr := isf_row (K := K) (C := C) (hL r hr)
    simp [hr, bD, bindE, capE, consA, dVar, unroot_nil, unroot_none]
theorem isf_ok (L : List D) (hL : Rws L) (h : L.length ≤ 100) : G_is_fixed K C [.nd .tup L] = some (tD true) := by
  have e := isf_lc (K := K) (C := C) L hL h
  have e2 := all_true L
  unfold G_is_fixed
  show bodyP _ (f_is_fixed K C (H_is_fixed K C 2)) _ = _
  unfold f_is_fixed b_is_fixed
  dsimp only
  generalize (lcF 1 [none] [0] (fun ρ => (dVar 0 ρ).bind itemsD) (fun d ρ => some (bindE 0 (B.ro d) ρ)) (fun x => some true) (fun ρ => (consA (dVar 0) (fun x => some []) ρ).bind fun ds => if ds.length = 1 then H_is_fixed K C 2 ds else none)) = F at e ⊢
  simp [e, e2, isiB, bD, bodyP, consA, dVar, ifF, isiB, isiD, ndQ, retF, seqF, thenF, tyN, clNames, sl2]
theorem behind_ok (nu ma te o : Int) (L R : List D) (dn : Int) (role : Str) (vo si : D) (hL : Rws L) (hR : Rws R) (h : L.length + R.length ≤ 100) : G_take_behind K C [mD C nu ma te o L dn role vo si, .nd .tup R] = some (.sc .non, [mD C nu ma te o (L ++ R) dn role vo si]) := by
  have hf := isf_ok (K := K) (C := C) R hR (by omega)
  have h3 : L.length + R.length ≤ sizeLine := Nat.le_trans h (by decide)
  have p1 := hL.plain
  have p2 := hR.plain
  have p3 := (hL.app hR).plain
  simp [G_take_behind, f_take_behind, b_take_behind, mD, fns, sne_log_number, sne_log_many, sne_log_term, sne_log_of, sne_fixed_number, sne_fixed_many, sne_fixed_term, sne_fixed_of, sne_fixed_log, sne_fixed_done, sne_fixed_role, sne_fixed_voices, sne_fixed_sizes, hf, p2, p3, h3, addD, allOwn, asgM, bD, bindE, bodyI, consA, dVar, editE, envI, fldD, fldF, fldI, fldPut, getP, ifV, ioL, kidD, listD, nodeAt, op2, owns, parB, plVar, VL.plain, plainM, posF, prune, pruneB, rootD, seqF, setP, thenF, unroot_nil, unroot_own, unroot_ro, unroot_none, unroot_ali]
theorem cut_all (L : List D) : cutD L none (some (L.length : Int)) = L := by
  have hk : ¬ ((L.length : Int) < 0) := by omega
  unfold cutD
  simp [HT.sIx, hk]
theorem cut_end (L : List D) : cutD L (some (L.length : Int)) none = [] := by
  have hk : ¬ ((L.length : Int) < 0) := by omega
  unfold cutD
  simp [HT.sIx, hk]
theorem rows_same (nu ma te o : Int) (L : List D) (dn : Int) (role : Str) (vo si : D) (hL : Rws L) (h : L.length ≤ 100) : G_take_rows K C [mD C nu ma te o L dn role vo si, .nd .tup L] = some (.sc .non, [mD C nu ma te o L dn role vo si]) := by
  have c1 := cut_all L
  have c2 := cut_end L
  have hne : eqP (!·) (.nd .tup L) (.nd .tup L) = some (tD false) := ne_same (hL.gd.tup.mono (by decide))
  have hb := behind_ok (K := K) (C := C) nu ma te o L [] dn role vo si hL Rws.nil (by simpa using h)
  have h3 : L.length ≤ sizeLine := Nat.le_trans h (by decide)
  have p1 := hL.plain
  rw [List.append_nil] at hb
  simp only [mD, fns] at hb ⊢
  simp [G_take_rows, f_take_rows, b_take_rows, sne_log_number, sne_log_many, sne_log_term, sne_log_of, p1, c1, c2, hne, hb, allOwn, apartP, arD, arDs, arIos, asgM, bD, bindE, bodyI, cIo, cTm, callR, consA, dVar, dropF, editE, envI, finE, fldD, fldF, fldI, fldPut, getP, holeE, ifF, ioL, kidD, lenD, lstM, nodeAt, op2, owns, parB, plVar, posF, prune, pruneB, putE, rootD, rootsApart, rvOk, seqF, setP, slD, slF, thenF, toInt, tupD, unroot_nil, unroot_own, unroot_ro, unroot_none, unroot_ali]
theorem others_ok (nu te o : Int) (m : Nat) (L : List D) (dn : Int) (role : Str) (vo si : D) (hm : m < 100) : G_others K C [mD C nu m te o L dn role vo si] = some (.nd .lst ((oth nu m).map fun i : Nat => D.sc (.int (i : Int)))) := by
  have h3 : m ≤ sizeLine := Nat.le_trans (Nat.le_of_lt hm) (by decide)
  unfold G_others f_others b_others oth
  dsimp only
  refine bodyP_rt (ρ' := [some (.ro (mD C nu m te o L dn role vo si))]) (retF_ok (map_ok (ρ := [some (.ro (mD C nu m te o L dn role vo si))]) (lcF_map (List.range m) (fun i : Nat => D.sc (.int (i : Int))) (fun i : Nat => decide ((i : Int) ≠ nu)) (fun i : Nat => D.sc (.int (i : Int))) ?_ ?_ ?_ ?_)))
  · have e : (consA (fun ρ => (dVar 0 ρ).bind (fldD (Str.ofString "many"))) (fun x => some []) (List.map (fun d => some (B.ro d)) [mD C nu (↑m) te o L dn role vo si] ++ List.replicate (1 - [mD C nu (↑m) te o L dn role vo si].length) none)) = some [iD m] := by simp [mD, fns, sne_many_number, bD, consA, dVar, fldD, fldI, kidD, posF]
    exact Option.bind_eq_some_iff.mpr ⟨_, e, by rw [rng1_ok m hm, rngD_eq]⟩
  · rw [List.length_range]; exact h3
  · rfl
  · intro i hi
    simp [mD, fns, ne0, bD, bindE, capE, dVar, fldD, fldI, kidD, op2, VL.plain, plainQ, posF, unroot_nil, unroot_ro, unroot_none]
end K28
namespace K28
open PySem L2 VL
variable {K : W.Frag} {C : Addr} [ClsI K C]
def vcD (p : Int) (R : List D) : D := .nd .tup [.sc (.int p), .nd .tup R]
def vsD (p : Int) (R : List D) (n : Nat) : List D := vcD 0 [] :: List.replicate n (vcD p R)
theorem vc_plain {p : Int} {R : List D} (hR : Rws R) : VL.plain (vcD p R) = true := by
  have := hR.plain
  simp [vcD, VL.plain, VL.plainL, this]
theorem vs_plain {p : Int} {R : List D} (hR : Rws R) (n : Nat) : VL.plainL (vsD p R n) = true := plainL_of fun d hd => by
  rcases List.mem_cons.mp hd with rfl | hd
  · exact vc_plain Rws.nil
  · rw [(List.mem_replicate.mp hd).2]; exact vc_plain hR
theorem vs_app (p : Int) (R : List D) (n : Nat) : vsD p R n ++ [vcD p R] = vsD p R (n + 1) := by
  unfold vsD
  rw [List.cons_append, ← List.replicate_succ']
theorem vs_len (p : Int) (R : List D) (n : Nat) : (vsD p R n).length = n + 1 := by simp [vsD]
theorem rank_vc (p : Int) (R : List D) : G_rank_of_voice K C [vcD p R] = some (.nd .tup [iD p, iD R.length]) := rank_ok p R
theorem max_go (p : Int) (R : List D) : ∀ n : Nat, maxGoD (G_rank_of_voice K C) (List.replicate n (vcD p R)) (vcD p R) (p, (R.length : Int)) = some (vcD p R)
  | 0 => rfl
  | n + 1 => by
    rw [List.replicate_succ, maxGoD, rank_vc]
    have e : gt2 p R.length p R.length = false := by
      unfold gt2
      rw [if_pos rfl, decide_eq_false (by omega)]
    have ih := max_go p R n
    simp [pairI, e, ih]
theorem max_vs (p : Int) (R : List D) (n : Nat) (hR : Rws R) (hp : 0 < p ∨ (p = 0 ∧ R = [])) : maxKD (G_rank_of_voice K C) [.nd .lst (vsD p R (n + 1))] = some (vcD p R) := by
  have hpl := vs_plain (p := p) hR (n + 1)
  unfold vsD at hpl ⊢
  rw [maxKD, if_pos hpl, rank_vc, Option.bind_some]
  rcases hp with hp | ⟨rfl, rfl⟩
  · rw [show pairI (D.nd Kd.tup [iD 0, iD ((([] : List D).length : Nat) : Int)]) = some (0, 0) from rfl, Option.bind_some, List.replicate_succ, maxGoD, rank_vc]
    have e : gt2 p R.length 0 0 = true := by
      unfold gt2
      rw [if_neg (by omega), decide_eq_true (by omega)]
    have ih := max_go (K := K) (C := C) p R n
    simp [pairI, e, ih]
  · exact max_go 0 [] (n + 1)
theorem cut0 (R : List D) : cutD R (some 0) none = R := by
  unfold cutD
  simp [HT.sIx]
theorem cut00 (R : List D) : cutD R none (some 0) = [] := by
  unfold cutD
  simp [HT.sIx]
theorem rows_nil (nu ma te o : Int) (R : List D) (dn : Int) (role : Str) (vo si : D) (hR : Rws R) (h : R.length ≤ 100) : G_take_rows K C [mD C nu ma te o [] dn role vo si, .nd .tup R] = some (.sc .non, [mD C nu ma te o R dn role vo si]) := by
  have c1 := cut00 R
  have c2 := cut0 R
  have hne := ne_nil
  have hb := behind_ok (K := K) (C := C) nu ma te o [] R dn role vo si Rws.nil hR (by simpa using h)
  have h3 : R.length ≤ sizeLine := Nat.le_trans h (by decide)
  have p1 := hR.plain
  rw [List.nil_append] at hb
  simp only [mD, fns] at hb ⊢
  simp [G_take_rows, f_take_rows, b_take_rows, sne_log_number, sne_log_many, sne_log_term, sne_log_of, p1, c1, c2, hne, hb, allOwn, apartP, arD, arDs, arIos, asgM, bD, bindE, bodyI, cIo, cTm, callR, consA, dVar, dropF, editE, envI, finE, fldD, fldF, fldI, fldPut, getP, holeE, ifF, ioL, kidD, lenD, lstM, nodeAt, op2, owns, parB, plVar, plainL, posF, prune, pruneB, putE, rootD, rootsApart, rvOk, seqF, setP, slD, slF, thenF, toInt, tupD, unroot_nil, unroot_own, unroot_ro, unroot_none, unroot_ali]
theorem lead_no (nu te o : Int) (m n : Nat) (L : List D) (dn : Int) (role : Str) (vo si : D) (hl : lenD [vo] = some (iD n)) (h : ¬ (m : Int) < 2 * n) : G_lead_by_voices K C [mD C nu m te o L dn role vo si] = some (.sc .non, [mD C nu m te o L dn role vo si]) := by
  have hb := most_ok (K := K) (C := C) nu m te o L dn n role vo si
  rw [decide_eq_false h] at hb
  simp only [mD, fns] at hb ⊢
  simp [G_lead_by_voices, f_lead_by_voices, b_lead_by_voices, hb, hl, sne_voices_number, sne_voices_many, sne_voices_term, sne_voices_of, sne_voices_log, sne_voices_done, sne_voices_role, allOwn, bD, bodyI, cIo, cRv, callR, consA, dVar, dkPos, envI, finE, fldD, fldI, getP, ifF, ioL, ixD, ixN, ixP, ixU, keyOf, kidD, owns, parB, plD, plVar, posF, prune, rootD, rootsApart, rvOk, seqF, thenF]
theorem lead_yes (nu te o p : Int) (m N : Nat) (R : List D) (dn : Int) (role : Str) (W V si : D) (hR : Rws R) (hz : R.length ≤ 100) (hl : lenD [W] = some (iD N)) (hv : valsD W = some V) (hm : maxKD (G_rank_of_voice K C) [V] = some (vcD p R)) (h : (m : Int) < 2 * N) :
    G_lead_by_voices K C [mD C nu m te o [] dn role W si] = some (.sc .non, [mD C nu m te te R dn "leads" W (.nd (.dic []) [])]) := by
  have hb := most_ok (K := K) (C := C) nu m te o [] dn N role W si
  have hr := rows_nil (K := K) (C := C) nu m te o R dn role W si hR hz
  rw [decide_eq_true h] at hb
  have hp := hR.plain
  simp only [mD, fns, vcD] at hb hm hr ⊢
  simp [G_lead_by_voices, f_lead_by_voices, b_lead_by_voices, hb, hl, hv, hm, hr, hp, sne_term_number, sne_term_many, sne_of_number, sne_of_many, sne_of_term, sne_role_number, sne_role_many, sne_role_term, sne_role_of, sne_role_log, sne_role_done, sne_voices_number, sne_voices_many, sne_voices_term, sne_voices_of, sne_voices_log, sne_voices_done, sne_voices_role, sne_sizes_number, sne_sizes_many, sne_sizes_term, sne_sizes_of, sne_sizes_log, sne_sizes_done, sne_sizes_role, sne_sizes_voices, allOwn, apartP, arD, arDs, arIos, asgM, bD, bindE, bodyI, cIo, cRv, callR, consA, dVar, dkPos, dropF, editE, envI, finE, fldD, fldF, fldI, fldPut, getP, holeE, ifF, ioL, ixD, ixN, ixP, ixU, keyOf, kidD, nodeAt, owns, parB, plD, plKid, plVar, VL.plain, plainL, plainM, posF, prune, pruneB, putE, rootD, rootsApart, rvOk, seqF, setP, thenF, unroot_nil, unroot_own, unroot_none, unroot_ali]
theorem vals_vs (ks : List Key) (p : Int) (R : List D) (n : Nat) (hR : Rws R) : valsD (.nd (.dic ks) (vsD p R n)) = some (.nd .lst (vsD p R n)) := by
  have hp := vs_plain (p := p) hR n
  simp [valsD, hp]
theorem rise_ok (nu te o o' : Int) (m : Nat) (dn : Int) (role role' : Str) (vo si si' : D) (L : List D) (hL : Rws L) (hz : L.length ≤ 100) (h0 : 0 < m) (hm : m < 100) (L' : List D)
    (hl : G_lead_by_voices K C [mD C nu m (nxt nu m te) o L dn "stands" (.nd (.dic [.inl nu]) [vcD o L]) si] = some (.sc .non, [mD C nu m (nxt nu m te) o' L' dn role' (.nd (.dic [.inl nu]) [vcD o L]) si'])) :
    ∃ ans, G_Master_rise K C [mD C nu m te o L dn role vo si] = some (ans, [mD C nu m (nxt nu m te) o' L' dn role' (.nd (.dic [.inl nu]) [vcD o L]) si']) := by
  have h0' : (0 : Int) < m := by omega
  have h3 : (oth nu m).length ≤ sizeLine := by
    unfold oth
    exact Nat.le_trans (List.length_filter_le _ _) (by rw [List.length_range]; exact Nat.le_trans (Nat.le_of_lt hm) (by decide))
  have hn := next_ok (K := K) (C := C) nu m te o L dn role vo si h0'
  have ho := others_ok (K := K) (C := C) nu (nxt nu m te) o' m L' dn role' (.nd (.dic [.inl nu]) [vcD o L]) si' hm
  have hp := hL.plain
  have hz' : L.length ≤ sizeLine := Nat.le_trans hz (by decide)
  unfold G_Master_rise f_Master_rise b_Master_rise
  dsimp only
  refine ⟨_, bodyI_rt (ρ' := [some (.ali 1 []), some (.own (mD C nu m (nxt nu m te) o' L' dn role' (.nd (.dic [.inl nu]) [vcD o L]) si'))]) (seqF_nx (ρ' := [some (.ali 1 []), some (.own (mD C nu m (nxt nu m te) o L dn role vo si))]) ?_ (seqF_nx (ρ' := [some (.ali 1 []), some (.own (mD C nu m (nxt nu m te) o L dn "stands" vo si))]) ?_ (seqF_nx (ρ' := [some (.ali 1 []), some (.own (mD C nu m (nxt nu m te) o L dn "stands" (.nd (.dic [.inl nu]) [vcD o L]) si))]) ?_
    (seqF_nx (ρ' := [some (.ali 1 []), some (.own (mD C nu m (nxt nu m te) o' L' dn role' (.nd (.dic [.inl nu]) [vcD o L]) si'))]) ?_ (retF_ok (map_ok (lcF_map (oth nu m) (fun i : Nat => D.sc (.int (i : Int))) (fun _ => true) (fun i : Nat => D.nd .tup [.sc (.str "stand"), .sc (.int nu), .sc (.int (i : Int)), .sc (.int (nxt nu m te))]) ?_ h3 ?_ ?_))))))) ?_⟩
  · simp only [mD, fns] at hn ⊢
    simp [hn, sne_term_number, sne_term_many, bD, consA, dVar, editE, envI, fldF, fldPut, getP, ioL, nodeAt, owns, parB, plVar, posF, prune, pruneB, rootD, setP]
  · simp [mD, fns, sne_role_number, sne_role_many, sne_role_term, sne_role_of, sne_role_log, sne_role_done, editE, fldF, fldPut, getP, nodeAt, plVar, posF, prune, pruneB, rootD, setP]
  · simp [mD, fns, vcD, hp, sne_of_number, sne_of_many, sne_of_term, sne_log_number, sne_log_many, sne_log_term, sne_log_of, sne_voices_number, sne_voices_many, sne_voices_term, sne_voices_of, sne_voices_log, sne_voices_done, sne_voices_role, bD, consA, dVar, disp1, editE, fldD, fldF, fldI, fldPut, getP, keyOf, kidD, ndQ, nodeAt, plVar, VL.plain, plainQ, posF, prune, pruneB, rootD, setP, tupD, sl2]
  · simp only [mD, fns] at hl ⊢
    simp [hl, apartP, arD, arDs, arIos, cIo, callR, dropF, finE, getP, holeE, plVar, prune, pruneB, putE, rootD, rootsApart, rvOk, setP]
  · refine Option.bind_eq_some_iff.mpr ⟨.nd .lst ((oth nu m).map fun i : Nat => D.sc (.int (i : Int))), Option.bind_eq_some_iff.mpr ⟨[mD C nu m (nxt nu m te) o' L' dn role' (.nd (.dic [.inl nu]) [vcD o L]) si'], ?_, ?_⟩, rfl⟩
    · clear ho hl hn
      simp [bD, consA, dVar, getP, rootD]
    · exact (if_pos rfl).trans ho
  · rfl
  · intro i hi
    simp [mD, fns, sne_term_number, sne_term_many, bD, bindE, capE, consA, dVar, fldD, fldI, getP, kidD, ndQ, VL.plain, plainQ, posF, rootD, unroot_nil, unroot_ro, unroot_none, sl4]
  · rfl
end K28
namespace K28
open PySem L2 VL
variable {K : W.Frag} {C : Addr} [ClsI K C]
theorem copy_row {r : D} (h : RowD r) : H_own_copy K C 2 [r] = some r := by
  cases h <;> simp [lcF, H_own_copy, f_own_copy, b_own_copy, isiB, compD, bD, bindE, bodyP, capE, consA, dVar, ifF, isiB, isiD, itemsD, mvVar, VL.plain, plainL, retF, seqF, thenF, tupD, tyN, clNames, unroot_nil, unroot_none, sl2, sl3]
theorem copy_ok (R : List D) (hR : Rws R) (h : R.length ≤ 100) : G_own_copy K C [.nd .tup R] = some (.nd .tup R) := by
  have h3 : R.length ≤ sizeLine := Nat.le_trans h (by decide)
  have e : lcF 1 [none] [0] (fun ρ => (dVar 0 ρ).bind itemsD) (fun d ρ => some (bindE 0 (B.ro d) ρ)) (fun x => some true) (fun ρ => (consA (dVar 0) (fun x => some []) ρ).bind fun ds => if ds.length = 1 then H_own_copy K C 2 ds else none) [some (.ro (.nd .tup R))] = some (.nd .lst R) := by
    have e := lcF_map (n := 1) (js := [none]) (is := [0]) (fi := fun ρ => (dVar 0 ρ).bind itemsD) (fg := fun d ρ => some (bindE 0 (B.ro d) ρ)) (ft := fun x => some true) (fe := fun ρ => (consA (dVar 0) (fun x => some []) ρ).bind fun ds => if ds.length = 1 then H_own_copy K C 2 ds else none) (ρ := [some (.ro (.nd .tup R))]) R id (fun _ => true) id ?_ h3 rfl ?_
    · rw [List.filter_eq_self.mpr (fun _ _ => rfl), List.map_id] at e
      exact e
    · simp [bD, dVar, itemsD]
    · intro r hr
      have hr := copy_row (K := K) (C := C) (hR r hr)
      simp [hr, bD, bindE, capE, consA, dVar, unroot_nil, unroot_none]
  have hp := hR.plain
  unfold G_own_copy
  show bodyP _ (f_own_copy K C (H_own_copy K C 2)) _ = _
  unfold f_own_copy b_own_copy
  dsimp only
  generalize (lcF 1 [none] [0] (fun ρ => (dVar 0 ρ).bind itemsD) (fun d ρ => some (bindE 0 (B.ro d) ρ)) (fun x => some true) (fun ρ => (consA (dVar 0) (fun x => some []) ρ).bind fun ds => if ds.length = 1 then H_own_copy K C 2 ds else none)) = F at e ⊢
  simp [e, hp, isiB, bD, bodyP, consA, dVar, ifF, isiB, isiD, retF, seqF, thenF, tupD, tyN, clNames]
theorem put_new (ks : List Key) (cs : List D) (sn : Int) (v : D) (hn : ks.Nodup) (hz : cs.length ≤ 100) (e : posK (.inl sn : Key) ks = none) : dPut (.dic ks) cs (.sc (.int sn)) v = some (.nd (.dic (ks ++ [.inl sn])) (cs ++ [v])) := by
  have h3 : cs.length < sizeLine := Nat.lt_of_le_of_lt hz (by decide)
  simp [dPut, keyOf, e, h3, hn]
theorem voice_yes (nu ma te o sn p : Int) (R : List D) (hR : Rws R) (hz : R.length ≤ 100) (L : List D) (dn : Int) (ks ks' : List Key) (cs cs' : List D) (si x : D) (hp : dPut (.dic ks) cs (.sc (.int sn)) (vcD p R) = some (.nd (.dic ks') cs'))
    (hl : G_lead_by_voices K C [mD C nu ma te o L dn "stands" (.nd (.dic ks') cs') si] = some (.sc .non, [x])) : G_hear_voice K C [mD C nu ma te o L dn "stands" (.nd (.dic ks) cs) si, iD sn, iD te, iD p, .nd .tup R] = some (.nd .lst [], [x]) := by
  have he := eqS "stands" "stands" (by decide +kernel) (by decide +kernel)
  have hc := copy_ok (K := K) (C := C) R hR hz
  have pl := hR.plain
  rw [decide_eq_true rfl] at he
  generalize (D.nd (.dic ks') cs') = W at *
  simp only [mD, fns, vcD] at hl hp ⊢
  simp [G_hear_voice, f_hear_voice, b_hear_voice, he, eq0, hc, hp, hl, sne_term_number, sne_term_many, sne_role_number, sne_role_many, sne_role_term, sne_role_of, sne_role_log, sne_role_done, sne_voices_number, sne_voices_many, sne_voices_term, sne_voices_of, sne_voices_log, sne_voices_done, sne_voices_role, allOwn, andT, apartP, arD, arDs, arIos, bD, bodyI, cIo, callR, consA, dVar, dputF, dropF, editE, envI, finE, fldD, fldI, fldP, getP, holeE, ifF, imm, ioL, kidD, lstM, inPair, mvVar, nodeAt, op2, owns, parB, plD, plKid, plVar, VL.plain, plainL, posF, prune, pruneB, putE, retF, rootD, rootsApart, rvOk, seqF, setP, thenF]
theorem hear_v (M : D) (nu te sn p : Int) (R : List D) (hR : Rws R) (x : D) (hv : G_hear_voice K C [M, iD sn, iD te, iD p, .nd .tup R] = some (.nd .lst [], [x])) : G_Master_hear K C [M, .nd .tup [sD "voice", iD sn, iD nu, iD te, iD p, .nd .tup R]] = some (.nd .lst [], [x]) := by
  have h1 := eqS "voice" "stand" (by decide +kernel) (by decide +kernel)
  have h2 := eqS "voice" "voice" (by decide +kernel) (by decide +kernel)
  have d1 : decide (Str.ofString "voice" = Str.ofString "stand") = false := by decide +kernel
  have pl := hR.plain
  rw [d1] at h1
  rw [decide_eq_true rfl] at h2
  simp [G_Master_hear, f_Master_hear, b_Master_hear, h1, h2, hv, pl, allOwn, apartP, arD, arDs, arIos, bD, bodyI, cIo, cRv, callR, dVar, dkPos, envI, finE, getP, holeE, ifF, ioL, ixD, ixN, ixP, ixS, ixU, ixV, keyOf, kidD, op2, owns, parB, plD, plKid, plVar, VL.plain, prune, pruneB, putE, retF, rootD, rootsApart, rvOk, seqF, setP, thenF]
theorem hear_k (M : D) (nu t sn z : Int) (x : D) (hv : G_hear_kept K C [M, iD sn, iD t, iD z] = some (.nd .lst [], [x])) : G_Master_hear K C [M, .nd .tup [sD "kept", iD sn, iD nu, iD t, iD z]] = some (.nd .lst [], [x]) := by
  have h1 := eqS "kept" "stand" (by decide +kernel) (by decide +kernel)
  have h2 := eqS "kept" "voice" (by decide +kernel) (by decide +kernel)
  have h3 := eqS "kept" "keep" (by decide +kernel) (by decide +kernel)
  have d1 : decide (Str.ofString "kept" = Str.ofString "stand") = false := by decide +kernel
  have d2 : decide (Str.ofString "kept" = Str.ofString "voice") = false := by decide +kernel
  have d3 : decide (Str.ofString "kept" = Str.ofString "keep") = false := by decide +kernel
  rw [d1] at h1
  rw [d2] at h2
  rw [d3] at h3
  simp [G_Master_hear, f_Master_hear, b_Master_hear, h1, h2, h3, hv, allOwn, apartP, arD, arDs, arIos, bD, bodyI, cIo, cRv, callR, dVar, dkPos, envI, finE, getP, holeE, ifF, ioL, ixD, ixN, ixP, ixS, ixU, ixV, keyOf, kidD, op2, owns, parB, plD, plKid, plVar, VL.plain, prune, pruneB, putE, retF, rootD, rootsApart, rvOk, seqF, setP, thenF]
end K28
namespace K28
open PySem L2 VL
variable {K : W.Frag} {C : Addr} [ClsI K C]
theorem bodyI_nx {n : Nat} {mask : List Bool} {f : En → Option Fl} {ds o : List D} {ρ' : En} (h : f (envI n mask ds) = some (.nx ρ')) (ho : allOwn (ρ'.drop n) = some o) : bodyI n mask f ds = some (.sc .non, o) := by
  unfold bodyI
  rw [h]
  show (allOwn (ρ'.drop n)).map _ = _
  rw [ho]
  rfl
theorem asgM_ok {i : Nat} {f : En → Option (D × En)} {ρ ρ1 ρ' : En} {d : D} (h : f ρ = some (d, ρ1)) (e : bindE i (.own d) ρ1 = ρ') : asgM i f ρ = some (.nx ρ') := by
  unfold asgM
  rw [h, ← e]
  rfl
def kmsg (nu te : Int) (L : List D) (dn : Int) (i : Nat) : D := .nd .tup [.sc (.str "keep"), .sc (.int nu), .sc (.int (i : Int)), .sc (.int te), .nd .tup L, .sc (.int dn)]
def kmsgs (nu te : Int) (m : Nat) (L : List D) (dn : Int) : List D := (oth nu m).map (kmsg nu te L dn)
theorem oth_len (nu : Int) (m : Nat) : (oth nu m).length ≤ m := by
  unfold oth
  exact Nat.le_trans (List.length_filter_le _ _) (by rw [List.length_range]; exact Nat.le_refl _)
theorem neL (role : Str) (h : PyData.strOk role = true) : eqP (!·) (.sc (.str role)) (.sc (.str "leads")) = some (.sc (.bl (decide (role ≠ "leads")))) := neS _ _ h (by decide +kernel)
theorem rtold_ok (nu ma te o : Int) (L : List D) (dn : Int) (role : Str) (vo si : D) (hL : Rws L) (hz : L.length ≤ 100) : G_rows_told K C [mD C nu ma te o L dn role vo si] = some (.nd .tup L) := by
  have hp := hL.plain
  simp [G_rows_told, f_rows_told, b_rows_told, mD, fns, hp, sne_log_number, sne_log_many, sne_log_term, sne_log_of, sne_fixed_number, sne_fixed_many, sne_fixed_term, sne_fixed_of, sne_fixed_log, sne_fixed_done, sne_fixed_role, sne_fixed_voices, sne_fixed_sizes, asgM, bD, bindE, bodyP, consA, dVar, fldD, fldI, ifV, kidD, VL.plain, plainM, posF, retF, seqF, thenF, tupD, unroot_nil, unroot_ro, unroot_none]
theorem send_yes (nu te o : Int) (m : Nat) (L : List D) (dn : Int) (vo si : D) (hL : Rws L) (hz : L.length ≤ 100) (hm : m < 100) : G_Master_send K C [mD C nu m te o L dn "leads" vo si] = some (.nd .lst (kmsgs nu te m L dn)) := by
  have he := neL "leads" (by decide +kernel)
  rw [decide_eq_false (fun z => z rfl)] at he
  have ho := others_ok (K := K) (C := C) nu te o m L dn "leads" vo si hm
  have hr := rtold_ok (K := K) (C := C) nu m te o L dn "leads" vo si hL hz
  have h3 : (oth nu m).length ≤ sizeLine := Nat.le_trans (oth_len nu m) (Nat.le_trans (Nat.le_of_lt hm) (by decide))
  rw [show kmsgs nu te m L dn = ((oth nu m).filter fun _ => true).map (kmsg nu te L dn) from by unfold kmsgs; rw [List.filter_eq_self.mpr (fun _ _ => rfl)]]
  unfold G_Master_send f_Master_send b_Master_send
  dsimp only
  refine bodyP_rt (ρ' := [some (.ro (mD C nu m te o L dn "leads" vo si))]) (seqF_nx (ρ' := [some (.ro (mD C nu m te o L dn "leads" vo si))]) ?_ (retF_ok (map_ok (lcF_map (oth nu m) (fun i : Nat => D.sc (.int (i : Int))) (fun _ => true) (kmsg nu te L dn) ?_ h3 ?_ ?_))))
  · simp [mD, fns, he, sne_role_number, sne_role_many, sne_role_term, sne_role_of, sne_role_log, sne_role_done, bD, dVar, fldD, fldI, ifF, kidD, lstM, op2, posF, retF]
  · refine Option.bind_eq_some_iff.mpr ⟨.nd .lst ((oth nu m).map fun i : Nat => D.sc (.int (i : Int))), Option.bind_eq_some_iff.mpr ⟨[mD C nu m te o L dn "leads" vo si], ?_, ?_⟩, rfl⟩
    · simp [bD, consA, dVar]
    · exact (if_pos rfl).trans ho
  · rfl
  · intro i hi
    have f1 := fl_number (C := C) nu m te o L dn "leads" vo si
    have f2 := fl_term (C := C) nu m te o L dn "leads" vo si
    have f3 := fl_done (C := C) nu m te o L dn "leads" vo si
    generalize mD C nu m te o L dn "leads" vo si = M at *
    simp [kmsg, f1, f2, f3, hr, bD, bindE, capE, consA, dVar, ndQ, VL.plain, plainQ, unroot_nil, unroot_ro, unroot_none, sl6]
end K28
namespace K28
open PySem L2 VL
variable {K : W.Frag} {C : Addr} [ClsI K C]
def szD (S : List (Int × Int)) : D := .nd (.dic (S.map fun p => .inl p.1)) (S.map fun p => iD p.2)
def getS : List (Int × Int) → Int → Int
  | [], _ => 0
  | p :: S, i => if p.1 = i then p.2 else getS S i
theorem getS_at : ∀ (S : List (Int × Int)) (i : Int), (match posK (Sum.inl i : Key) (S.map fun p => (Sum.inl p.1 : Key)) with | some k => (S.map fun p => iD p.2)[k]? | none => some (iD 0)) = some (iD (getS S i))
  | [], _ => rfl
  | p :: S, i => by
    have ih := getS_at S i
    by_cases h : p.1 = i
    · simp [posK, getS, h]
    · have hk : ¬ (Sum.inl p.1 : Key) = Sum.inl i := fun z => h (Sum.inl.inj z)
      rw [List.map_cons, List.map_cons, posK, if_neg hk, getS, if_neg h]
      cases e : posK (Sum.inl i : Key) (S.map fun p => (Sum.inl p.1 : Key)) with
      | none => rw [e] at ih; exact ih
      | some k => rw [e] at ih; simpa using ih
theorem getS_ok (S : List (Int × Int)) (i : Int) : (dkPos (szD S) (iD i)).bind (fun | some k => kidD (szD S) k | none => some (iD 0)) = some (iD (getS S i)) := getS_at S i
theorem ints_map : ∀ (ns : List Int), intsOf (ns.map iD) = some ns
  | [] => rfl
  | n :: ns => by rw [List.map_cons, intsOf, ints_map ns]; rfl
theorem ints_plain (ns : List Int) : VL.plainL (ns.map iD) = true := plainL_of fun d hd => by
  obtain ⟨i, _, rfl⟩ := List.mem_map.mp hd
  rfl
def allS (nu : Int) (m : Nat) (S : List (Int × Int)) (n : Nat) : List Int := (oth nu m).map (fun i : Nat => getS S i) ++ [(n : Int)]
def most (m : Nat) (zs : List Int) (z : Int) : Bool := decide ((m : Int) < 2 * ((zs.filter fun x => decide (z ≤ x)).length : Nat))
theorem allS_len (nu : Int) (m : Nat) (S : List (Int × Int)) (n : Nat) : (allS nu m S n).length ≤ m + 1 := by
  unfold allS
  have := oth_len nu m
  simp
  omega
theorem count_ok (nu te o : Int) (m : Nat) (L : List D) (dn : Int) (role : Str) (vo : D) (S : List (Int × Int)) (hm : m < 90) :
    G_count_done K C [mD C nu m te o L dn role vo (szD S)] = some (.sc .non, [mD C nu m te o L (maxI dn ((allS nu m S L.length).filter (most m (allS nu m S L.length)))) role vo (szD S)]) := by
  have ho := others_ok (K := K) (C := C) nu te o m L dn role vo (szD S) (by omega)
  have hmo := fun n : Nat => most_ok (K := K) (C := C) nu m te o L dn n role vo (szD S)
  have h3 : (oth nu m).length ≤ sizeLine := Nat.le_trans (oth_len nu m) (Nat.le_trans (by omega : m ≤ 100) (by decide))
  have h4 : (oth nu m).length + 1 ≤ sizeLine := Nat.le_trans (Nat.succ_le_succ (oth_len nu m)) (Nat.le_trans (by omega : m + 1 ≤ 100) (by decide))
  have hzl := allS_len nu m S L.length
  have hzs : allS nu m S L.length = (oth nu m).map (fun i : Nat => getS S i) ++ [(L.length : Int)] := rfl
  have f1 := fl_sizes (C := C) nu m te o L dn role vo (szD S)
  have f2 := fl_log (C := C) nu m te o L dn role vo (szD S)
  have f3 := fl_done (C := C) nu m te o L dn role vo (szD S)
  have hg := fun i => getS_ok S i
  have pM := m_plain (C := C) nu m te o L dn role vo (szD S)
  have h5 : (allS nu m S L.length).length ≤ sizeLine := Nat.le_trans hzl (Nat.le_trans (by omega : m + 1 ≤ 100) (by decide))
  have hp1 := ints_plain ((oth nu m).map (fun i : Nat => getS S i) ++ [(L.length : Int)])
  have hin := ints_map (dn :: (allS nu m S L.length).filter (most m (allS nu m S L.length)))
  have hpl := ints_plain (dn :: (allS nu m S L.length).filter (most m (allS nu m S L.length)))
  have hln : ((allS nu m S L.length).filter (most m (allS nu m S L.length))).length + 1 ≤ sizeLine := Nat.le_trans (Nat.succ_le_succ (Nat.le_trans (List.length_filter_le _ _) hzl)) (Nat.le_trans (by omega : m + 1 + 1 ≤ 100) (by decide))
  generalize hA : allS nu m S L.length = zs at *
  unfold G_count_done f_count_done b_count_done
  dsimp only
  refine bodyI_nx (ρ' := [some (.ali 3 []), some (.own (.nd .lst (zs.map iD))), some (.own (.nd .lst ((zs.filter (most m zs)).map iD))), some (.own (mD C nu m te o L (maxI dn (zs.filter (most m zs))) role vo (szD S)))])
    (seqF_nx (ρ' := [some (.ali 3 []), some (.own (.nd .lst (zs.map iD))), none, some (.own (mD C nu m te o L dn role vo (szD S)))]) (asgM_ok (d := .nd .lst (zs.map iD)) (ρ1 := envI 3 [true] [mD C nu m te o L dn role vo (szD S)]) (map_ok ?_) ?_)
    (seqF_nx (ρ' := [some (.ali 3 []), some (.own (.nd .lst (zs.map iD))), some (.own (.nd .lst ((zs.filter (most m zs)).map iD))), some (.own (mD C nu m te o L dn role vo (szD S)))]) (asgM_ok (d := .nd .lst ((zs.filter (most m zs)).map iD)) (ρ1 := [some (.ali 3 []), some (.own (.nd .lst (zs.map iD))), none, some (.own (mD C nu m te o L dn role vo (szD S)))]) (map_ok (lcF_map zs iD (most m zs) iD ?_ h5 rfl ?_)) ?_) ?_)) ?_
  · refine Option.bind_eq_some_iff.mpr ⟨.nd .lst ((oth nu m).map fun i : Nat => iD (getS S i)), ?_, Option.bind_eq_some_iff.mpr ⟨.nd .lst [iD L.length], ?_, ?_⟩⟩
    · have e := lcF_map (n := 3) (js := [none, some 0]) (is := [0]) (fg := fun d ρ => some (bindE 0 (B.ro d) ρ)) (ft := fun x => some true) (fe := plainQ (dget2 (fun ρ => (dVar 1 ρ).bind (fldD (Str.ofString "sizes"))) (dVar 0) fun x => some (D.sc (V.int 0)))) (fi := fun ρ => ((consA (dVar 0) (fun x => some []) ρ).bind fun ds => if ds.length = 1 then G_others K C ds else none).bind itemsD) (ρ := envI 3 [true] [mD C nu m te o L dn role vo (szD S)]) (oth nu m) (fun i : Nat => D.sc (.int (i : Int))) (fun _ => true) (fun i : Nat => iD (getS S i)) ?_ h3 rfl ?_
      · rw [List.filter_eq_self.mpr (fun _ _ => rfl)] at e
        exact e
      · refine Option.bind_eq_some_iff.mpr ⟨.nd .lst ((oth nu m).map fun i : Nat => D.sc (.int (i : Int))), Option.bind_eq_some_iff.mpr ⟨[mD C nu m te o L dn role vo (szD S)], ?_, ?_⟩, rfl⟩
        · generalize mD C nu m te o L dn role vo (szD S) = M
          simp [bD, consA, dVar, envI, getP, ioL, owns, parB, rootD]
        · exact (if_pos rfl).trans ho
      · intro i _
        have hgi := hg i
        generalize mD C nu m te o L dn role vo (szD S) = M at *
        generalize szD S = W at *
        refine ⟨[some (.ro (iD i)), some (.ro M)], ?_, rfl, fun _ => ?_⟩
        · simp [bD, bindE, capE, dVar, envI, getP, ioL, owns, parB, rootD, unroot_nil, unroot_ro, unroot_none]
        · have e : dget2 (fun ρ => (dVar 1 ρ).bind (fldD (Str.ofString "sizes"))) (dVar 0) (fun x => some (D.sc (V.int 0))) [some (.ro (iD i)), some (.ro M)] = some (iD (getS S i)) := by
            unfold dget2
            refine Option.bind_eq_some_iff.mpr ⟨W, Option.bind_eq_some_iff.mpr ⟨M, rfl, f1⟩, ?_⟩
            exact hgi
          unfold plainQ
          rw [e]
          rfl
    · generalize mD C nu m te o L dn role vo (szD S) = M at *
      simp [f2, bD, consA, dVar, envI, getP, ioL, lenD, ndQ, owns, parB, rootD, sl1]
    · have hp2 : VL.plainL ((oth nu m).map (fun i : Nat => iD (getS S i)) ++ [iD L.length]) = true := by simpa [List.map_append, List.map_map, Function.comp_def] using hp1
      rw [hzs]
      simp [addD, hp2, h4, List.map_append, List.map_map, Function.comp_def]
  · generalize mD C nu m te o L dn role vo (szD S) = M at *
    simp [bindE, envI, ioL, owns, parB, unroot_nil, unroot_own, unroot_none, unroot_ali]
  · rfl
  · intro z hz
    have hq := hmo ((zs.filter fun x => decide (z ≤ x)).length)
    generalize mD C nu m te o L dn role vo (szD S) = M at *
    refine ⟨[some (.ro (iD z)), some (.ro M), some (.ro (.nd .lst (zs.map iD)))], ?_, ?_, fun _ => ?_⟩
    · simp [bD, bindE, capE, dVar, getP, rootD, unroot_nil, unroot_ro, unroot_none]
    · have e := lcF_map (n := 0 + 1 + 1 + 1) (js := [none, some 0]) (is := [0]) (fi := fun ρ => (dVar 2 ρ).bind itemsD) (fg := fun d ρ => some (bindE 0 (B.ro d) ρ)) (ft := fun ρ => (op2 (int0 fun i j => V.bl (decide (j ≤ i))) (dVar 0) (dVar 1) ρ).bind fun x => match x with | D.sc (V.bl b) => some b | x => none) (fe := plainQ (dVar 0)) (ρ := [some (.ro (iD z)), some (.ro M), some (.ro (.nd .lst (zs.map iD)))]) zs iD (fun x => decide (z ≤ x)) iD ?_ h5 rfl ?_
      · have e2 : lenD [.nd .lst ((zs.filter fun x => decide (z ≤ x)).map iD)] = some (iD ((zs.filter fun x => decide (z ≤ x)).length : Nat)) := by simp [lenD]
        generalize (zs.filter fun x => decide (z ≤ x)).map iD = ys at *
        refine Option.bind_eq_some_iff.mpr ⟨tD (most m zs z), Option.bind_eq_some_iff.mpr ⟨[M, iD ((zs.filter fun x => decide (z ≤ x)).length : Nat)], ?_, ?_⟩, rfl⟩
        · refine Option.bind_eq_some_iff.mpr ⟨M, rfl, ?_⟩
          have e3 : consA (fun ρ => (consA (lcF (0 + 1 + 1 + 1) [none, some 0] [0] (fun ρ => (dVar 2 ρ).bind itemsD) (fun d ρ => some (bindE 0 (B.ro d) ρ)) (fun ρ => (op2 (int0 fun i j => V.bl (decide (j ≤ i))) (dVar 0) (dVar 1) ρ).bind fun x => match x with | D.sc (V.bl b) => some b | x => none) (plainQ (dVar 0))) (fun x => some []) ρ).bind lenD) (fun x => some []) [some (.ro (iD z)), some (.ro M), some (.ro (.nd .lst (zs.map iD)))] = some [iD ((zs.filter fun x => decide (z ≤ x)).length : Nat)] := by
            exact Option.bind_eq_some_iff.mpr ⟨_, Option.bind_eq_some_iff.mpr ⟨[.nd .lst ys], Option.bind_eq_some_iff.mpr ⟨.nd .lst ys, e, rfl⟩, e2⟩, rfl⟩
          exact congrArg (Option.map (M :: ·)) e3
        · exact (if_pos rfl).trans hq
      · simp [bD, dVar, itemsD]
      · intro x _
        simp [bD, bindE, capE, dVar, int0, op2, VL.plain, plainQ, unroot_nil, unroot_ro, unroot_none]
    · simp [bD, dVar, VL.plain, plainQ]
  · generalize mD C nu m te o L dn role vo (szD S) = M at *
    simp [bindE, unroot_nil, unroot_own, unroot_none, unroot_ali]
  · have hsum : addV (.nd .lst [iD dn]) (.nd .lst ((zs.filter (most m zs)).map iD)) = some (.nd .lst ((dn :: zs.filter (most m zs)).map iD)) := by
      have hpl' : VL.plainL (iD dn :: (zs.filter (most m zs)).map iD) = true := hpl
      simp [addV, addD, hpl', hln, Nat.add_comm]
    have hmx : maxLD [.nd .lst ((dn :: zs.filter (most m zs)).map iD)] = some (iD (maxI dn (zs.filter (most m zs)))) := by
      show (intsOf ((dn :: zs.filter (most m zs)).map iD)).bind maxOf = _
      rw [hin]
      rfl
    generalize (zs.filter (most m zs)) = cs at *
    generalize D.nd .lst ((dn :: cs).map iD) = SS at *
    generalize (cs.map iD) = ys at *
    generalize (zs.map iD) = zz at *
    simp only [mD, fns] at f3 ⊢
    simp [hsum, hmx, sne_done_number, sne_done_many, sne_done_term, sne_done_of, sne_done_log, bD, consA, dVar, editE, fldD, fldF, fldI, fldPut, getP, kidD, ndQ, nodeAt, op2, plVar, posF, prune, pruneB, rootD, setP, sl1]
  · rfl
end K28
namespace K28
open PySem L2 VL
variable {K : W.Frag} {C : Addr} [ClsI K C]
theorem drop_io {GC : List D → Option (D × List D)} {M1 M2 r d : D} (hc : GC [M1] = some (d, [M2])) : dropF (fun ρ => (Option.map (fun a => (a, ρ)) (cIo (plVar 0) (fun x => some []) ρ)).bind fun a => callR GC a.fst a.snd) [some (.ali 2 []), some (.ro r), some (.own M1)] = some (.nx [some (.ali 2 []), some (.ro r), some (.own M2)]) := by
  have hg : ∀ (M : D), getP M [] = some M := fun M => by cases M <;> rfl
  have hs : ∀ (M e : D), setP M [] e = e := fun M e => by cases M <;> rfl
  simp [hc, apartP, arD, arDs, arIos, cIo, callR, dropF, finE, getP, holeE, plVar, prune, pruneB, putE, rootD, rootsApart, rvOk, setP]
theorem add_yes (nu te o : Int) (m : Nat) (L : List D) (dn : Int) (vo r : D) (S : List (Int × Int)) (hL : Rws L) (hr : RowD r) (hz : L.length < 90) (hm : m < 90) :
    ∃ dn', dn' = maxI dn ((allS nu m S (L.length + 1)).filter (most m (allS nu m S (L.length + 1)))) ∧
    G_Master_add K C [mD C nu m te o L dn "leads" vo (szD S), r] = some (.nd .lst (kmsgs nu te m (L ++ [r]) dn'), [mD C nu m te o (L ++ [r]) dn' "leads" vo (szD S)]) := by
  refine ⟨_, rfl, ?_⟩
  have he := neL "leads" (by decide +kernel)
  rw [decide_eq_false (fun z => z rfl)] at he
  have hL' : Rws (L ++ [r]) := hL.app (Rws.one hr)
  have hlen : (L ++ [r]).length = L.length + 1 := by simp
  have hb := behind_ok (K := K) (C := C) nu m te o L [r] dn "leads" vo (szD S) hL (Rws.one hr) (by simp; omega)
  have hc := count_ok (K := K) (C := C) nu te o m (L ++ [r]) dn "leads" vo S hm
  rw [hlen] at hc
  have hsd := send_yes (K := K) (C := C) nu te o m (L ++ [r]) (maxI dn ((allS nu m S (L.length + 1)).filter (most m (allS nu m S (L.length + 1))))) vo (szD S) hL' (by rw [hlen]; omega) (by omega)
  have ob := obj_of (C := C) (m := "send") (by decide +kernel) nu m te o (L ++ [r]) (maxI dn ((allS nu m S (L.length + 1)).filter (most m (allS nu m S (L.length + 1))))) "leads" vo (szD S)
  have fr := fl_role (C := C) nu m te o L dn "leads" vo (szD S)
  have pr := hr.plain
  have p0 := m_plain (C := C) nu m te o L dn "leads" vo (szD S)
  have p1 := m_plain (C := C) nu m te o (L ++ [r]) dn "leads" vo (szD S)
  have p2 := m_plain (C := C) nu m te o (L ++ [r]) (maxI dn ((allS nu m S (L.length + 1)).filter (most m (allS nu m S (L.length + 1))))) "leads" vo (szD S)
  have hg : ∀ (M : D), getP M [] = some M := fun M => by cases M <;> rfl
  have hs : ∀ (M e : D), setP M [] e = e := fun M e => by cases M <;> rfl
  generalize maxI dn ((allS nu m S (L.length + 1)).filter (most m (allS nu m S (L.length + 1)))) = dn' at *
  generalize mD C nu m te o L dn "leads" vo (szD S) = M at *
  generalize mD C nu m te o (L ++ [r]) dn "leads" vo (szD S) = M1 at *
  generalize mD C nu m te o (L ++ [r]) dn' "leads" vo (szD S) = M2 at *
  unfold G_Master_add f_Master_add b_Master_add
  dsimp only
  refine bodyI_rt (ρ' := [some (.ali 2 []), some (.ro r), some (.own M2)]) (seqF_nx (ρ' := [some (.ali 2 []), some (.ro r), some (.own M)]) ?_ (seqF_nx (ρ' := [some (.ali 2 []), some (.ro r), some (.own M1)]) ?_ (seqF_nx (ρ' := [some (.ali 2 []), some (.ro r), some (.own M2)]) ?_ (retF_ok (map_ok ?_))))) rfl
  · simp [he, fr, bD, dVar, envI, getP, ifF, ioL, op2, owns, parB, retF, rootD]
  · simp [hb, pr, apartP, arD, arDs, arIos, bD, cIo, cTm, callR, consA, dVar, dropF, finE, getP, holeE, ndQ, plVar, plainQ, prune, pruneB, putE, rootD, rootsApart, rvOk, setP, sl1]
  · exact drop_io hc
  · simp [ob, hsd, bD, dVar, getP, methP, rootD]
end K28
namespace K28
open PySem L2 VL
variable {K : W.Frag} {C : Addr} [ClsI K C]
theorem ifF_t {c : En → Option (Bool × En)} {a b : En → Option Fl} {ρ ρ1 : En} {r : Option Fl} (h : c ρ = some (true, ρ1)) (ha : a ρ1 = r) : ifF c a b ρ = r := by
  unfold ifF
  rw [h]
  exact ha
theorem drop_k {GC : List D → Option (D × List D)} {M1 M2 d : D} {sn te z : Int} (hc : GC [M1] = some (d, [M2])) : dropF (fun ρ => (Option.map (fun a => (a, ρ)) (cIo (plVar 0) (fun x => some []) ρ)).bind fun a => callR GC a.fst a.snd) [some (.ali 4 []), some (.ro (iD sn)), some (.ro (iD te)), some (.ro (iD z)), some (.own M1)] = some (.nx [some (.ali 4 []), some (.ro (iD sn)), some (.ro (iD te)), some (.ro (iD z)), some (.own M2)]) := by
  have hg : ∀ (M : D), getP M [] = some M := fun M => by cases M <;> rfl
  have hs : ∀ (M e : D), setP M [] e = e := fun M e => by cases M <;> rfl
  simp [hc, apartP, arD, arDs, arIos, cIo, callR, dropF, finE, getP, holeE, plVar, prune, pruneB, putE, rootD, rootsApart, rvOk, setP]
def putS : List (Int × Int) → Int → Int → List (Int × Int)
  | [], i, v => [(i, v)]
  | p :: S, i, v => if p.1 = i then (p.1, v) :: S else p :: putS S i v
theorem putS_at : ∀ (S : List (Int × Int)) (i v : Int), (match posK (Sum.inl i : Key) (S.map fun p => (Sum.inl p.1 : Key)) with
    | some k => some (D.nd (.dic (S.map fun p => (Sum.inl p.1 : Key))) ((S.map fun p => iD p.2).set k (iD v)))
    | none => some (D.nd (.dic ((S.map fun p => (Sum.inl p.1 : Key)) ++ [Sum.inl i])) ((S.map fun p => iD p.2) ++ [iD v]))) = some (szD (putS S i v))
  | [], _, _ => rfl
  | p :: S, i, v => by
    have ih := putS_at S i v
    by_cases h : p.1 = i
    · simp [posK, putS, h, szD]
    · have hk : ¬ (Sum.inl p.1 : Key) = Sum.inl i := fun z => h (Sum.inl.inj z)
      rw [List.map_cons, List.map_cons, posK, if_neg hk, putS, if_neg h]
      cases e : posK (Sum.inl i : Key) (S.map fun p => (Sum.inl p.1 : Key)) with
      | none => rw [e] at ih; simp [szD] at ih ⊢; exact ih
      | some k => rw [e] at ih; simp [szD] at ih ⊢; exact ih
theorem putS_ok (S : List (Int × Int)) (i v : Int) (hn : (S.map (·.1)).Nodup) (hz : S.length ≤ 100) : dPut (.dic (S.map fun p => (Sum.inl p.1 : Key))) (S.map fun p => iD p.2) (iD i) (iD v) = some (szD (putS S i v)) := by
  have h3 : S.length < sizeLine := Nat.lt_of_le_of_lt hz (by decide)
  have hn' : (S.map fun p => (Sum.inl p.1 : Key)).Nodup := by
    unfold List.Nodup at hn ⊢
    rw [List.pairwise_map] at hn ⊢
    exact hn.imp fun h e => h (Sum.inl.inj e)
  have e := putS_at S i v
  show ((keyOf (iD i)).bind fun key => _) = _
  show (if _ then _ else _) = _
  rw [if_pos ⟨by rw [List.length_map]; exact h3, hn'⟩]
  exact e
theorem putS_keys : ∀ (S : List (Int × Int)) (i v x : Int), x ∈ (putS S i v).map (·.1) ↔ x = i ∨ x ∈ S.map (·.1)
  | [], i, v, x => by simp [putS]
  | p :: S, i, v, x => by
    have ih := putS_keys S i v x
    by_cases h : p.1 = i
    · simp [putS, h]
    · rw [putS, if_neg h, List.map_cons, List.mem_cons, ih, List.map_cons, List.mem_cons]
      constructor
      · rintro (z | z | z)
        · exact .inr (.inl z)
        · exact .inl z
        · exact .inr (.inr z)
      · rintro (z | z | z)
        · exact .inr (.inl z)
        · exact .inl z
        · exact .inr (.inr z)
theorem putS_nodup : ∀ (S : List (Int × Int)) (i v : Int), (S.map (·.1)).Nodup → ((putS S i v).map (·.1)).Nodup
  | [], i, v, _ => by simp [putS]
  | p :: S, i, v, h => by
    rw [List.map_cons, List.nodup_cons] at h
    by_cases c : p.1 = i
    · rw [putS, if_pos c, List.map_cons, List.nodup_cons]
      exact h
    · rw [putS, if_neg c, List.map_cons, List.nodup_cons]
      refine ⟨fun z => ?_, putS_nodup S i v h.2⟩
      rcases (putS_keys S i v p.1).mp z with q | q
      · exact c q
      · exact h.1 q
theorem putS_len : ∀ (S : List (Int × Int)) (i v : Int), (putS S i v).length ≤ S.length + 1
  | [], _, _ => by simp [putS]
  | p :: S, i, v => by
    have := putS_len S i v
    unfold putS
    split
    · simp
    · simp; omega
theorem getS_nn (S : List (Int × Int)) (h : ∀ p ∈ S, 0 ≤ p.2) (i : Int) : 0 ≤ getS S i := by
  induction S with
  | nil => exact Int.le_refl _
  | cons p S ih =>
    unfold getS
    split
    · exact h p (.head _)
    · exact ih fun q hq => h q (.tail _ hq)
theorem putS_nn : ∀ (S : List (Int × Int)) (i v : Int), 0 ≤ v → (∀ p ∈ S, 0 ≤ p.2) → ∀ p ∈ putS S i v, 0 ≤ p.2
  | [], i, v, hv, _, p, hp => by rw [List.mem_singleton.mp hp]; exact hv
  | q :: S, i, v, hv, h, p, hp => by
    unfold putS at hp
    split at hp
    · rcases List.mem_cons.mp hp with rfl | hp
      · exact hv
      · exact h p (.tail _ hp)
    · rcases List.mem_cons.mp hp with rfl | hp
      · exact h _ (.head _)
      · exact putS_nn S i v hv (fun x hx => h x (.tail _ hx)) p hp
def sizS (S : List (Int × Int)) (te t i z : Int) : List (Int × Int) := if t = te then putS S i (if getS S i > z then getS S i else z) else S
theorem kept_no (nu te o sn t z : Int) (m : Nat) (L : List D) (dn : Int) (vo si : D) (role : Str) (hs : PyData.strOk role = true) (h : ¬ t = te ∨ role ≠ "leads") : G_hear_kept K C [mD C nu m te o L dn role vo si, iD sn, iD t, iD z] = some (.nd .lst [], [mD C nu m te o L dn role vo si]) := by
  have he := eqS role "leads" hs (by decide +kernel)
  by_cases hr : role = "leads"
  · have h' : ¬ t = te := h.elim id (fun z => absurd hr z)
    rw [decide_eq_true hr] at he
    simp only [mD, fns]
    simp [G_hear_kept, f_hear_kept, b_hear_kept, he, eq0, h', sne_term_number, sne_term_many, sne_role_number, sne_role_many, sne_role_term, sne_role_of, sne_role_log, sne_role_done, allOwn, andT, bD, bodyI, cIo, callR, consA, dVar, dget2, dkPos, dputF, editE, envI, finE, fldD, fldI, fldP, getP, ifF, ioL, keyOf, kidD, lstM, nodeAt, op2, owns, parB, plD, plVar, posF, prune, pruneB, retF, rootD, rootsApart, rvOk, seqF, thenF]
  · rw [decide_eq_false hr] at he
    simp only [mD, fns]
    simp [G_hear_kept, f_hear_kept, b_hear_kept, he, eq0, sne_term_number, sne_term_many, sne_role_number, sne_role_many, sne_role_term, sne_role_of, sne_role_log, sne_role_done, allOwn, andT, bD, bodyI, cIo, callR, consA, dVar, dget2, dkPos, dputF, editE, envI, finE, fldD, fldI, fldP, getP, ifF, ioL, keyOf, kidD, lstM, nodeAt, op2, owns, parB, plD, plVar, posF, prune, pruneB, retF, rootD, rootsApart, rvOk, seqF, thenF]
theorem kept_yes (nu te o sn z : Int) (m : Nat) (L : List D) (dn : Int) (vo : D) (S : List (Int × Int)) (hn : (S.map (·.1)).Nodup) (hz : S.length ≤ 50) (hm : m < 90) :
    ∃ dn', dn' = maxI dn ((allS nu m (sizS S te te sn z) L.length).filter (most m (allS nu m (sizS S te te sn z) L.length))) ∧
    G_hear_kept K C [mD C nu m te o L dn "leads" vo (szD S), iD sn, iD te, iD z] = some (.nd .lst [], [mD C nu m te o L dn' "leads" vo (szD (sizS S te te sn z))]) := by
  refine ⟨_, rfl, ?_⟩
  have he := eqS "leads" "leads" (by decide +kernel) (by decide +kernel)
  rw [decide_eq_true rfl] at he
  have hsz : sizS S te te sn z = putS S sn (if getS S sn > z then getS S sn else z) := if_pos rfl
  rw [hsz]
  have hg := getS_ok S sn
  have hp := putS_ok S sn (if getS S sn > z then getS S sn else z) hn (by omega)
  have hc := count_ok (K := K) (C := C) nu te o m L dn "leads" vo (putS S sn (if getS S sn > z then getS S sn else z)) hm
  generalize putS S sn (if getS S sn > z then getS S sn else z) = S' at *
  generalize maxI dn ((allS nu m S' L.length).filter (most m (allS nu m S' L.length))) = dn' at *
  have hW : ∃ W, W = szD S' := ⟨_, rfl⟩
  obtain ⟨W, hW⟩ := hW
  rw [← hW] at hp hc ⊢
  clear hW
  unfold G_hear_kept f_hear_kept b_hear_kept
  dsimp only
  refine bodyI_rt (ρ' := [some (.ali 4 []), some (.ro (iD sn)), some (.ro (iD te)), some (.ro (iD z)), some (.own (mD C nu m te o L dn' "leads" vo W))]) (seqF_nx (ρ' := [some (.ali 4 []), some (.ro (iD sn)), some (.ro (iD te)), some (.ro (iD z)), some (.own (mD C nu m te o L dn' "leads" vo W))]) ?_ ?_) rfl
  · have st1 : dputF (fun ρ => Option.map (fun d => (d, ρ)) ((consA (dVar 3) (consA (dget2 (fun ρ => (dVar 0 ρ).bind (fldD (Str.ofString "sizes"))) (dVar 1) fun x => some (D.sc (V.int 0))) fun x => some []) ρ).bind (int2D fun i j => V.int (if j > i then j else i)))) (fldP (Str.ofString "sizes") (plVar 0)) (dVar 1) [some (.ali 4 []), some (.ro (iD sn)), some (.ro (iD te)), some (.ro (iD z)), some (.own (mD C nu m te o L dn "leads" vo (szD S)))] = some (.nx [some (.ali 4 []), some (.ro (iD sn)), some (.ro (iD te)), some (.ro (iD z)), some (.own (mD C nu m te o L dn "leads" vo W))]) := by
      have hgd : dget2 (fun ρ => (dVar 0 ρ).bind (fldD (Str.ofString "sizes"))) (dVar 1) (fun x => some (D.sc (V.int 0))) [some (.ali 4 []), some (.ro (iD sn)), some (.ro (iD te)), some (.ro (iD z)), some (.own (mD C nu m te o L dn "leads" vo (szD S)))] = some (iD (getS S sn)) := by
        unfold dget2
        refine Option.bind_eq_some_iff.mpr ⟨szD S, ?_, ?_⟩
        · simp [mD, fns, sne_sizes_number, sne_sizes_many, sne_sizes_term, sne_sizes_of, sne_sizes_log, sne_sizes_done, sne_sizes_role, sne_sizes_voices, bD, dVar, fldD, fldI, getP, kidD, posF, rootD]
        · exact hg
      generalize hq : getS S sn = q at *
      generalize dget2 (fun ρ => (dVar 0 ρ).bind (fldD (Str.ofString "sizes"))) (dVar 1) (fun x => some (D.sc (V.int 0))) = GD at hgd ⊢
      simp only [mD, fns, szD] at hgd hp ⊢
      simp [hgd, hp, sne_sizes_number, sne_sizes_many, sne_sizes_term, sne_sizes_of, sne_sizes_log, sne_sizes_done, sne_sizes_role, sne_sizes_voices, bD, consA, dVar, dputF, editE, fldI, fldP, getP, imm, int2D, kidD, nodeAt, plD, plKid, plVar, VL.plain, plainL, posF, prune, pruneB, rootD, setP]
    have st2 := drop_k (sn := sn) (te := te) (z := z) hc
    refine ifF_t (ρ1 := [some (.ali 4 []), some (.ro (iD sn)), some (.ro (iD te)), some (.ro (iD z)), some (.own (mD C nu m te o L dn "leads" vo (szD S)))]) ?_ (seqF_nx st1 st2)
    simp only [mD, fns]
    simp [he, eq0, sne_term_number, sne_term_many, sne_role_number, sne_role_many, sne_role_term, sne_role_of, sne_role_log, sne_role_done, andT, bD, dVar, envI, fldD, fldI, getP, ioL, kidD, op2, owns, parB, posF, rootD]
  · simp [lstM, retF]
end K28
namespace K28
open PySem L2 VL
variable {K : W.Frag} {C : Addr} [ClsI K C]
theorem forL_fold {fg : D → En → Option En} {fb : En → Option Fl} {mk : Int → Option B → Option B → En} (g : Int → Int → Int)
    (step : ∀ (z f : Int) (x y : Option B), NA x → NA y → ∃ (ρ1 : En) (x' y' : Option B), NA x' ∧ NA y' ∧ fg (iD z) (mk f x y) = some ρ1 ∧ fb ρ1 = some (.nx (mk (g f z) x' y'))) :
    ∀ (l : List Int) (f : Int) (x y : Option B), NA x → NA y → ∃ (x' y' : Option B), NA x' ∧ NA y' ∧ forL fg fb (l.map iD) (mk f x y) = some (.nx (mk (l.foldl g f) x' y'))
  | [], f, x, y, hx, hy => ⟨x, y, hx, hy, rfl⟩
  | z :: l, f, x, y, hx, hy => by
    obtain ⟨ρ1, x1, y1, h1, h2, e1, e2⟩ := step z f x y hx hy
    obtain ⟨x2, y2, h3, h4, e3⟩ := forL_fold g step l (g f z) x1 y1 h1 h2
    refine ⟨x2, y2, h3, h4, ?_⟩
    rw [List.map_cons, forL, e1]
    show (fb ρ1).bind _ = _
    rw [e2]
    exact e3
def lawS (S : List (Int × Int)) (n : Nat) : List Int := S.map (·.2) ++ [(n : Int)]
def wr (m : Nat) (zs : List Int) (f z : Int) : Int := if most m zs z = true then z else f
theorem vals_S (S : List (Int × Int)) : valsD (szD S) = some (.nd .lst (S.map fun p => iD p.2)) := by
  have hp := ints_plain (S.map (·.2))
  rw [List.map_map] at hp
  have hp' : VL.plainL (S.map fun p => iD p.2) = true := hp
  simp [valsD, szD, hp']
theorem law_add (S : List (Int × Int)) (n : Nat) (hz : S.length ≤ 50) : addV (.nd .lst (S.map fun p => iD p.2)) (.nd .lst [iD n]) = some (.nd .lst ((lawS S n).map iD)) := by
  have hp := ints_plain (lawS S n)
  have e : (lawS S n).map iD = (S.map fun p => iD p.2) ++ [iD n] := by unfold lawS; rw [List.map_append, List.map_map]; rfl
  rw [e] at hp ⊢
  have h3 : S.length + 1 ≤ sizeLine := Nat.le_trans (by omega : S.length + 1 ≤ 100) (by decide)
  simp [addV, addD, hp, h3]
theorem law_sort (S : List (Int × Int)) (n : Nat) (hz : S.length ≤ 50) : sortD [.nd .lst ((lawS S n).map iD)] = some (.nd .lst ((sortI (lawS S n)).map iD)) := by
  show (intsOf ((lawS S n).map iD)).bind sortOf = _
  rw [ints_map, Option.bind_some]
  unfold sortOf
  rw [if_pos (by unfold lawS; simp; omega)]
theorem written_ok (nu te o : Int) (m : Nat) (L : List D) (dn : Int) (role : Str) (vo si : D) (S : List (Int × Int)) (hz : S.length ≤ 50) : G_Lwritten K C [szD S, mD C nu m te o L dn role vo si] = some (iD ((sortI (lawS S L.length)).foldl (wr m (lawS S L.length)) 0)) := by
  have hv := vals_S S
  have ha := law_add S L.length hz
  have hso := law_sort S L.length hz
  have fl := fl_log (C := C) nu m te o L dn role vo si
  have fm := fl_many (C := C) nu m te o L dn role vo si
  have hll : lenD [.nd .lst L] = some (iD L.length) := by simp [lenD]
  have h5 : (lawS S L.length).length ≤ sizeLine := by
    refine Nat.le_trans (?_ : _ ≤ 100) (by decide)
    unfold lawS; simp; omega
  generalize mD C nu m te o L dn role vo si = M at *
  generalize szD S = W at *
  generalize (S.map fun p => iD p.2) = A at *
  generalize lawS S L.length = zs at *
  have hsum : ∀ ρ : En, ρ[0]? = some (some (.ro W)) → ρ[1]? = some (some (.ro M)) → op2 addV (fun ρ => (dVar 0 ρ).bind valsD) (ndQ Kd.lst (consA (fun ρ => (consA (fun ρ => (dVar 1 ρ).bind (fldD (Str.ofString "log"))) (fun x => some []) ρ).bind lenD) fun x => some [])) ρ = some (.nd .lst (zs.map iD)) := fun ρ h0 h1 => by
    simp [h0, h1, hv, ha, fl, hll, bD, consA, dVar, ndQ, op2, sl1]
  unfold G_Lwritten f_Lwritten b_Lwritten
  dsimp only
  obtain ⟨x, y, hx, hy, e⟩ := forL_fold (fg := fun d ρ => some (bindE 3 (B.ro d) ρ)) (mk := fun f x y => [some (.ro W), some (.ro M), some (.own (iD f)), x, y])
    (fb := seqF (asgM 4 fun ρ => Option.map (fun d => (d, ρ)) (lcF 5 [none, some 3] [0] (fun ρ => (op2 addV (fun ρ => (dVar 0 ρ).bind valsD) (ndQ Kd.lst (consA (fun ρ => (consA (fun ρ => (dVar 1 ρ).bind (fldD (Str.ofString "log"))) (fun x => some []) ρ).bind lenD) fun x => some [])) ρ).bind itemsD) (fun d ρ => some (bindE 0 (B.ro d) ρ)) (fun ρ => (op2 (int0 fun i j => V.bl (decide (j ≤ i))) (dVar 0) (dVar 1) ρ).bind fun x => match x with | D.sc (V.bl b) => some b | x => none) (plainQ (dVar 0)) ρ))
      (ifF (fun ρ => Option.map (fun b => (b, ρ)) ((op2 (int0 fun i j => V.bl (decide (j < i))) (op2 (intD CMul fun i j => V.int (i * j)) (fun x => some (D.sc (V.int 2))) fun ρ => (consA (dVar 4) (fun x => some []) ρ).bind lenD) (fun ρ => (dVar 1 ρ).bind (fldD (Str.ofString "many"))) ρ).bind fun x => match x with | D.sc (V.bl b) => some b | x => none)) (asgP 2 (plVar 3)) fun ρ => some (Fl.nx ρ)))
    (wr m zs) (fun z f x y hx hy => by
      have hcm : lcF 5 [none, some 3] [0] (fun ρ => (op2 addV (fun ρ => (dVar 0 ρ).bind valsD) (ndQ Kd.lst (consA (fun ρ => (consA (fun ρ => (dVar 1 ρ).bind (fldD (Str.ofString "log"))) (fun x => some []) ρ).bind lenD) fun x => some [])) ρ).bind itemsD) (fun d ρ => some (bindE 0 (B.ro d) ρ)) (fun ρ => (op2 (int0 fun i j => V.bl (decide (j ≤ i))) (dVar 0) (dVar 1) ρ).bind fun x => match x with | D.sc (V.bl b) => some b | x => none) (plainQ (dVar 0)) [some (.ro W), some (.ro M), some (.own (iD f)), some (.ro (iD z)), y] = some (.nd .lst ((zs.filter fun x => decide (z ≤ x)).map iD)) := by
        refine lcF_map zs iD (fun x => decide (z ≤ x)) iD (Option.bind_eq_some_iff.mpr ⟨_, hsum _ rfl rfl, rfl⟩) h5 rfl ?_
        intro x _
        simp [bD, bindE, capE, dVar, int0, op2, VL.plain, plainQ, unroot_nil, unroot_ro, unroot_none]
      have hlc : lenD [.nd .lst ((zs.filter fun x => decide (z ≤ x)).map iD)] = some (iD ((zs.filter fun x => decide (z ≤ x)).length : Nat)) := by simp [lenD]
      have hmo : most m zs z = decide ((m : Int) < 2 * ((zs.filter fun x => decide (z ≤ x)).length : Nat)) := rfl
      refine ⟨[some (.ro W), some (.ro M), some (.own (iD f)), some (.ro (iD z)), y], some (.ro (iD z)), some (.own (.nd .lst ((zs.filter fun x => decide (z ≤ x)).map iD))), na_ro, na_own, ?_, ?_⟩
      · simp [unroot_na hx, unroot_na hy, bindE, unroot_nil, unroot_own, unroot_ro]
      · refine seqF_nx (ρ' := [some (.ro W), some (.ro M), some (.own (iD f)), some (.ro (iD z)), some (.own (.nd .lst ((zs.filter fun x => decide (z ≤ x)).map iD)))]) (asgM_ok (map_ok hcm) ?_) ?_
        · simp [unroot_na hy, bindE, unroot_nil, unroot_own, unroot_ro]
        · unfold wr
          generalize ((zs.filter fun x => decide (z ≤ x)).map iD) = ys at *
          generalize ((zs.filter fun x => decide (z ≤ x)).length) = N at *
          by_cases c : (m : Int) < 2 * N
          · rw [decide_eq_true c] at hmo
            rw [if_pos hmo]
            simp [fm, hlc, c, asgP, bD, bindE, consA, dVar, ifF, int0, intD, op2, plD, plVar, VL.plain, rootD, CMul, unroot_nil, unroot_own, unroot_ro]
          · rw [decide_eq_false c] at hmo
            rw [if_neg (by rw [hmo]; exact Bool.false_ne_true)]
            simp [fm, hlc, c, asgP, bD, bindE, consA, dVar, ifF, int0, intD, op2, plD, plVar, rootD, CMul]) (sortI zs) 0 none none na_none na_none
  refine bodyP_rt (ρ' := [some (.ro W), some (.ro M), some (.own (iD ((sortI zs).foldl (wr m zs) 0))), x, y]) (seqF_nx (ρ' := [some (.ro W), some (.ro M), some (.own (iD 0)), none, none]) ?_ (seqF_nx (ρ' := [some (.ro W), some (.ro M), some (.own (iD ((sortI zs).foldl (wr m zs) 0))), x, y]) (Option.bind_eq_some_iff.mpr ⟨(sortI zs).map iD, Option.bind_eq_some_iff.mpr ⟨.nd .lst ((sortI zs).map iD), Option.bind_eq_some_iff.mpr ⟨[.nd .lst (zs.map iD)], Option.bind_eq_some_iff.mpr ⟨_, hsum _ rfl rfl, rfl⟩, hso⟩, rfl⟩, e⟩) (retF_ok ?_)))
  · simp [List.replicate, asgM, bindE, unroot_nil, unroot_ro, unroot_none]
  · simp [bD, dVar, mvVar, VL.plain]
end K28
namespace K28
open PySem L2 VL
variable {K : W.Frag} {C : Addr} [ClsI K C]
theorem maxI_ge : ∀ (l : List Int) (n : Int), n ≤ maxI n l ∧ ∀ x ∈ l, x ≤ maxI n l
  | [], n => ⟨Int.le_refl _, fun _ h => nomatch h⟩
  | a :: l, n => by
    have ih := maxI_ge l (if a > n then a else n)
    have e : maxI n (a :: l) = maxI (if a > n then a else n) l := rfl
    rw [e]
    have h1 : n ≤ (if a > n then a else n) := by split <;> omega
    have h2 : a ≤ (if a > n then a else n) := by split <;> omega
    refine ⟨Int.le_trans h1 ih.1, fun x hx => ?_⟩
    rcases List.mem_cons.mp hx with rfl | hx
    · exact Int.le_trans h2 ih.1
    · exact ih.2 x hx
theorem maxI_mem : ∀ (l : List Int) (n : Int), maxI n l = n ∨ maxI n l ∈ l
  | [], n => .inl rfl
  | a :: l, n => by
    have e : maxI n (a :: l) = maxI (if a > n then a else n) l := rfl
    rw [e]
    rcases maxI_mem l (if a > n then a else n) with h | h
    · rw [h]
      by_cases c : a > n
      · rw [if_pos c]; exact .inr (.head _)
      · rw [if_neg c]; exact .inl rfl
    · exact .inr (.tail _ h)
theorem wr_mem (m : Nat) (zs : List Int) : ∀ (s : List Int) (f : Int), s.foldl (wr m zs) f = f ∨ (s.foldl (wr m zs) f ∈ s ∧ most m zs (s.foldl (wr m zs) f) = true)
  | [], f => .inl rfl
  | z :: s, f => by
    rw [List.foldl_cons]
    rcases wr_mem m zs s (wr m zs f z) with h | ⟨h1, h2⟩
    · rw [h]
      by_cases c : most m zs z = true
      · rw [show wr m zs f z = z from if_pos c]; exact .inr ⟨.head _, c⟩
      · rw [show wr m zs f z = f from if_neg c]; exact .inl rfl
    · exact .inr ⟨.tail _ h1, h2⟩
theorem wr_ge (m : Nat) (zs : List Int) : ∀ (s : List Int) (f : Int), s.Pairwise (· ≤ ·) → (∀ z ∈ s, f ≤ z) → f ≤ s.foldl (wr m zs) f ∧ ∀ z ∈ s, most m zs z = true → z ≤ s.foldl (wr m zs) f
  | [], f, _, _ => ⟨Int.le_refl _, fun _ h => nomatch h⟩
  | z :: s, f, hp, hf => by
    rw [List.foldl_cons]
    obtain ⟨h1, h2⟩ := List.pairwise_cons.mp hp
    have hfz := hf z (.head _)
    have hw : f ≤ wr m zs f z ∧ wr m zs f z ≤ z := by unfold wr; split <;> omega
    have ih := wr_ge m zs s (wr m zs f z) h2 fun x hx => Int.le_trans hw.2 (h1 x hx)
    refine ⟨Int.le_trans hw.1 ih.1, fun x hx hm => ?_⟩
    rcases List.mem_cons.mp hx with rfl | hx
    · have : wr m zs f x = x := if_pos hm
      rw [this] at ih ⊢
      exact ih.1
    · exact ih.2 x hx hm
theorem filter_one (k : Nat) (b : Bool) (q : Nat → Bool) (hq : q k = false) : ∀ (o : List Nat), o.Nodup → k ∈ o → (o.filter fun i => if i = k then b else q i).length = (if b = true then 1 else 0) + (o.filter q).length
  | i :: o, hn, hk => by
    obtain ⟨h1, h2⟩ := List.nodup_cons.mp hn
    by_cases c : i = k
    · subst c
      have e : o.filter (fun j => if j = i then b else q j) = o.filter q := List.filter_congr fun j hj => by
        rw [if_neg (fun z : j = i => h1 (z ▸ hj))]
      cases b with
      | true => rw [List.filter_cons_of_pos (by simp), List.filter_cons_of_neg (by rw [hq]; exact Bool.false_ne_true), e]; simp; omega
      | false => rw [List.filter_cons_of_neg (by simp), List.filter_cons_of_neg (by rw [hq]; exact Bool.false_ne_true), e]; simp
    · have hk' : k ∈ o := (List.mem_cons.mp hk).elim (fun z => absurd z.symm c) id
      have ih := filter_one k b q hq o h2 hk'
      cases e : q i with
      | true => rw [List.filter_cons_of_pos (by rw [if_neg c]; exact e), List.filter_cons_of_pos e, List.length_cons, List.length_cons, ih]; omega
      | false => rw [List.filter_cons_of_neg (by rw [if_neg c, e]; exact Bool.false_ne_true), List.filter_cons_of_neg (by rw [e]; exact Bool.false_ne_true), ih]
theorem getS_none : ∀ (S : List (Int × Int)) (i : Int), i ∉ S.map (·.1) → getS S i = 0
  | [], _, _ => rfl
  | p :: S, i, h => by
    have h1 : ¬ p.1 = i := fun z => h (by rw [List.map_cons, ← z]; exact .head _)
    rw [getS, if_neg h1]
    exact getS_none S i fun z => h (.tail _ z)
theorem count_S (z : Int) (hz : 0 < z) (o : List Nat) (ho : o.Nodup) : ∀ (S : List (Int × Int)), (S.map (·.1)).Nodup → (∀ p ∈ S, ∃ k : Nat, k ∈ o ∧ p.1 = k) → (o.filter fun i : Nat => decide (z ≤ getS S (i : Int))).length = ((S.map (·.2)).filter fun x => decide (z ≤ x)).length
  | [], _, _ => by
    have e : (o.filter fun i : Nat => decide (z ≤ getS [] (i : Int))) = [] := List.filter_eq_nil_iff.mpr fun i _ => by
      rw [show getS [] (i : Int) = 0 from rfl, decide_eq_false (by omega)]
      exact Bool.false_ne_true
    rw [e]; rfl
  | p :: S, hn, hk => by
    obtain ⟨h1, h2⟩ := List.nodup_cons.mp hn
    obtain ⟨k, hko, hpk⟩ := hk p (.head _)
    have ih := count_S z hz o ho S h2 fun q hq => hk q (.tail _ hq)
    have h0 : decide (z ≤ getS S (k : Int)) = false := by
      rw [getS_none S k (hpk ▸ h1)]
      exact decide_eq_false (by omega)
    have e : (o.filter fun i : Nat => decide (z ≤ getS (p :: S) (i : Int))) = o.filter fun i : Nat => if i = k then decide (z ≤ p.2) else decide (z ≤ getS S (i : Int)) := List.filter_congr fun i _ => by
      by_cases c : i = k
      · subst c; rw [if_pos rfl, getS, if_pos hpk]
      · rw [if_neg c, getS, if_neg (by rw [hpk]; omega)]
    rw [e, filter_one k (decide (z ≤ p.2)) (fun i : Nat => decide (z ≤ getS S (i : Int))) h0 o ho hko, ih, List.map_cons]
    by_cases c : z ≤ p.2
    · rw [List.filter_cons_of_pos (by simpa using c), decide_eq_true c]; simp; omega
    · rw [List.filter_cons_of_neg (by simpa using c), decide_eq_false c]; simp
theorem oth_nodup (nu : Int) (m : Nat) : (oth nu m).Nodup := (List.nodup_range).filter _
theorem mem_oth {nu : Int} {m : Nat} {k : Nat} : k ∈ oth nu m ↔ k < m ∧ (k : Int) ≠ nu := by
  unfold oth
  rw [List.mem_filter, List.mem_range]
  simp
theorem getS_mem : ∀ (S : List (Int × Int)), (S.map (·.1)).Nodup → ∀ p ∈ S, getS S p.1 = p.2
  | q :: S, hn, p, hp => by
    obtain ⟨h1, h2⟩ := List.nodup_cons.mp hn
    rcases List.mem_cons.mp hp with rfl | hp
    · rw [getS, if_pos rfl]
    · have : ¬ q.1 = p.1 := fun z => h1 (List.mem_map.mpr ⟨p, hp, z.symm⟩)
      rw [getS, if_neg this]
      exact getS_mem S h2 p hp
theorem getS_val : ∀ (S : List (Int × Int)) (i : Int), getS S i = 0 ∨ getS S i ∈ S.map (·.2)
  | [], _ => .inl rfl
  | p :: S, i => by
    unfold getS
    split
    · exact .inr (.head _)
    · rcases getS_val S i with h | h
      · exact .inl h
      · exact .inr (.tail _ h)
def KeysOk (nu : Int) (m : Nat) (S : List (Int × Int)) : Prop := (S.map (·.1)).Nodup ∧ (∀ p ∈ S, ∃ k : Nat, k < m ∧ (k : Int) ≠ nu ∧ p.1 = k) ∧ ∀ p ∈ S, 0 ≤ p.2
theorem written_eq (nu : Int) (m n : Nat) (S : List (Int × Int)) (dn : Int) (d0 : 0 ≤ dn) (hS : KeysOk nu m S) :
    maxI dn ((allS nu m S n).filter (most m (allS nu m S n))) = (if (sortI (lawS S n)).foldl (wr m (lawS S n)) 0 > dn then (sortI (lawS S n)).foldl (wr m (lawS S n)) 0 else dn) := by
  obtain ⟨hn, hk, hv⟩ := hS
  have hk' : ∀ p ∈ S, ∃ k : Nat, k ∈ oth nu m ∧ p.1 = k := fun p hp => by
    obtain ⟨k, a, b, c⟩ := hk p hp
    exact ⟨k, mem_oth.mpr ⟨a, b⟩, c⟩
  have hcnt : ∀ z : Int, 0 < z → ((allS nu m S n).filter fun x => decide (z ≤ x)).length = ((lawS S n).filter fun x => decide (z ≤ x)).length := fun z hz => by
    unfold allS lawS
    rw [List.filter_append, List.filter_append, List.length_append, List.length_append, ← count_S z hz (oth nu m) (oth_nodup nu m) S hn hk', List.filter_map, List.length_map]
    rfl
  have hmost : ∀ z : Int, 0 < z → most m (allS nu m S n) z = most m (lawS S n) z := fun z hz => by
    unfold most
    rw [hcnt z hz]
  have hmem : ∀ z : Int, 0 < z → (z ∈ allS nu m S n ↔ z ∈ lawS S n) := fun z hz => by
    unfold allS lawS
    rw [List.mem_append, List.mem_append]
    refine or_congr ⟨fun h => ?_, fun h => ?_⟩ Iff.rfl
    · obtain ⟨i, _, e⟩ := List.mem_map.mp h
      rcases getS_val S i with q | q
      · rw [q] at e; omega
      · rw [e] at q; exact q
    · obtain ⟨p, hp, e⟩ := List.mem_map.mp h
      obtain ⟨k, hko, hpk⟩ := hk' p hp
      refine List.mem_map.mpr ⟨k, hko, ?_⟩
      rw [← hpk, getS_mem S hn p hp]
      exact e
  have hlow : ∀ z ∈ sortI (lawS S n), (0 : Int) ≤ z := fun z hz => by
    have hz' := (sortI_perm _).mem_iff.mp hz
    unfold lawS at hz'
    rcases List.mem_append.mp hz' with h | h
    · obtain ⟨p, hp, e⟩ := List.mem_map.mp h
      rw [← e]; exact hv p hp
    · rw [List.mem_singleton.mp h]; omega
  obtain ⟨w0, wge⟩ := wr_ge m (lawS S n) (sortI (lawS S n)) 0 (sortI_up _) hlow
  have wmem := wr_mem m (lawS S n) (sortI (lawS S n)) 0
  generalize (sortI (lawS S n)).foldl (wr m (lawS S n)) 0 = w at *
  obtain ⟨age, amax⟩ := maxI_ge ((allS nu m S n).filter (most m (allS nu m S n))) dn
  have amem := maxI_mem ((allS nu m S n).filter (most m (allS nu m S n))) dn
  generalize maxI dn ((allS nu m S n).filter (most m (allS nu m S n))) = A at *
  have h1 : w ≤ A := by
    rcases wmem with h | ⟨h, hm⟩
    · omega
    · by_cases c : 0 < w
      · refine amax w (List.mem_filter.mpr ⟨(hmem w c).mpr ((sortI_perm _).mem_iff.mp h), ?_⟩)
        rw [hmost w c]; exact hm
      · omega
  have h2 : A ≤ dn ∨ A ≤ w := by
    rcases amem with h | h
    · exact .inl (by omega)
    · obtain ⟨ha, hm⟩ := List.mem_filter.mp h
      by_cases c : 0 < A
      · refine .inr (wge A ((sortI_perm _).mem_iff.mpr ((hmem A c).mp ha)) ?_)
        rw [← hmost A c]; exact hm
      · exact .inl (by omega)
  split <;> omega
end K28
namespace K28
open PySem L2 VL
variable {K : W.Frag} {C : Addr} [ClsI K C]
theorem emod_ne {a b m : Int} (h1 : a < b) (h2 : b < a + m) : ¬ b % m = a % m := fun h => by
  have e := Int.emod_eq_emod_iff_emod_sub_eq_zero.mp h
  rw [Int.emod_eq_of_lt (by omega) (by omega)] at e
  omega
theorem posK_none {k : Key} : ∀ {ks : List Key}, k ∉ ks → posK k ks = none
  | [], _ => rfl
  | g :: r, h => by
    have hg : ¬ g = k := fun z => h (z ▸ List.mem_cons_self)
    rw [posK, if_neg hg, posK_none fun z => h (List.mem_cons_of_mem _ z)]
    rfl
theorem max_one (o : Int) (L : List D) (hL : Rws L) : maxKD (G_rank_of_voice K C) [.nd .lst [vcD o L]] = some (vcD o L) := by
  have hp : VL.plainL [vcD o L] = true := by
    have := vc_plain (p := o) hL
    simp [VL.plainL, this]
  rw [maxKD, if_pos hp, rank_vc, Option.bind_some]
  rfl
theorem lead_one (nu te o : Int) (L : List D) (dn : Int) (role : Str) (si : D) (hL : Rws L) (hz : L.length ≤ 100) : G_lead_by_voices K C [mD C nu (1 : Nat) te o L dn role (.nd (.dic [.inl nu]) [vcD o L]) si] = some (.sc .non, [mD C nu (1 : Nat) te te L dn "leads" (.nd (.dic [.inl nu]) [vcD o L]) (.nd (.dic []) [])]) := by
  have hl : lenD [.nd (.dic [.inl nu]) [vcD o L]] = some (iD 1) := rfl
  have hpl : VL.plainL [vcD o L] = true := by
    have := vc_plain (p := o) hL
    simp [VL.plainL, this]
  have hv : valsD (.nd (.dic [.inl nu]) [vcD o L]) = some (.nd .lst [vcD o L]) := by simp [valsD, hpl]
  have hm := max_one (K := K) (C := C) o L hL
  generalize (D.nd (.dic [.inl nu]) [vcD o L]) = W at *
  have hb := most_ok (K := K) (C := C) nu (1 : Nat) te o L dn 1 role W si
  have hr := rows_same (K := K) (C := C) nu (1 : Nat) te o L dn role W si hL hz
  rw [decide_eq_true (by decide)] at hb
  have hp := hL.plain
  generalize [vcD o L] = RR at *
  generalize (((1 : Nat) : Int)) = mm at *
  simp only [mD, fns, vcD] at hb hm hr ⊢
  simp [G_lead_by_voices, f_lead_by_voices, b_lead_by_voices, hb, hl, hv, hm, hr, hp, sne_term_number, sne_term_many, sne_of_number, sne_of_many, sne_of_term, sne_role_number, sne_role_many, sne_role_term, sne_role_of, sne_role_log, sne_role_done, sne_voices_number, sne_voices_many, sne_voices_term, sne_voices_of, sne_voices_log, sne_voices_done, sne_voices_role, sne_sizes_number, sne_sizes_many, sne_sizes_term, sne_sizes_of, sne_sizes_log, sne_sizes_done, sne_sizes_role, sne_sizes_voices, allOwn, apartP, arD, arDs, arIos, asgM, bD, bindE, bodyI, cIo, cRv, callR, consA, dVar, dkPos, dropF, editE, envI, finE, fldD, fldF, fldI, fldPut, getP, holeE, ifF, ioL, ixD, ixN, ixP, ixU, keyOf, kidD, nodeAt, owns, parB, plD, plKid, plVar, VL.plain, plainL, plainM, posF, prune, pruneB, putE, rootD, rootsApart, rvOk, seqF, setP, thenF, unroot_nil, unroot_own, unroot_none, unroot_ali]
def PL (C : Addr) (nu te p : Int) (m : Nat) (R : List D) (j : Nat) (M : D) : Prop :=
  (j < m / 2 ∧ ∃ ks : List Key, ks.Nodup ∧ ks.length = j + 1 ∧ (∀ k ∈ ks, ∃ i : Nat, i ≤ j ∧ k = .inl ((nu + i) % m)) ∧ M = mD C nu m te 0 [] 0 "stands" (.nd (.dic ks) (vsD p R j)) (.nd (.dic []) [])) ∨
  (j = m / 2 ∧ ∃ vo, M = mD C nu m te te R 0 "leads" vo (szD []))
theorem pl_step (nu te p : Int) (m : Nat) (R : List D) (j : Nat) (M : D) (hR : Rws R) (hz : R.length ≤ 50) (hp : 0 < p ∨ (p = 0 ∧ R = [])) (hj : j < m / 2) (hm : m < 50) (h : PL C nu te p m R j M) :
    ∃ M', PL C nu te p m R (j + 1) M' ∧ G_Master_hear K C [M, .nd .tup [sD "voice", iD ((nu + 1 + j) % m), iD nu, iD te, iD p, .nd .tup R]] = some (.nd .lst [], [M']) := by
  rcases h with ⟨_, ks, hn, hk, ha, rfl⟩ | ⟨e, _⟩
  · have hnew : (.inl ((nu + 1 + j) % m) : Key) ∉ ks := fun z => by
      obtain ⟨i, hi, e⟩ := ha _ z
      exact emod_ne (a := nu + i) (b := nu + 1 + j) (m := m) (by omega) (by omega) (Sum.inl.inj e)
    have hput := put_new ks (vsD p R j) ((nu + 1 + j) % m) (vcD p R) hn (by rw [vs_len]; omega) (posK_none hnew)
    rw [vs_app] at hput
    have hn' : (ks ++ [(.inl ((nu + 1 + j) % m) : Key)]).Nodup := by
      rw [List.nodup_append]
      refine ⟨hn, by simp, fun a ha b hb => ?_⟩
      rw [List.mem_singleton.mp hb]
      exact fun z => hnew (z ▸ ha)
    have hk' : (ks ++ [(.inl ((nu + 1 + j) % m) : Key)]).length = j + 1 + 1 := by rw [List.length_append, hk]; rfl
    by_cases hh : j + 1 < m / 2
    · refine ⟨_, .inl ⟨hh, ks ++ [.inl ((nu + 1 + j) % m)], hn', hk', fun k hkm => ?_, rfl⟩, hear_v _ nu te _ p R hR _ (voice_yes nu m te 0 _ p R hR (by omega) [] 0 ks _ _ _ _ _ hput (lead_no nu te 0 m (j + 2) [] 0 "stands" _ _ (by simp [lenD, vs_len]; omega) (by omega)))⟩
      rcases List.mem_append.mp hkm with z | z
      · obtain ⟨i, hi, e⟩ := ha k z
        exact ⟨i, by omega, e⟩
      · refine ⟨j + 1, Nat.le_refl _, ?_⟩
        rw [List.mem_singleton.mp z, show nu + 1 + (j : Int) = nu + ((j + 1 : Nat) : Int) by omega]
    · have hv := vals_vs (ks ++ [.inl ((nu + 1 + j) % m)]) p R (j + 1) hR
      have hmx := max_vs (K := K) (C := C) p R j hR hp
      exact ⟨_, .inr ⟨by omega, _, rfl⟩, hear_v _ nu te _ p R hR _ (voice_yes nu m te 0 _ p R hR (by omega) [] 0 ks _ _ _ _ _ hput (lead_yes nu te 0 p m (j + 2) R 0 "stands" _ _ _ hR (by omega) (by simp [lenD, vs_len]; omega) hv hmx (by omega)))⟩
  · omega
theorem rows_lc1 (t : Int) (n : Nat) (hn : n ≤ 20) : (lcF 2 [none] [0] (fun ρ => (consA (fun ρ => (consA (dVar 1) (consA (fun x => some (D.sc (V.int 5))) fun x => some []) ρ).bind (int2D fun i j => V.int (if j < i then j else i))) (fun x => some []) ρ).bind rng1) (fun d ρ => some (bindE 0 (B.ro d) ρ)) (fun x => some true) (ndQ Kd.tup (consA (fun x => some (D.sc (V.str (Str.ofString "row")))) (consA (plainQ (dVar 0)) fun x => some [])))) [some (.ro (iD t)), some (.ro (iD n))] = some (.nd .lst ((List.range (min n 5)).map fun i : Nat => D.nd .tup [sD "row", iD i])) := by
  have e := lcF_map (n := 2) (js := [none]) (is := [0]) (fi := (fun ρ => (consA (fun ρ => (consA (dVar 1) (consA (fun x => some (D.sc (V.int 5))) fun x => some []) ρ).bind (int2D fun i j => V.int (if j < i then j else i))) (fun x => some []) ρ).bind rng1)) (fg := (fun d ρ => some (bindE 0 (B.ro d) ρ))) (ft := (fun x => some true)) (fe := (ndQ Kd.tup (consA (fun x => some (D.sc (V.str (Str.ofString "row")))) (consA (plainQ (dVar 0)) fun x => some [])))) (ρ := [some (.ro (iD t)), some (.ro (iD n))]) (List.range (min n 5)) (fun i : Nat => D.sc (.int (i : Int))) (fun _ => true) (fun i : Nat => D.nd .tup [sD "row", iD i]) ?_ (by rw [List.length_range]; exact Nat.le_trans (Nat.min_le_right _ _) (by decide)) rfl ?_
  · rw [e, List.filter_eq_self.mpr (fun _ _ => rfl)]
  · refine Option.bind_eq_some_iff.mpr ⟨[iD ((min n 5 : Nat) : Int)], ?_, by rw [rng1_ok _ (by omega), rngD_eq]⟩
    have q : (if (5 : Int) < (n : Int) then (5 : Int) else (n : Int)) = ((min n 5 : Nat) : Int) := by
      by_cases c : (5 : Int) < (n : Int)
      · rw [if_pos c]; omega
      · rw [if_neg c]; omega
    rw [← q]
    simp [bD, consA, dVar, int2D]
  · intro i _
    simp [bD, bindE, capE, consA, dVar, ndQ, VL.plain, plainQ, unroot_nil, unroot_none, sl2]
theorem rows_lc2 (t : Int) (n : Nat) (hn : n ≤ 20) : (lcF 2 [none, some 0] [0] (fun ρ => (consA (fun x => some (D.sc (V.int 5))) (consA (dVar 1) fun x => some []) ρ).bind rng2) (fun d ρ => some (bindE 0 (B.ro d) ρ)) (fun x => some true) (ndQ Kd.tup (consA (fun x => some (D.sc (V.str (Str.ofString "row")))) (consA (plainQ (dVar 0)) (consA (plainQ (dVar 1)) fun x => some []))))) [some (.ro (iD t)), some (.ro (iD n))] = some (.nd .lst ((List.range (n - 5)).map fun i : Nat => D.nd .tup [sD "row", iD (5 + i), iD t])) := by
  have e := lcF_map (n := 2) (js := [none, some 0]) (is := [0]) (fi := (fun ρ => (consA (fun x => some (D.sc (V.int 5))) (consA (dVar 1) fun x => some []) ρ).bind rng2)) (fg := (fun d ρ => some (bindE 0 (B.ro d) ρ))) (ft := (fun x => some true)) (fe := (ndQ Kd.tup (consA (fun x => some (D.sc (V.str (Str.ofString "row")))) (consA (plainQ (dVar 0)) (consA (plainQ (dVar 1)) fun x => some []))))) (ρ := [some (.ro (iD t)), some (.ro (iD n))]) (List.range (n - 5)) (fun i : Nat => D.sc (.int (5 + (i : Int)))) (fun _ => true) (fun i : Nat => D.nd .tup [sD "row", iD (5 + i), iD t]) ?_ (by rw [List.length_range]; exact Nat.le_trans (Nat.le_trans (Nat.sub_le n 5) hn) (by decide)) rfl ?_
  · rw [e, List.filter_eq_self.mpr (fun _ _ => rfl)]
  · refine Option.bind_eq_some_iff.mpr ⟨[iD 5, iD n], ?_, ?_⟩
    · simp [bD, consA, dVar]
    · unfold rng2
      dsimp only
      rw [if_pos ⟨by omega, by omega, by omega, by omega⟩]
      rw [show ((n : Int) - 5).toNat = n - 5 by omega]
      rfl
  · intro i _
    simp [bD, bindE, capE, consA, dVar, ndQ, VL.plain, plainQ, unroot_nil, unroot_ro, unroot_none, sl3]
theorem Lrows_ok (t : Int) (n : Nat) (h : n ≤ 20) : ∃ R : List D, Rws R ∧ R.length = n ∧ G_Lrows K C [iD t, iD n] = some (.nd .tup R) := by
  have e1 := rows_lc1 t n h
  have e2 := rows_lc2 t n h
  have l1 : ((List.range (min n 5)).map fun i : Nat => D.nd .tup [sD "row", iD i]).length + ((List.range (n - 5)).map fun i : Nat => D.nd .tup [sD "row", iD (5 + i), iD t]).length = n := by simp; omega
  have r1 : Rws ((List.range (min n 5)).map fun i : Nat => D.nd .tup [sD "row", iD i]) := fun d hd => by
    obtain ⟨i, _, rfl⟩ := List.mem_map.mp hd
    exact .a "row" i (by decide +kernel)
  have r2 : Rws ((List.range (n - 5)).map fun i : Nat => D.nd .tup [sD "row", iD (5 + i), iD t]) := fun d hd => by
    obtain ⟨i, _, rfl⟩ := List.mem_map.mp hd
    exact .b "row" (5 + i) t (by decide +kernel)
  generalize ((List.range (min n 5)).map fun i : Nat => D.nd .tup [sD "row", iD i]) = R1 at *
  generalize ((List.range (n - 5)).map fun i : Nat => D.nd .tup [sD "row", iD (5 + i), iD t]) = R2 at *
  have h3 : R1.length + R2.length ≤ sizeLine := Nat.le_trans (by omega : _ ≤ 20) (by decide)
  have p3 := (r1.app r2).plain
  refine ⟨R1 ++ R2, r1.app r2, by rw [List.length_append]; exact l1, ?_⟩
  unfold G_Lrows f_Lrows b_Lrows
  dsimp only
  generalize (lcF 2 [none] [0] (fun ρ => (consA (fun ρ => (consA (dVar 1) (consA (fun x => some (D.sc (V.int 5))) fun x => some []) ρ).bind (int2D fun i j => V.int (if j < i then j else i))) (fun x => some []) ρ).bind rng1) (fun d ρ => some (bindE 0 (B.ro d) ρ)) (fun x => some true) (ndQ Kd.tup (consA (fun x => some (D.sc (V.str (Str.ofString "row")))) (consA (plainQ (dVar 0)) fun x => some [])))) = FA at e1 ⊢
  generalize (lcF 2 [none, some 0] [0] (fun ρ => (consA (fun x => some (D.sc (V.int 5))) (consA (dVar 1) fun x => some []) ρ).bind rng2) (fun d ρ => some (bindE 0 (B.ro d) ρ)) (fun x => some true) (ndQ Kd.tup (consA (fun x => some (D.sc (V.str (Str.ofString "row")))) (consA (plainQ (dVar 0)) (consA (plainQ (dVar 1)) fun x => some []))))) = FB at e2 ⊢
  simp [e1, e2, p3, h3, addV, addD, bodyP, consA, op2, retF, tupD]
end K28
namespace K28
open PySem L2 VL
variable {K : W.Frag} {C : Addr} [ClsI K C]
theorem forL_evJ {fg : D → En → Option En} {fb : En → Option Fl} {Q : Fl → Prop} {N : Nat} (P : Nat → En → Prop) (st : ∀ j : Nat, j < N → ∀ ρ, P j ρ → ∃ ρ1, fg (iD (j : Int)) ρ = some ρ1 ∧ Ev fb ρ1 fun fl => match fl with | .nx ρ2 => P (j + 1) ρ2 | .ct ρ2 => P (j + 1) ρ2 | .bk ρ2 => Q (.nx ρ2) | .rt d ρ2 => Q (.rt d ρ2))
    (hd : ∀ ρ, P N ρ → Q (.nx ρ)) : ∀ (k i : Nat) (ρ : En), i + k = N → P i ρ → ∃ fl, forL fg fb ((List.range' i k).map fun i : Nat => iD (i : Int)) ρ = some fl ∧ Q fl
  | 0, i, ρ, hN, p => ⟨_, rfl, hd ρ (by rw [← hN]; exact p)⟩
  | k + 1, i, ρ, hN, p => by
    obtain ⟨ρ1, e1, fl, e2, h⟩ := st i (by omega) ρ p
    rw [List.range'_succ, List.map_cons, forL, e1]
    show ∃ fl, (fb ρ1).bind _ = some fl ∧ Q fl
    rw [e2]
    cases fl with
    | nx ρ2 => exact forL_evJ P st hd k (i + 1) ρ2 (by omega) h
    | ct ρ2 => exact forL_evJ P st hd k (i + 1) ρ2 (by omega) h
    | bk ρ2 => exact ⟨_, rfl, h⟩
    | rt d ρ2 => exact ⟨_, rfl, h⟩
theorem rngD_r (m : Nat) : rngD 0 m = (List.range' 0 m).map fun i : Nat => iD (i : Int) := by rw [rngD_eq, List.range_eq_range']
theorem Ev.forJ {fi : En → Option (List D)} {fg : D → En → Option En} {fb : En → Option Fl} {ρ : En} {Q : Fl → Prop} {m : Nat} (hi : fi ρ = some (rngD 0 m)) (P : Nat → En → Prop) (h0 : P 0 ρ)
    (st : ∀ j : Nat, j < m → ∀ ρ, P j ρ → ∃ ρ1, fg (iD (j : Int)) ρ = some ρ1 ∧ Ev fb ρ1 fun fl => match fl with | .nx ρ2 => P (j + 1) ρ2 | .ct ρ2 => P (j + 1) ρ2 | .bk ρ2 => Q (.nx ρ2) | .rt d ρ2 => Q (.rt d ρ2)) (hd : ∀ ρ, P m ρ → Q (.nx ρ)) :
    Ev (fun ρ => (fi ρ).bind fun ds => forL fg fb ds ρ) ρ Q := by
  show ∃ fl, (fi ρ).bind _ = some fl ∧ Q fl
  rw [hi]
  show ∃ fl, forL fg fb (rngD 0 m) ρ = some fl ∧ Q fl
  rw [rngD_r]
  exact forL_evJ P st hd m 0 ρ (by omega) h0
theorem Ev.forM1J {fa : En → Option (List D × En)} {fg : D → En → Option En} {fb : En → Option Fl} {ρ ρ0 : En} {as : List D} {m : Nat} {Q : Fl → Prop} (h1 : fa ρ = some (as, ρ0)) (h2 : rng1 as = some (rngD 0 m)) (P : Nat → En → Prop) (h0 : P 0 ρ0)
    (st : ∀ j : Nat, j < m → ∀ ρ, P j ρ → ∃ ρ1, fg (iD (j : Int)) ρ = some ρ1 ∧ Ev fb ρ1 fun fl => match fl with | .nx ρ2 => P (j + 1) ρ2 | .ct ρ2 => P (j + 1) ρ2 | .bk ρ2 => Q (.nx ρ2) | .rt d ρ2 => Q (.rt d ρ2)) (hd : ∀ ρ, P m ρ → Q (.nx ρ)) :
    Ev (VL.forM1 fa fg fb) ρ Q := by
  unfold Ev VL.forM1
  rw [h1]
  show ∃ fl, (rng1 as).bind _ = some fl ∧ Q fl
  rw [h2]
  show ∃ fl, forL fg fb (rngD 0 m) ρ0 = some fl ∧ Q fl
  rw [rngD_r]
  exact forL_evJ P st hd m 0 ρ0 (by omega) h0
theorem Ev.ret {f : En → Option (D × En)} {ρ ρ' : En} {d : D} {Q : Fl → Prop} (h : f ρ = some (d, ρ')) (q : Q (.rt d ρ')) : Ev (retF f) ρ Q := ⟨_, retF_ok h, q⟩
theorem Ev.ifN {fc : En → Option (Bool × En)} {a b : En → Option Fl} {ρ ρ1 : En} {Q : Fl → Prop} (h : fc ρ = some (false, ρ1)) (hb : Ev b ρ1 Q) : Ev (ifF fc a b) ρ Q := by
  obtain ⟨fl, e, q⟩ := hb
  refine ⟨fl, ?_, q⟩
  unfold ifF
  rw [h]
  exact e
theorem Ev.ifS {fc : En → Option (Bool × En)} {a u : En → Option Fl} {ρ ρ1 : En} {Q : Fl → Prop} (h : fc ρ = some (false, ρ1)) (hu : Ev u ρ1 Q) : Ev (seqF (ifF fc a fun ρ => some (.nx ρ)) u) ρ Q :=
  Ev.seq (Ev.ifN h ⟨.nx ρ1, rfl, hu⟩)
theorem led_ok (l : List D) (hl : Lp l) (m : Nat) (h0 : 0 < m) (hm : m < 50) (hn : ∀ f ∈ fns, NoAttr K C f) : ∃ (nu te : Int) (R : List D) (vo : D) (l' : List D), 0 ≤ nu ∧ nu < m ∧ 1 ≤ te ∧ Rws R ∧ R.length ≤ 3 ∧ (m = 1 → R.length = 0) ∧ Lp l' ∧
    G_Lled K C [.nd .lst l, iD m] = some (mD C nu m te te R 0 "leads" vo (szD []), [.nd .lst l']) := by
  have hg : ∀ (M : D), getP M [] = some M := fun M => by cases M <;> rfl
  have hs : ∀ (M e : D), setP M [] e = e := fun M e => by cases M <;> rfl
  obtain ⟨nu, l1, n0, n1, hl1, e1⟩ := pick_ok (K := K) (C := C) l hl (m : Int) (by omega) (Int.lt_of_le_of_lt (b := 50) (by omega) (by decide))
  obtain ⟨d, l2, d0, d4, hl2, e2⟩ := pick_ok (K := K) (C := C) l1 hl1 4 (by decide) (by decide)
  have hi := init_ok (K := K) (C := C) nu m hn
  have h0' : (m : Int) ≠ 0 := by omega
  have hte : 1 ≤ nxt nu m 0 := by
    unfold nxt
    have := Int.emod_nonneg (nu - (0 + 1)) h0'
    omega
  obtain ⟨te, hte'⟩ : ∃ te, te = nxt nu m 0 := ⟨_, rfl⟩
  obtain ⟨kk, hkk⟩ : ∃ kk : Nat, (kk : Int) = (if 0 < te - 1 then d else 0) := ⟨(if 0 < te - 1 then d else 0).toNat, by split <;> omega⟩
  have hk3 : (kk : Int) ≤ 3 := by rw [hkk]; split <;> omega
  obtain ⟨R, hR, hRl, e3⟩ := Lrows_ok (K := K) (C := C) (te - 1) kk (by omega)
  have hp : 0 < te - 1 ∨ (te - 1 = 0 ∧ R = []) := by
    by_cases c : 0 < te - 1
    · exact .inl c
    · rw [if_neg c] at hkk
      exact .inr ⟨by omega, List.eq_nil_of_length_eq_zero (by omega)⟩
  have hR3 : R.length ≤ 3 := by omega
  have hone : m = 1 → R.length = 0 := fun h1 => by
    rcases hp with z | ⟨_, z⟩
    · exfalso
      subst h1
      have e : nxt nu (1 : Nat) 0 = 1 := by
        unfold nxt
        have : (nu - (0 + 1)) % ((1 : Nat) : Int) = 0 := Int.emod_one _
        omega
      omega
    · rw [z]; rfl
  obtain ⟨M1, ans, hM1, hris⟩ : ∃ M1 ans, PL C nu te (te - 1) m R 0 M1 ∧ G_Master_rise K C [mD C nu m 0 0 [] 0 "hears" (.nd (.dic []) []) (.nd (.dic []) [])] = some (ans, [M1]) := by
    by_cases h1 : m = 1
    · subst h1
      have hR0 : R = [] := by
        rcases hp with z | ⟨_, z⟩
        · exfalso
          have e : nxt nu (1 : Nat) 0 = 1 := by
            unfold nxt
            have : (nu - (0 + 1)) % ((1 : Nat) : Int) = 0 := Int.emod_one _
            omega
          omega
        · exact z
      subst hR0
      obtain ⟨ans, e⟩ := rise_ok (K := K) (C := C) nu 0 0 _ 1 0 "hears" _ (.nd (.dic []) []) (.nd (.dic []) []) _ [] Rws.nil (by simp) (by decide) (by decide) [] (lead_one nu (nxt nu (1 : Nat) 0) 0 [] 0 "stands" (.nd (.dic []) []) Rws.nil (by simp))
      exact ⟨_, ans, .inr ⟨rfl, _, by rw [hte']; rfl⟩, e⟩
    · obtain ⟨ans, e⟩ := rise_ok (K := K) (C := C) nu 0 0 _ m 0 "hears" _ (.nd (.dic []) []) (.nd (.dic []) []) _ [] Rws.nil (by simp) h0 (by omega) [] (lead_no nu (nxt nu m 0) 0 m 1 [] 0 "stands" (.nd (.dic [.inl nu]) [vcD 0 []]) (.nd (.dic []) []) (by simp [lenD]) (by omega))
      refine ⟨_, ans, .inl ⟨by omega, [.inl nu], by simp, rfl, fun k hk => ⟨0, Nat.le_refl _, ?_⟩, by rw [hte']; rfl⟩, e⟩
      rw [List.mem_singleton.mp hk]
      congr 1
      rw [show nu + ((0 : Nat) : Int) = nu by omega, Int.emod_eq_of_lt n0 n1]
  have pfac : ∀ j M, PL C nu te (te - 1) m R j M → VL.plain M = false ∧ fldD "number" M = some (iD nu) ∧ fldD "term" M = some (iD te) ∧ isObjOf C "hear" M = true := fun j M h => by
    rcases h with ⟨_, ks, _, _, _, rfl⟩ | ⟨_, vo, rfl⟩ <;> exact ⟨m_plain _ _ _ _ _ _ _ _ _, fl_number _ _ _ _ _ _ _ _ _, fl_term _ _ _ _ _ _ _ _ _, obj_of (by decide +kernel) _ _ _ _ _ _ _ _ _⟩
  have obr := obj_of (C := C) (m := "rise") (by decide +kernel) nu m 0 0 [] 0 "hears" (.nd (.dic []) []) (.nd (.dic []) [])
  have p0 := m_plain (C := C) nu m 0 0 [] 0 "hears" (.nd (.dic []) []) (.nd (.dic []) [])
  obtain ⟨p1, fn1, ft1, _⟩ := pfac 0 M1 hM1
  have pR := hR.plain
  generalize mD C nu m 0 0 [] 0 "hears" (.nd (.dic []) []) (.nd (.dic []) []) = A0 at *
  have key : ∃ dd oo, G_Lled K C [.nd .lst l, iD m] = some (dd, oo) ∧ ∃ vo, dd = mD C nu m te te R 0 "leads" vo (szD []) ∧ oo = [.nd .lst l2] := by
    unfold G_Lled f_Lled b_Lled
    dsimp only
    refine bodyI_ev ?_
    refine Ev.nx (ρ' := [some (.ali 7 []), some (.ro (iD m)), some (.own A0), none, none, none, none, some (.own (.nd .lst l1))]) (by
      generalize G_Lpick K C = GP at *
      generalize G_Master_init K C = GI at *
      simp [e1, hi, List.replicate, apartP, arD, arDs, arIos, asgM, bD, bindE, cIo, cRv, callR, consM, dVar, envI, finE, getP, holeE, ioL, isNon, makeM, mvVar, owns, parB, plD, plVar, VL.plain, prune, pruneB, putE, rootD, rootsApart, rvOk, setP, unroot_nil, unroot_own, unroot_ro, unroot_none, unroot_ali]) ?_
    refine Ev.nx (ρ' := [some (.ali 7 []), some (.ro (iD m)), some (.own M1), none, none, none, none, some (.own (.nd .lst l1))]) (by
      generalize G_Master_rise K C = GR at *
      simp [hris, obr, arD, arDs, arIos, callR, dropF, finE, getP, holeE, methI, plD, plVar, prune, pruneB, putE, rootD, rootsApart, rvOk, setP]) ?_
    refine Ev.nx (ρ' := [some (.ali 7 []), some (.ro (iD m)), some (.own M1), some (.own (iD (te - 1))), none, none, none, some (.own (.nd .lst l1))]) (by
      simp [ft1, asgM, bD, bindE, dVar, int0, op2, unroot_nil, unroot_own, unroot_ro, unroot_none, unroot_ali]) ?_
    refine Ev.nx (ρ' := [some (.ali 7 []), some (.ro (iD m)), some (.own M1), some (.own (iD (te - 1))), some (.own (.nd .tup R)), none, none, some (.own (.nd .lst l2))]) (by
      generalize G_Lpick K C = GP at *
      generalize G_Lrows K C = GW at *
      by_cases c : 0 < te - 1
      · rw [if_pos c] at hkk
        rw [hkk] at e3
        have c' : 1 < te := by omega
        simp [e2, e3, c', apartP, arD, arDs, arIos, asgM, bD, bindE, cIo, cTm, callR, consA, consM, dVar, finE, getP, holeE, int0, int1D, intD, callPM, mvVar, op2, op2M, plVar, VL.plain, prune, pruneB, putE, rootD, rootsApart, rvOk, setP, CMul, unroot_nil, unroot_own, unroot_ro, unroot_none, unroot_ali]
      · rw [if_neg c] at hkk
        rw [hkk] at e3
        have c' : ¬ 1 < te := by omega
        simp [e2, e3, c', apartP, arD, arDs, arIos, asgM, bD, bindE, cIo, cTm, callR, consA, consM, dVar, finE, getP, holeE, int0, int1D, intD, callPM, mvVar, op2, op2M, plVar, VL.plain, prune, pruneB, putE, rootD, rootsApart, rvOk, setP, CMul, unroot_nil, unroot_own, unroot_ro, unroot_none, unroot_ali]) ?_
    refine Ev.seq (Ev.forJ (m := m / 2) (Option.bind_eq_some_iff.mpr ⟨[iD ((m / 2 : Nat) : Int)], ?_, rng1_ok (m / 2) (by omega)⟩) (fun j ρ => ∃ (M : D) (x5 x6 : Option B), NA x5 ∧ NA x6 ∧ PL C nu te (te - 1) m R j M ∧ ρ = [some (.ali 7 []), some (.ro (iD m)), some (.own M), some (.own (iD (te - 1))), some (.own (.nd .tup R)), x5, x6, some (.own (.nd .lst l2))]) ⟨M1, none, none, na_none, na_none, hM1, rfl⟩ ?_ ?_)
    · have hd : ((m / 2 : Nat) : Int) = (m : Int) / 2 := by omega
      rw [hd]
      simp [bD, consA, dVar, intD, op2, CDivL]
    · rintro j hj ρ ⟨M, x5, x6, hx5, hx6, hM, rfl⟩
      obtain ⟨pM, fn, ft, ob⟩ := pfac j M hM
      obtain ⟨M', hM', hh⟩ := pl_step (K := K) (C := C) nu te (te - 1) m R j M hR (by omega) hp hj (by omega) hM
      obtain ⟨pM', _⟩ := pfac (j + 1) M' hM'
      have hmp : (0 : Int) < m := by omega
      refine ⟨[some (.ali 7 []), some (.ro (iD m)), some (.own M), some (.own (iD (te - 1))), some (.own (.nd .tup R)), some (.ro (iD j)), x6, some (.own (.nd .lst l2))], (by simp [unroot_na hx5, unroot_na hx6, bindE, unroot_nil, unroot_own, unroot_ro, unroot_ali]), ?_⟩
      refine Ev.nx (ρ' := [some (.ali 7 []), some (.ro (iD m)), some (.own M), some (.own (iD (te - 1))), some (.own (.nd .tup R)), some (.ro (iD j)), some (.own (iD ((nu + 1 + j) % m))), some (.own (.nd .lst l2))]) (by simp [fn, h0, unroot_na hx6, addV, addD, asgM, bD, bindE, dVar, intD, op2, unroot_nil, unroot_own, unroot_ro, unroot_ali]) ⟨.nx [some (.ali 7 []), some (.ro (iD m)), some (.own M'), some (.own (iD (te - 1))), some (.own (.nd .tup R)), some (.ro (iD j)), some (.own (iD ((nu + 1 + j) % m))), some (.own (.nd .lst l2))], ?_, ⟨M', _, _, na_ro, na_own, hM', rfl⟩⟩
      generalize (nu + 1 + (j : Int)) % m = ot at *
      generalize G_Master_hear K C = GH at *
      simp [fn, ft, ob, hh, pR, arD, arDs, arIos, bD, cTm, callR, consA, dVar, dropF, finE, getP, holeE, methI, ndQ, plD, plVar, VL.plain, plainQ, prune, pruneB, putE, rootD, rootsApart, rvOk, setP, sl6]
    · rintro ρ ⟨M, x5, x6, hx5, hx6, hM, rfl⟩
      rcases hM with ⟨z, _⟩ | ⟨_, vo, rfl⟩
      · omega
      · have pM := m_plain (C := C) nu m te te R 0 "leads" vo (szD [])
        refine Ev.ret (d := mD C nu m te te R 0 "leads" vo (szD [])) (ρ' := [some (.ali 7 []), some (.ro (iD m)), none, some (.own (iD (te - 1))), some (.own (.nd .tup R)), x5, x6, some (.own (.nd .lst l2))]) ?_ ⟨_, rfl, vo, rfl, rfl⟩
        generalize mD C nu m te te R 0 "leads" vo (szD []) = M at *
        simp [pM, bD, dVar, mvVar]
  obtain ⟨dd, oo, e, vo, rfl, rfl⟩ := key
  exact ⟨nu, te, R, vo, l2, n0, n1, by rw [hte']; exact hte, hR, hR3, hone, hl2, e⟩
end K28
namespace K28
open PySem L2 VL
variable {K : W.Frag} {C : Addr} [ClsI K C]
theorem f_five (nu ma te o : Int) (L : List D) (dn : Int) (role : Str) : ixV ixU ixS (fD nu ma te o L dn role) (iD 5) = some (iD dn) := by
  simp [fD, ixD, ixN, ixU, ixV, kidD]
theorem f_cut4 (nu ma te o dw : Int) (L L' : List D) (dn : Int) (role : Str) : ∃ A, slV (fD nu ma te o L dn role) none (some 4) = some A ∧ addV A (.nd .tup [.nd .lst L', iD dw, sD "leads"]) = some (fD nu ma te o L' dw "leads") := by
  refine ⟨.nd .tup [iD nu, iD ma, iD te, iD o], ?_, ?_⟩
  · simp [fD, cutD, HT.sIx, slV]
  · simp [fD, addV, sl7]
theorem add_l (L : List D) (r : D) (hL : Rws L) (hr : RowD r) (hz : L.length < 90) : addV (.nd .lst L) (.nd .lst [r]) = some (.nd .lst (L ++ [r])) := by
  have p1 := (hL.app (Rws.one hr)).plain
  have hz' : L.length + 1 ≤ sizeLine := Nat.le_trans (by omega : L.length + 1 ≤ 100) (by decide)
  simp [addV, addD, p1, hz']
theorem Ev.seqM {t u : En → Option Fl} {ρ : En} {Q : Fl → Prop} (R : En → Prop) (h1 : Ev t ρ fun fl => match fl with | .nx ρ' => R ρ' | _ => False) (h2 : ∀ ρ', R ρ' → Ev u ρ' Q) : Ev (seqF t u) ρ Q := by
  obtain ⟨fl, e, h⟩ := h1
  refine Ev.seq ⟨fl, e, ?_⟩
  cases fl with
  | nx ρ' => exact h2 ρ' h
  | rt _ _ => exact h.elim
  | bk _ => exact h.elim
  | ct _ => exact h.elim
def wl (m : Nat) (S : List (Int × Int)) (n : Nat) : Int := (sortI (lawS S n)).foldl (wr m (lawS S n)) 0
theorem wl_first (m n : Nat) (h : m = 1 → n = 0) (h0 : 0 < m) : wl m [] n = 0 := by
  unfold wl
  have e : sortI (lawS [] n) = [(n : Int)] := by
    refine (sortI_of (ns' := [(n : Int)]) ?_ (by simp)).symm
    exact List.Perm.refl _
  rw [e]
  show wr m (lawS [] n) 0 n = 0
  unfold wr
  by_cases h1 : m = 1
  · rw [h h1]; split <;> rfl
  · have : most m (lawS [] n) n = false := by
      show decide _ = false
      have : (lawS [] n).filter (fun x => decide ((n : Int) ≤ x)) = [(n : Int)] := by simp [lawS]
      rw [this]
      exact decide_eq_false (by simp; omega)
    rw [this]; rfl
theorem keys_put (nu : Int) (m : Nat) (S : List (Int × Int)) (k : Nat) (v : Int) (h : KeysOk nu m S) (hk : k < m) (hne : (k : Int) ≠ nu) (hv : 0 ≤ v) : KeysOk nu m (putS S k v) := by
  obtain ⟨a, b, c⟩ := h
  refine ⟨putS_nodup S k v a, fun p hp => ?_, putS_nn S k v hv c⟩
  rcases (putS_keys S k v p.1).mp (List.mem_map.mpr ⟨p, hp, rfl⟩) with e | e
  · exact ⟨k, hk, hne, e⟩
  · obtain ⟨q, hq, e⟩ := List.mem_map.mp e
    obtain ⟨k', x, y, z⟩ := b q hq
    exact ⟨k', x, y, by rw [← e]; exact z⟩
theorem pB_ali {ρ : En} {r : Nat} {p : List Nat} : pruneB ρ (some (.ali r p)) = if p = [] ∨ ((rootD ρ r).bind fun x => getP x p).isSome = true then some (.ali r p) else none := rfl
end K28
namespace K28
open PySem L2 VL
variable {K : W.Frag} {C : Addr} [ClsI K C]
theorem sz_nil : szD [] = .nd (.dic []) [] := rfl
def Wk (C : Addr) (nu te : Int) (m j : Nat) (vo : D) (l : List D) (S : List (Int × Int)) (L : List D) (dn : Int) : Prop :=
  Lp l ∧ Rws L ∧ L.length ≤ 3 + j ∧ 0 ≤ dn ∧ KeysOk nu m S ∧ S.length ≤ j ∧ wl m S L.length ≤ dn
theorem walked_ok (l : List D) (hl : Lp l) (nu te : Int) (m : Nat) (R : List D) (vo : D) (h0 : 0 < m) (hm : m < 50) (n0 : 0 ≤ nu) (n1 : nu < m) (ht : 1 ≤ te) (hR : Rws R) (hR3 : R.length ≤ 3) (hone : m = 1 → R.length = 0) :
    ∃ (l' : List D) (L : List D) (dn : Int) (S : List (Int × Int)), Lp l' ∧ Rws L ∧ L.length ≤ 50 ∧ G_Lwalked K C [.nd .lst l, mD C nu m te te R 0 "leads" vo (szD [])] = some (tD true, [.nd .lst l', mD C nu m te te L dn "leads" vo (szD S)]) := by
  have hg : ∀ (M : D), getP M [] = some M := fun M => by cases M <;> rfl
  have hs : ∀ (M e : D), setP M [] e = e := fun M e => by cases M <;> rfl
  obtain ⟨q, la, q0, q17, hla, ea⟩ := pick_ok (K := K) (C := C) l hl 17 (by decide) (by decide)
  obtain ⟨N, hN⟩ : ∃ N : Nat, q = (N : Int) := ⟨q.toNat, by omega⟩
  subst hN
  have key : ∃ dd oo, G_Lwalked K C [.nd .lst l, mD C nu m te te R 0 "leads" vo (szD [])] = some (dd, oo) ∧ (dd = tD true ∧ ∃ (l' L : List D) (dn : Int) (S : List (Int × Int)), Lp l' ∧ Rws L ∧ L.length ≤ 50 ∧ oo = [.nd .lst l', mD C nu m te te L dn "leads" vo (szD S)]) := by
    unfold G_Lwalked f_Lwalked b_Lwalked
    dsimp only
    refine bodyI_ev ?_
    refine Ev.nx (ρ' := [some (.ali 10 []), some (.ali 11 []), some (.own (szD [])), none, none, none, none, none, none, none, some (.own (.nd .lst l)), some (.own (mD C nu m te te R 0 "leads" vo (szD [])))]) (by
      generalize mD C nu m te te R 0 "leads" vo (szD []) = M
      simp [sz_nil, List.replicate, asgM, bindE, envI, ioL, owns, parB, unroot_nil, unroot_own, unroot_none, unroot_ali]) ?_
    refine Ev.seq (Ev.forM1J (as := [iD N]) (m := N) (ρ0 := [some (.ali 10 []), some (.ali 11 []), some (.own (szD [])), none, none, none, none, none, none, none, some (.own (.nd .lst la)), some (.own (mD C nu m te te R 0 "leads" vo (szD [])))]) (by
      generalize mD C nu m te te R 0 "leads" vo (szD []) = M
      generalize G_Lpick K C = GP at *
      generalize szD [] = W
      simp [ea, apartP, arD, arDs, arIos, cIo, cTm, callR, consM, finE, getP, holeE, plVar, prune, pruneB, putE, rootD, rootsApart, rvOk, setP]) (rng1_ok N (by omega)) (fun j ρ => ∃ (l L : List D) (dn : Int) (S : List (Int × Int)) (x3 x4 x5 x6 x7 x8 x9 : Option B), Wk C nu te m j vo l S L dn ∧ NA x3 ∧ NA x4 ∧ (NA x5 ∨ x5 = some (.ali 4 [4])) ∧ NA x6 ∧ NA x7 ∧ NA x8 ∧ NA x9 ∧ ρ = [some (.ali 10 []), some (.ali 11 []), some (.own (szD S)), x3, x4, x5, x6, x7, x8, x9, some (.own (.nd .lst l)), some (.own (mD C nu m te te L dn "leads" vo (szD S)))])
      ⟨la, R, 0, [], none, none, none, none, none, none, none, ⟨hla, hR, by omega, Int.le_refl _, ⟨by simp, (fun _ h => nomatch h), (fun _ h => nomatch h)⟩, by simp, by rw [wl_first m R.length hone h0]; exact Int.le_refl _⟩, na_none, na_none, .inl na_none, na_none, na_none, na_none, na_none, rfl⟩ ?_ ?_)
    · clear ea hla hR hR3 hone hl
      rintro j hj ρ ⟨l, L, dn, S, x3, x4, x5, x6, x7, x8, x9, ⟨hl, hL, hLl, d0, hS, hSl, hw⟩, hx3, hx4, hx5, hx6, hx7, hx8, hx9, rfl⟩
      obtain ⟨y5, hy5, hun⟩ : ∃ y5 : Option B, NA y5 ∧ ∀ r, unroot 4 (x5 :: r) = y5 :: unroot 4 r ∧ unroot 3 (x5 :: r) = x5 :: unroot 3 r := by
        rcases hx5 with h | rfl
        · exact ⟨x5, h, fun r => ⟨unroot_na h, unroot_na h⟩⟩
        · exact ⟨none, na_none, fun r => ⟨rfl, rfl⟩⟩
      have hu4 := fun r => (hun r).1
      have hu3 := fun r => (hun r).2
      have hf := fields_ok (K := K) (C := C) nu m te te L dn "leads" vo (szD S) hL
      have fm := fl_many (C := C) nu m te te L dn "leads" vo (szD S)
      have fn := fl_number (C := C) nu m te te L dn "leads" vo (szD S)
      have ft := fl_term (C := C) nu m te te L dn "leads" vo (szD S)
      have pM := m_plain (C := C) nu m te te L dn "leads" vo (szD S)
      have oa := obj_of (C := C) (m := "add") (by decide +kernel) nu m te te L dn "leads" vo (szD S)
      have oh := obj_of (C := C) (m := "hear") (by decide +kernel) nu m te te L dn "leads" vo (szD S)
      have hF4 : getP (fD nu m te te L dn "leads") [4] = some (.nd .lst L) := by
        simp [fD, getP, imm, VL.plain, plainL]
      have f5 := f_five nu m te te L dn "leads"
      have hll : lenD [.nd .lst L] = some (iD L.length) := by simp [lenD]
      have hix : ixP ixU (plVar 4) (fun x => some (D.sc (V.int 4))) [some (.ali 10 []), some (.ali 11 []), some (.own (szD S)), some (.ro (iD j)), some (.own (fD nu m te te L dn "leads")), y5, x6, x7, x8, x9, some (.own (.nd .lst l)), some (.own (mD C nu m te te L dn "leads" vo (szD S)))] = some (.rt 4 [4]) ∧ plD [some (.ali 10 []), some (.ali 11 []), some (.own (szD S)), some (.ro (iD j)), some (.own (fD nu m te te L dn "leads")), y5, x6, x7, x8, x9, some (.own (.nd .lst l)), some (.own (mD C nu m te te L dn "leads" vo (szD S)))] (.rt 4 [4]) = some (.nd .lst L) := by
        generalize mD C nu m te te L dn "leads" vo (szD S) = M at *
        constructor
        · simp [fD, dkPos, getP, ixD, ixN, ixP, ixU, keyOf, kidD, plD, plKid, plVar, VL.plain, plainL, rootD]
        · simp [fD, getP, imm, plD, VL.plain, plainL, rootD]
      have hcut : ∀ (dw : Int) (L' : List D), ∃ A, slV (fD nu m te te L dn "leads") none (some 4) = some A ∧ addV A (.nd .tup [.nd .lst L', iD dw, sD "leads"]) = some (fD nu m te te L' dw "leads") := fun dw L' => f_cut4 nu m te te dw L L' dn "leads"
      generalize hF : fD nu m te te L dn "leads" = F at hf hF4 f5 hix hcut
      obtain ⟨hix1, hix2⟩ := hix
      refine ⟨[some (.ali 10 []), some (.ali 11 []), some (.own (szD S)), some (.ro (iD j)), x4, x5, x6, x7, x8, x9, some (.own (.nd .lst l)), some (.own (mD C nu m te te L dn "leads" vo (szD S)))], (by
        generalize mD C nu m te te L dn "leads" vo (szD S) = M at *
        generalize szD S = W at *
        simp [hu3, unroot_na hx3, unroot_na hx4, unroot_na hx6, unroot_na hx7, unroot_na hx8, unroot_na hx9, bindE, unroot_nil, unroot_own, unroot_ali]), ?_⟩
      refine Ev.nx (ρ' := [some (.ali 10 []), some (.ali 11 []), some (.own (szD S)), some (.ro (iD j)), some (.own F), y5, x6, x7, x8, x9, some (.own (.nd .lst l)), some (.own (mD C nu m te te L dn "leads" vo (szD S)))]) (by
        generalize mD C nu m te te L dn "leads" vo (szD S) = M at *
        generalize szD S = W at *
        generalize G_Lfields K C = GF at *
        simp [hf, hu4, unroot_na hx4, unroot_na hx6, unroot_na hx7, unroot_na hx8, unroot_na hx9, asgM, bD, bindE, consA, dVar, getP, rootD, unroot_nil, unroot_own, unroot_ro, unroot_ali]) ?_
      refine Ev.nx (ρ' := [some (.ali 10 []), some (.ali 11 []), some (.own (szD S)), some (.ro (iD j)), some (.own F), some (.ali 4 [4]), x6, x7, x8, x9, some (.own (.nd .lst l)), some (.own (mD C nu m te te L dn "leads" vo (szD S)))]) (Option.bind_eq_some_iff.mpr ⟨.rt 4 [4], hix1, Option.bind_eq_some_iff.mpr ⟨.nd .lst L, hix2, by
        rw [if_neg (by simp [VL.plain])]
        clear hix1 hix2
        generalize mD C nu m te te L dn "leads" vo (szD S) = M at *
        generalize szD S = W at *
        simp [unroot_na hy5, unroot_na hx6, unroot_na hx7, unroot_na hx8, unroot_na hx9, bindE, unroot_nil, unroot_own, unroot_ro, unroot_ali]⟩⟩) ?_
      clear hix1 hix2 hu4 hu3 hun hx5
      refine Ev.seqM (fun ρ' => ∃ (l' L' : List D) (dn' : Int) (S' : List (Int × Int)) (z5 z6 z7 z8 z9 : Option B), Lp l' ∧ Rws L' ∧ L'.length ≤ L.length + 1 ∧ KeysOk nu m S' ∧ S'.length ≤ S.length + 1 ∧ dn' = (if wl m S' L'.length > dn then wl m S' L'.length else dn) ∧ (z5 = some (.own (.nd .lst L')) ∨ (z5 = some (.ali 4 [4]) ∧ L' = L)) ∧ NA z6 ∧ NA z7 ∧ NA z8 ∧ NA z9 ∧ ρ' = [some (.ali 10 []), some (.ali 11 []), some (.own (szD S')), some (.ro (iD j)), some (.own F), z5, z6, z7, z8, z9, some (.own (.nd .lst l')), some (.own (mD C nu m te te L' dn' "leads" vo (szD S')))]) ?_ ?_
      · have hcond : ∃ (l1 : List D) (c : Bool), Lp l1 ∧ (c = false → m ≠ 1) ∧ VL.orM (fun ρ => Option.map (fun b => (b, ρ)) ((op2 (eqP id) (fun ρ => (dVar 1 ρ).bind (fldD (Str.ofString "many"))) (fun x => some (D.sc (V.int 1))) ρ).bind fun x => match x with | D.sc (V.bl b) => some b | x => none))
            (VL.andM (fun ρ => Option.map (fun b => (b, ρ)) ((op2 (int0 fun i j => V.bl (decide (i < j))) (fun ρ => (consA (dVar 5) (fun x => some []) ρ).bind lenD) (fun x => some (D.sc (V.int 12))) ρ).bind fun x => match x with | D.sc (V.bl b) => some b | x => none))
              (tstM (op2M (eqP id) (fun ρ => (Option.map (fun a => (a, ρ)) (cIo (plVar 0) (cTm (fun x => some (D.sc (V.int 3))) fun x => some []) ρ)).bind fun a => callR (G_Lpick K C) a.fst a.snd) fun ρ => Option.map (fun d => (d, ρ)) (some (D.sc (V.int 0)))))) [some (.ali 10 []), some (.ali 11 []), some (.own (szD S)), some (.ro (iD j)), some (.own F), some (.ali 4 [4]), x6, x7, x8, x9, some (.own (.nd .lst l)), some (.own (mD C nu m te te L dn "leads" vo (szD S)))] = some (c, [some (.ali 10 []), some (.ali 11 []), some (.own (szD S)), some (.ro (iD j)), some (.own F), some (.ali 4 [4]), x6, x7, x8, x9, some (.own (.nd .lst l1)), some (.own (mD C nu m te te L dn "leads" vo (szD S)))]) := by
          clear hcut hf f5 oa oh fn ft pM
          generalize mD C nu m te te L dn "leads" vo (szD S) = M at *
          generalize szD S = W at *
          by_cases h1 : m = 1
          · have h1' : (m : Int) = 1 := by omega
            refine ⟨l, true, hl, (fun z => nomatch z), ?_⟩
            simp [fm, eq0, h1', VL.andM, bD, cIo, cTm, callR, consA, dVar, finE, getP, int0, op2, op2M, VL.orM, plVar, prune, rootD, rootsApart, rvOk, tstM]
          · have h1' : ¬ (m : Int) = 1 := by omega
            by_cases h12 : (L.length : Int) < 12
            · obtain ⟨d, l1, _, _, hl1, e1⟩ := pick_ok (K := K) (C := C) l hl 3 (by decide) (by decide)
              generalize G_Lpick K C = GP at *
              refine ⟨l1, decide (d = 0), hl1, fun _ => h1, ?_⟩
              simp [fm, eq0, h1', hF4, hll, h12, e1, pB_ali, rootD, pruneB_na hx6, pruneB_na hx7, pruneB_na hx8, pruneB_na hx9, VL.andM, apartP, arD, arDs, arIos, bD, cIo, cTm, callR, consA, dVar, finE, getP, holeE, int0, op2, op2M, VL.orM, plVar, prune, pB_own, pB_ro, putE, rootD, rootsApart, rvOk, setP, tstM]
            · refine ⟨l, false, hl, fun _ => h1, ?_⟩
              simp [fm, eq0, h1', hF4, hll, h12, VL.andM, bD, cIo, cTm, callR, consA, dVar, finE, getP, int0, op2, op2M, VL.orM, plVar, prune, rootD, rootsApart, rvOk, tstM]
        obtain ⟨l1, c, hl1, hc1, hcond⟩ := hcond
        cases c with
        | true =>
          refine Ev.ifT hcond ?_
          clear hcond
          obtain ⟨x, l2, _, _, hl2, e2⟩ := pick_ok (K := K) (C := C) l1 hl1 2 (by decide) (by decide)
          have hr : RowD (.nd .tup [sD "row", iD j, iD x]) := .b "row" j x (by decide +kernel)
          obtain ⟨dn', hdn, had⟩ := add_yes (K := K) (C := C) nu te te m L dn vo _ S hL hr (by omega) (by omega)
          have hal := add_l L _ hL hr (by omega)
          have pr := hr.plain
          have hL' := hL.app (Rws.one hr)
          have hlen : (L ++ [D.nd .tup [sD "row", iD j, iD x]]).length = L.length + 1 := by simp
          have pM' := m_plain (C := C) nu m te te (L ++ [D.nd .tup [sD "row", iD j, iD x]]) dn' "leads" vo (szD S)
          rw [written_eq nu m (L.length + 1) S dn d0 hS] at hdn
          have hR : ∃ (l' L' : List D) (dn'' : Int) (S' : List (Int × Int)) (z5 z6 z7 z8 z9 : Option B), Lp l' ∧ Rws L' ∧ L'.length ≤ L.length + 1 ∧ KeysOk nu m S' ∧ S'.length ≤ S.length + 1 ∧ dn'' = (if wl m S' L'.length > dn then wl m S' L'.length else dn) ∧ (z5 = some (.own (.nd .lst L')) ∨ (z5 = some (.ali 4 [4]) ∧ L' = L)) ∧ NA z6 ∧ NA z7 ∧ NA z8 ∧ NA z9 ∧ [some (.ali 10 []), some (.ali 11 []), some (.own (szD S)), some (.ro (iD j)), some (.own F), some (.own (.nd .lst (L ++ [D.nd .tup [sD "row", iD j, iD x]]))), some (.own (.nd .tup [sD "row", iD j, iD x])), x7, x8, x9, some (.own (.nd .lst l2)), some (.own (mD C nu m te te (L ++ [D.nd .tup [sD "row", iD j, iD x]]) dn' "leads" vo (szD S)))] = [some (.ali 10 []), some (.ali 11 []), some (.own (szD S')), some (.ro (iD j)), some (.own F), z5, z6, z7, z8, z9, some (.own (.nd .lst l')), some (.own (mD C nu m te te L' dn'' "leads" vo (szD S')))] :=
            ⟨l2, L ++ [D.nd .tup [sD "row", iD j, iD x]], dn', S, _, _, x7, x8, x9, hl2, hL', by rw [hlen]; exact Nat.le_refl _, hS, by omega, by rw [hlen]; exact hdn, .inl rfl, na_own, hx7, hx8, hx9, rfl⟩
          generalize hr0 : D.nd .tup [sD "row", iD j, iD x] = r at *
          refine Ev.nx (ρ' := [some (.ali 10 []), some (.ali 11 []), some (.own (szD S)), some (.ro (iD j)), some (.own F), some (.ali 4 [4]), some (.own r), x7, x8, x9, some (.own (.nd .lst l2)), some (.own (mD C nu m te te L dn "leads" vo (szD S)))]) ?_ (Ev.ifS (ρ1 := [some (.ali 10 []), some (.ali 11 []), some (.own (szD S)), some (.ro (iD j)), some (.own F), some (.ali 4 [4]), some (.own r), x7, x8, x9, some (.own (.nd .lst l2)), some (.own (mD C nu m te te (L ++ [r]) dn' "leads" vo (szD S)))]) ?_ ⟨.nx [some (.ali 10 []), some (.ali 11 []), some (.own (szD S)), some (.ro (iD j)), some (.own F), some (.own (.nd .lst (L ++ [r]))), some (.own r), x7, x8, x9, some (.own (.nd .lst l2)), some (.own (mD C nu m te te (L ++ [r]) dn' "leads" vo (szD S)))], ?_, hR⟩)
          · clear hR had hcut
            generalize mD C nu m te te L dn "leads" vo (szD S) = M at *
            generalize szD S = W at *
            generalize G_Lpick K C = GP at *
            subst hr0
            simp [e2, hF4, pB_ali, rootD, unroot_na hx6, pruneB_na hx6, unroot_na hx7, pruneB_na hx7, unroot_na hx8, pruneB_na hx8, unroot_na hx9, pruneB_na hx9, apartP, arD, arDs, arIos, asgM, bD, bindE, cIo, cTm, callR, consM, dVar, finE, getP, holeE, mvVar, plVar, VL.plain, prune, pB_own, pB_ro, putE, rootD, rootsApart, rvOk, setP, tupM, unroot_nil, unroot_own, unroot_ro, unroot_ali, sl3]
          · clear hR hcut
            generalize mD C nu m te te L dn "leads" vo (szD S) = M at *
            generalize mD C nu m te te (L ++ [r]) dn' "leads" vo (szD S) = M' at *
            generalize szD S = W at *
            generalize G_Master_add K C = GA at *
            generalize kmsgs nu te m (L ++ [r]) dn' = X at *
            simp [had, oa, pr, hF4, pB_ali, rootD, pruneB_na hx7, pruneB_na hx8, pruneB_na hx9, arD, arDs, arIos, cRv, callR, finE, getP, holeE, isND, isNo, methI, op2M, plD, plVar, prune, pB_own, pB_ro, putE, rootD, rootsApart, rvOk, setP, tstM]
          · clear hR hcut had
            generalize mD C nu m te te (L ++ [r]) dn' "leads" vo (szD S) = M' at *
            generalize szD S = W at *
            have hal' : addD (.nd .lst L) (.nd .lst [r]) = some (.nd .lst (L ++ [r])) := hal
            simp [hal', pr, hF4, rootD, unroot_na hx7, unroot_na hx8, unroot_na hx9, asgM, bD, bindE, consA, dVar, ndQ, op2, plainQ, rootD, unroot_nil, unroot_own, unroot_ro, unroot_ali, sl1]
        | false =>
          refine Ev.ifN hcond ?_
          clear hcond
          have hm1 : m ≠ 1 := hc1 rfl
          have hmp : (0 : Int) < m := by omega
          obtain ⟨d1, l2, a1, b1, hl2, e2⟩ := pick_ok (K := K) (C := C) l1 hl1 ((m : Int) - 1) (by omega) (Int.lt_of_le_of_lt (b := 50) (by omega) (by decide))
          obtain ⟨z, l3, z0, z1, hl3, e3⟩ := pick_ok (K := K) (C := C) l2 hl2 ((L.length : Int) + 1) (by omega) (Int.lt_of_le_of_lt (b := 50) (by omega) (by decide))
          obtain ⟨d3, l4, a3, b3, hl4, e4⟩ := pick_ok (K := K) (C := C) l3 hl3 6 (by decide) (by decide)
          obtain ⟨ot, hot⟩ : ∃ ot : Int, (nu + 1 + d1) % m = ot := ⟨_, rfl⟩
          have hot0 : 0 ≤ ot := by rw [← hot]; exact Int.emod_nonneg _ (by omega)
          have hot1 : ot < m := by rw [← hot]; exact Int.emod_lt_of_pos _ hmp
          have hotn : ot ≠ nu := by
            rw [← hot]
            have := emod_ne (a := nu) (b := nu + 1 + d1) (m := m) (by omega) (by omega)
            rw [Int.emod_eq_of_lt n0 n1] at this
            exact this
          obtain ⟨k, hk⟩ : ∃ k : Nat, ot = (k : Int) := ⟨ot.toNat, by omega⟩
          have hln : (lenD [.nd .lst L]) = some (iD L.length) := hll
          obtain ⟨tt, htt, hte⟩ : ∃ tt : Int, (if te - m * (if d3 = 0 then 1 else 0) > 0 then te - m * (if d3 = 0 then 1 else 0) else 0) = tt ∧ (tt = te ↔ ¬ d3 = 0) := by
            refine ⟨_, rfl, ?_⟩
            by_cases c : d3 = 0
            · rw [if_pos c]
              simp only [Int.mul_one, c, not_true_eq_false, iff_false]
              split <;> omega
            · rw [if_neg c]
              simp only [Int.mul_zero, Int.sub_zero, c, not_false_eq_true, iff_true]
              rw [if_pos (by omega)]
          have hnil : eqP (!·) (.nd .lst []) (.nd .lst []) = some (.sc (.bl false)) := ne_same ((GdL.nil (n := 0)).lst.mono (by decide))
          refine Ev.nx (ρ' := [some (.ali 10 []), some (.ali 11 []), some (.own (szD S)), some (.ro (iD j)), some (.own F), some (.ali 4 [4]), x6, some (.own (iD ot)), x8, x9, some (.own (.nd .lst l2)), some (.own (mD C nu m te te L dn "leads" vo (szD S)))]) ?_ (Ev.nx (ρ' := [some (.ali 10 []), some (.ali 11 []), some (.own (szD S)), some (.ro (iD j)), some (.own F), some (.ali 4 [4]), x6, some (.own (iD ot)), some (.own (iD z)), x9, some (.own (.nd .lst l3)), some (.own (mD C nu m te te L dn "leads" vo (szD S)))]) ?_ (Ev.nx (ρ' := [some (.ali 10 []), some (.ali 11 []), some (.own (szD S)), some (.ro (iD j)), some (.own F), some (.ali 4 [4]), x6, some (.own (iD ot)), some (.own (iD z)), some (.own (iD tt)), some (.own (.nd .lst l4)), some (.own (mD C nu m te te L dn "leads" vo (szD S)))]) ?_ ?_))
          · clear hcut
            generalize mD C nu m te te L dn "leads" vo (szD S) = M at *
            generalize szD S = W at *
            generalize G_Lpick K C = GP at *
            simp [e2, fn, fm, hot, h0, hF4, pB_ali, rootD, unroot_na hx6, pruneB_na hx6, unroot_na hx7, pruneB_na hx7, unroot_na hx8, pruneB_na hx8, unroot_na hx9, pruneB_na hx9, addD, apartP, arD, arDs, arIos, asgM, bD, bindE, cIo, cTm, callR, dVar, finE, getP, holeE, int0, intD, op2, op2M, plVar, VL.plain, plainM, prune, pB_own, pB_ro, putE, rootD, rootsApart, rvOk, setP, unroot_nil, unroot_own, unroot_ro, unroot_ali]
          · clear hcut
            generalize mD C nu m te te L dn "leads" vo (szD S) = M at *
            generalize szD S = W at *
            generalize G_Lpick K C = GP at *
            simp [e3, hln, hF4, pB_ali, rootD, unroot_na hx6, pruneB_na hx6, unroot_na hx8, pruneB_na hx8, unroot_na hx9, pruneB_na hx9, addD, apartP, arD, arDs, arIos, asgM, bD, bindE, cIo, cTm, callR, consA, dVar, finE, getP, holeE, op2, plVar, prune, pB_own, pB_ro, putE, rootD, rootsApart, rvOk, setP, unroot_nil, unroot_own, unroot_ro, unroot_ali]
          · clear hcut
            generalize mD C nu m te te L dn "leads" vo (szD S) = M at *
            generalize szD S = W at *
            generalize G_Lpick K C = GP at *
            have mb : -18446744073709551616 < (m : Int) ∧ (m : Int) < 18446744073709551616 := by omega
            by_cases c : d3 = 0
            · rw [if_pos c, Int.mul_one] at htt
              subst c
              have htt' : (if (m : Int) < te then te - m else 0) = tt := by
                rw [← htt]
                by_cases q : (m : Int) < te
                · rw [if_pos q, if_pos (by omega)]
                · rw [if_neg q, if_neg (by omega)]
              simp [e4, ft, fm, eq0, htt', mb, hF4, pB_ali, rootD, unroot_na hx6, pruneB_na hx6, unroot_na hx9, pruneB_na hx9, apartP, arD, arDs, arIos, asgM, bD, bindE, cIo, cTm, callR, cbM, consM, dVar, finE, getP, holeE, int0, int1D, int2D, intD, op2M, plVar, VL.plain, plainM, prune, pB_own, pB_ro, putE, rootD, rootsApart, rvOk, setP, CMul, unroot_nil, unroot_own, unroot_ro, unroot_ali]
            · rw [if_neg c, Int.mul_zero, Int.sub_zero] at htt
              simp [e4, ft, fm, eq0, c, htt, mb, hF4, pB_ali, rootD, unroot_na hx6, pruneB_na hx6, unroot_na hx9, pruneB_na hx9, apartP, arD, arDs, arIos, asgM, bD, bindE, cIo, cTm, callR, cbM, consM, dVar, finE, getP, holeE, int0, int1D, int2D, intD, op2M, plVar, VL.plain, plainM, prune, pB_own, pB_ro, putE, rootD, rootsApart, rvOk, setP, CMul, unroot_nil, unroot_own, unroot_ro, unroot_ali]
          by_cases c : tt = te
          · -- told in this term
            subst c
            obtain ⟨dn', hdn, hkp⟩ := kept_yes (K := K) (C := C) nu tt tt ot z m L dn vo S hS.1 (by omega) (by omega)
            have hhk := hear_k (K := K) (C := C) (mD C nu m tt tt L dn "leads" vo (szD S)) nu tt ot z _ hkp
            have hsz : sizS S tt tt ot z = putS S ot (if getS S ot > z then getS S ot else z) := if_pos rfl
            have hvn : 0 ≤ (if getS S ot > z then getS S ot else z) := by
              have := getS_nn S hS.2.2 ot
              split <;> omega
            have hS' : KeysOk nu m (sizS S tt tt ot z) := by
              rw [hsz, hk]
              exact keys_put nu m S k _ hS (by omega) (by omega) (by rw [← hk]; exact hvn)
            have hSl' : (sizS S tt tt ot z).length ≤ S.length + 1 := by rw [hsz]; exact putS_len _ _ _
            rw [written_eq nu m L.length _ dn d0 hS'] at hdn
            have hgt := getS_ok S ot
            have hpt := putS_ok S ot (if getS S ot > z then getS S ot else z) hS.1 (by omega)
            rw [← hsz] at hpt
            have pM' := m_plain (C := C) nu m tt tt L dn' "leads" vo (szD (sizS S tt tt ot z))
            have ft' := fl_term (C := C) nu m tt tt L dn' "leads" vo (szD (sizS S tt tt ot z))
            refine Ev.ifS (ρ1 := [some (.ali 10 []), some (.ali 11 []), some (.own (szD S)), some (.ro (iD j)), some (.own F), some (.ali 4 [4]), x6, some (.own (iD ot)), some (.own (iD z)), some (.own (iD tt)), some (.own (.nd .lst l4)), some (.own (mD C nu m tt tt L dn' "leads" vo (szD (sizS S tt tt ot z))))]) ?_ ⟨.nx [some (.ali 10 []), some (.ali 11 []), some (.own (szD (sizS S tt tt ot z))), some (.ro (iD j)), some (.own F), some (.ali 4 [4]), x6, some (.own (iD ot)), some (.own (iD z)), some (.own (iD tt)), some (.own (.nd .lst l4)), some (.own (mD C nu m tt tt L dn' "leads" vo (szD (sizS S tt tt ot z))))], ?_, l4, L, dn', sizS S tt tt ot z, _, x6, _, _, _, hl4, hL, by omega, hS', hSl', hdn, .inr ⟨rfl, rfl⟩, hx6, na_own, na_own, na_own, rfl⟩
            · clear hcut hkp hpt hgt
              generalize mD C nu m tt tt L dn "leads" vo (szD S) = M at *
              generalize mD C nu m tt tt L dn' "leads" vo (szD (sizS S tt tt ot z)) = M' at *
              generalize szD S = W at *
              generalize G_Master_hear K C = GH at *
              simp [hhk, oh, fn, hnil, hF4, pB_ali, rootD, pruneB_na hx6, arD, arDs, arIos, bD, cTm, callR, consA, dVar, finE, getP, holeE, lstM, methI, ndQ, op2M, plD, plVar, VL.plain, plainQ, prune, pB_own, pB_ro, putE, rootD, rootsApart, rvOk, setP, tstM, sl5]
            · clear hcut hkp hhk
              have hgd : dget2 (dVar 2) (dVar 7) (fun x => some (D.sc (V.int 0))) [some (.ali 10 []), some (.ali 11 []), some (.own (szD S)), some (.ro (iD j)), some (.own F), some (.ali 4 [4]), x6, some (.own (iD ot)), some (.own (iD z)), some (.own (iD tt)), some (.own (.nd .lst l4)), some (.own (mD C nu m tt tt L dn' "leads" vo (szD (sizS S tt tt ot z))))] = some (iD (getS S ot)) := by
                unfold dget2
                refine Option.bind_eq_some_iff.mpr ⟨szD S, rfl, ?_⟩
                exact hgt
              generalize mD C nu m tt tt L dn' "leads" vo (szD (sizS S tt tt ot z)) = M' at *
              generalize getS S ot = gg at *
              generalize dget2 (dVar 2) (dVar 7) (fun x => some (D.sc (V.int 0))) = GD at *
              generalize szD (sizS S tt tt ot z) = W' at *
              simp only [szD] at hgd ⊢
              simp [hgd, hpt, ft', eq0, hF4, pB_ali, rootD, pruneB_na hx6, bD, consA, dVar, dputF, editE, getP, ifF, int2D, nodeAt, op2, plVar, prune, pB_own, pB_ro, rootD, setP]
          · -- of another term
            have hkp := kept_no (K := K) (C := C) nu te te ot tt z m L dn vo (szD S) "leads" (by decide +kernel) (.inl c)
            have hhk := hear_k (K := K) (C := C) (mD C nu m te te L dn "leads" vo (szD S)) nu tt ot z _ hkp
            refine Ev.ifS (ρ1 := [some (.ali 10 []), some (.ali 11 []), some (.own (szD S)), some (.ro (iD j)), some (.own F), some (.ali 4 [4]), x6, some (.own (iD ot)), some (.own (iD z)), some (.own (iD tt)), some (.own (.nd .lst l4)), some (.own (mD C nu m te te L dn "leads" vo (szD S)))]) ?_ ⟨.nx [some (.ali 10 []), some (.ali 11 []), some (.own (szD S)), some (.ro (iD j)), some (.own F), some (.ali 4 [4]), x6, some (.own (iD ot)), some (.own (iD z)), some (.own (iD tt)), some (.own (.nd .lst l4)), some (.own (mD C nu m te te L dn "leads" vo (szD S)))], ?_, l4, L, dn, S, _, x6, _, _, _, hl4, hL, by omega, hS, by omega, by rw [if_neg (by omega)], .inr ⟨rfl, rfl⟩, hx6, na_own, na_own, na_own, rfl⟩
            · clear hcut hkp
              generalize mD C nu m te te L dn "leads" vo (szD S) = M at *
              generalize szD S = W at *
              generalize G_Master_hear K C = GH at *
              simp [hhk, oh, fn, hnil, hF4, pB_ali, rootD, pruneB_na hx6, arD, arDs, arIos, bD, cTm, callR, consA, dVar, finE, getP, holeE, lstM, methI, ndQ, op2M, plD, plVar, VL.plain, plainQ, prune, pB_own, pB_ro, putE, rootD, rootsApart, rvOk, setP, tstM, sl5]
            · clear hcut hkp hhk
              generalize mD C nu m te te L dn "leads" vo (szD S) = M at *
              generalize szD S = W at *
              simp [ft, eq0, c, bD, consA, dVar, dget2, dkPos, dputF, editE, getP, ifF, keyOf, kidD, nodeAt, op2, plVar, prune, pB_own, rootD]
      · rintro ρ' ⟨l', L', dn', S', z5, z6, z7, z8, z9, hl', hL', hLl', hS', hSl', hdn, hz5, hz6, hz7, hz8, hz9, rfl⟩
        have hLz : L'.length ≤ 40 := by omega
        have hwr := written_ok (K := K) (C := C) nu te te m L' dn' "leads" vo (szD S') S' (by omega)
        have hfd := fl_done (C := C) nu m te te L' dn' "leads" vo (szD S')
        have hf' := fields_ok (K := K) (C := C) nu m te te L' dn' "leads" vo (szD S') hL'
        have pM' := m_plain (C := C) nu m te te L' dn' "leads" vo (szD S')
        obtain ⟨A4, c1, c2⟩ := hcut dn' L'
        have hq := ne_same (f_gd nu m te te L' dn' "leads" hL' (by decide +kernel))
        have hwl : wl m S' L'.length = (sortI (lawS S' L'.length)).foldl (wr m (lawS S' L'.length)) 0 := rfl
        rw [← hwl] at hwr
        have hne : eqP (!·) (iD dn') (iD (if wl m S' L'.length > dn then wl m S' L'.length else dn)) = some (.sc (.bl false)) := by rw [ne0, decide_eq_false (fun z => z hdn)]
        have hfin : Wk C nu te m (j + 1) vo l' S' L' dn' := ⟨hl', hL', by omega, by rw [hdn]; split <;> omega, hS', by omega, by rw [hdn]; split <;> omega⟩
        refine Ev.ifS (ρ1 := [some (.ali 10 []), some (.ali 11 []), some (.own (szD S')), some (.ro (iD j)), some (.own F), z5, z6, z7, z8, z9, some (.own (.nd .lst l')), some (.own (mD C nu m te te L' dn' "leads" vo (szD S')))]) ?_ (Ev.ifN (ρ1 := [some (.ali 10 []), some (.ali 11 []), some (.own (szD S')), some (.ro (iD j)), some (.own F), z5, z6, z7, z8, z9, some (.own (.nd .lst l')), some (.own (mD C nu m te te L' dn' "leads" vo (szD S')))]) ?_ ⟨.nx _, rfl, l', L', dn', S', _, _, z5, z6, z7, z8, z9, hfin, na_ro, na_own, hz5.elim (fun z => .inl (by rw [z]; exact na_own)) (fun z => .inr z.1), hz6, hz7, hz8, hz9, rfl⟩)
        · clear hf' hcut c1 c2 hq hf oa oh fm fn ft pM
          generalize mD C nu m te te L' dn' "leads" vo (szD S') = M' at *
          generalize szD S' = W at *
          generalize G_Lwritten K C = GW at *
          generalize wl m S' L'.length = w at *
          simp [hwr, hfd, f5, hne, isiB, bD, consA, dVar, getP, int2D, isiB, isiD, op2, orT, rootD, tyN, clNames]
        · clear hwr hne hf oa oh fm fn ft pM
          generalize mD C nu m te te L' dn' "leads" vo (szD S') = M' at *
          generalize szD S' = W at *
          generalize G_Lfields K C = GF at *
          generalize fD nu m te te L' dn' "leads" = F' at *
          rcases hz5 with rfl | ⟨rfl, rfl⟩
          · simp [hf', hfd, c1, c2, hq, slVF, bD, consA, dVar, getP, ndQ, op2, rootD, toInt, sl3]
          · simp [hf', hfd, c1, c2, hq, hF4, slVF, bD, consA, dVar, getP, ndQ, op2, rootD, toInt, sl3]
    · rintro ρ ⟨l, L, dn, S, x3, x4, x5, x6, x7, x8, x9, ⟨hl, hL, hLl, _⟩, hx3, hx4, hx5, hx6, hx7, hx8, hx9, rfl⟩
      refine Ev.ret (d := tD true) (ρ' := [some (.ali 10 []), some (.ali 11 []), some (.own (szD S)), x3, x4, x5, x6, x7, x8, x9, some (.own (.nd .lst l)), some (.own (mD C nu m te te L dn "leads" vo (szD S)))]) ?_ ⟨_, rfl, rfl, l, L, dn, S, hl, hL, by omega, rfl⟩
      rfl
  obtain ⟨dd, oo, e, rfl, l', L, dn, S, a, b, c, rfl⟩ := key
  exact ⟨l', L, dn, S, a, b, c, e⟩
end K28
namespace K28
open PySem L2 VL
variable {K : W.Frag} {C : Addr} [ClsI K C]
theorem rise_any (nu te o : Int) (m : Nat) (L : List D) (dn : Int) (vo si : D) (hL : Rws L) (hz : L.length ≤ 60) (h0 : 0 < m) (hm : m < 50) :
    ∃ (ans : D) (te' o' : Int) (role' : Str) (vo' si' : D), (role' = "leads" ∨ role' = "stands") ∧ (m ≠ 1 → role' = "stands") ∧ G_Master_rise K C [mD C nu m te o L dn "leads" vo si] = some (ans, [mD C nu m te' o' L dn role' vo' si']) := by
  by_cases h1 : m = 1
  · subst h1
    obtain ⟨ans, e⟩ := rise_ok (K := K) (C := C) nu te o _ 1 dn "leads" _ vo si _ L hL (by omega) (by decide) (by decide) L (lead_one nu (nxt nu (1 : Nat) te) o L dn "stands" si hL (by omega))
    exact ⟨ans, _, _, "leads", _, _, .inl rfl, fun h => absurd rfl h, e⟩
  · obtain ⟨ans, e⟩ := rise_ok (K := K) (C := C) nu te o _ m dn "leads" _ vo si _ L hL (by omega) h0 (by omega) L (lead_no nu (nxt nu m te) o m 1 L dn "stands" (.nd (.dic [.inl nu]) [vcD o L]) si (by simp [lenD]) (by omega))
    exact ⟨ans, _, _, "stands", _, _, .inr rfl, fun _ => rfl, e⟩
theorem law_ok (cs : List Int) (hn : ∀ f ∈ fns, NoAttr K C f) : G_law K C [scr cs] = some (tD true) := by
  have hg : ∀ (M : D), getP M [] = some M := fun M => by cases M <;> rfl
  have hs : ∀ (M e : D), setP M [] e = e := fun M e => by cases M <;> rfl
  obtain ⟨nk, hnk, hlen⟩ : ∃ nk : Nat, nk ≤ 8 ∧ (if (if (8 : Int) < (cs.length : Int) then (8 : Int) else (cs.length : Int)) > 1 then (if (8 : Int) < (cs.length : Int) then (8 : Int) else (cs.length : Int)) else 1) = (nk : Int) := by
    by_cases h8 : (8 : Int) < (cs.length : Int)
    · exact ⟨8, by decide, by rw [if_pos h8]; rfl⟩
    · rw [if_neg h8]
      by_cases h1 : (cs.length : Int) > 1
      · exact ⟨cs.length, by omega, by rw [if_pos h1]⟩
      · exact ⟨1, by decide, by rw [if_neg h1]; rfl⟩
  have key : ∃ d, G_law K C [scr cs] = some d ∧ d = tD true := by
    unfold G_law f_law b_law
    dsimp only
    refine bodyP_ev (Ev.seq (Ev.for (ds := rngD 0 nk) ?_ (fun ρ => ∃ x1 x2 x3 x4 x5 : Option B, NA x1 ∧ NA x2 ∧ NA x3 ∧ NA x4 ∧ NA x5 ∧ ρ = [some (.ro (scr cs)), x1, x2, x3, x4, x5]) ⟨none, none, none, none, none, na_none, na_none, na_none, na_none, na_none, rfl⟩ ?_ ?_))
    · refine Option.bind_eq_some_iff.mpr ⟨[iD nk], ?_, rng1_ok nk (by omega)⟩
      rw [← hlen]
      simp [scr, bD, consA, dVar, int2D, lenD]
    · rintro dd hd ρ ⟨x1, x2, x3, x4, x5, hx1, hx2, hx3, hx4, hx5, rfl⟩
      obtain ⟨k, hk, rfl⟩ := mem_rng hd
      rw [show (0 : Int) + (k : Int) = k from Int.zero_add _]
      obtain ⟨l, hl, e1⟩ := left_ok (K := K) (C := C) cs k (by omega)
      obtain ⟨d1, l1, a1, b1, hl1, e2⟩ := pick_ok (K := K) (C := C) l hl 7 (by decide) (by decide)
      obtain ⟨m, hm⟩ : ∃ m : Nat, 1 + d1 = (m : Int) := ⟨(1 + d1).toNat, by omega⟩
      obtain ⟨nu, te, R, vo, l2, n0, n1, ht, hR, hR3, hone, hl2, e3⟩ := led_ok (K := K) (C := C) l1 hl1 m (by omega) (by omega) hn
      obtain ⟨l3, L, dn, S, hl3, hL, hLl, e4⟩ := walked_ok (K := K) (C := C) l2 hl2 nu te m R vo (by omega) (by omega) n0 n1 ht hR hR3 hone
      obtain ⟨ans, te', o', role', vo', si', hro, hrs, e5⟩ := rise_any (K := K) (C := C) nu te te m L dn vo (szD S) hL (by omega) (by omega) (by omega)
      have hrok : PyData.strOk role' = true := by rcases hro with rfl | rfl <;> decide +kernel
      have hf := fields_ok (K := K) (C := C) nu m te' o' L dn role' vo' si' hL
      have hq := ne_same (f_gd nu m te' o' L dn role' hL hrok)
      have fn := fl_number (C := C) nu m te' o' L dn role' vo' si'
      have ft := fl_term (C := C) nu m te' o' L dn role' vo' si'
      have fm := fl_many (C := C) nu m te' o' L dn role' vo' si'
      have pM := m_plain (C := C) nu m te' o' L dn role' vo' si'
      have oh := obj_of (C := C) (m := "hear") (by decide +kernel) nu m te' o' L dn role' vo' si'
      have orr := obj_of (C := C) (m := "rise") (by decide +kernel) nu m te te L dn "leads" vo (szD S)
      have p0 := m_plain (C := C) nu m te te R 0 "leads" vo (szD [])
      have p1 := m_plain (C := C) nu m te te L dn "leads" vo (szD S)
      have fr0 := fl_role (C := C) nu m te te R 0 "leads" vo (szD [])
      have nl : eqP (!·) (.sc (.str "leads")) (.sc (.str "leads")) = some (.sc (.bl false)) := by rw [neL _ (by decide +kernel), decide_eq_false (fun z => z rfl)]
      have hnil : eqP (!·) (.nd .lst []) (.nd .lst []) = some (.sc (.bl false)) := ne_same ((GdL.nil (n := 0)).lst.mono (by decide))
      have hkn : m ≠ 1 → G_Master_hear K C [mD C nu m te' o' L dn role' vo' si', .nd .tup [sD "kept", iD ((nu + 1) % m), iD nu, iD te', iD 9]] = some (.nd .lst [], [mD C nu m te' o' L dn role' vo' si']) := fun h1 =>
        hear_k _ nu te' ((nu + 1) % m) 9 _ (kept_no nu te' o' ((nu + 1) % m) te' 9 m L dn vo' si' role' hrok (.inr (by rw [hrs h1]; decide +kernel)))
      have hmp : (0 : Int) < m := by omega
      have hmN : 0 < m := by omega
      clear hrs hro hrok hlen hone
      generalize mD C nu m te te R 0 "leads" vo (szD []) = A0 at *
      generalize mD C nu m te te L dn "leads" vo (szD S) = A1 at *
      generalize mD C nu m te' o' L dn role' vo' si' = A2 at *
      generalize fD nu m te' o' L dn role' = F at *
      obtain ⟨ot, hot⟩ : ∃ ot : Int, (nu + 1) % (m : Int) = ot := ⟨_, rfl⟩
      rw [hot] at hkn
      refine ⟨[some (.ro (scr cs)), some (.ro (iD k)), x2, x3, x4, x5], (by simp [unroot_na hx1, unroot_na hx2, unroot_na hx3, unroot_na hx4, unroot_na hx5, bindE, unroot_nil, unroot_ro]), ?_⟩
      refine Ev.nx (ρ' := [some (.ro (scr cs)), some (.ro (iD k)), some (.own (.nd .lst l)), x3, x4, x5]) (by simp [e1, unroot_na hx2, unroot_na hx3, unroot_na hx4, unroot_na hx5, asgM, bD, bindE, consA, dVar, unroot_nil, unroot_ro]) ?_
      refine Ev.nx (ρ' := [some (.ro (scr cs)), some (.ro (iD k)), some (.own (.nd .lst l2)), some (.own A0), x4, x5]) (by
        generalize G_Lpick K C = GP at *
        generalize G_Lled K C = GL at *
        simp [e2, e3, hm, unroot_na hx3, pruneB_na hx3, unroot_na hx4, pruneB_na hx4, unroot_na hx5, pruneB_na hx5, addD, apartP, arD, arDs, arIos, asgM, bindE, cIo, cIoM, cTm, cTmM, callR, finE, getP, holeE, op2M, plVar, prune, pB_own, pB_ro, putE, rootD, rootsApart, rvOk, setP, unroot_nil, unroot_own, unroot_ro]) ?_
      refine Ev.ifS (ρ1 := [some (.ro (scr cs)), some (.ro (iD k)), some (.own (.nd .lst l3)), some (.own A1), x4, x5]) (by
        generalize G_Lwalked K C = GW at *
        simp [fr0, nl, e4, pruneB_na hx4, pruneB_na hx5, apartP, arD, arDs, arIos, bD, cIo, callR, dVar, finE, getP, holeE, op2, VL.orM, plVar, prune, pB_own, pB_ro, putE, rootD, rootsApart, rvOk, setP, tstM]) ?_
      refine Ev.nx (ρ' := [some (.ro (scr cs)), some (.ro (iD k)), some (.own (.nd .lst l3)), some (.own A2), x4, x5]) (by
        generalize G_Master_rise K C = GR at *
        simp [e5, orr, pruneB_na hx4, pruneB_na hx5, arD, arDs, arIos, callR, dropF, finE, getP, holeE, methI, plD, plVar, prune, pB_own, pB_ro, putE, rootD, rootsApart, rvOk, setP]) ?_
      refine Ev.nx (ρ' := [some (.ro (scr cs)), some (.ro (iD k)), some (.own (.nd .lst l3)), some (.own A2), some (.own F), x5]) (by
        generalize G_Lfields K C = GF at *
        simp [hf, unroot_na hx4, unroot_na hx5, asgM, bD, bindE, consA, dVar, unroot_nil, unroot_own, unroot_ro]) ?_
      refine Ev.nx (ρ' := [some (.ro (scr cs)), some (.ro (iD k)), some (.own (.nd .lst l3)), some (.own A2), some (.own F), some (.own (.nd .tup [sD "kept", iD ot, iD nu, iD te', iD 9]))]) (by simp [fn, ft, fm, hmN, hot, unroot_na hx5, addV, addD, asgM, bD, bindE, consM, dVar, intD, op2, VL.plain, plainM, tupM, unroot_nil, unroot_own, unroot_ro, sl5]) ?_
      refine Ev.ifN (ρ1 := [some (.ro (scr cs)), some (.ro (iD k)), some (.own (.nd .lst l3)), some (.own A2), some (.own F), some (.own (.nd .tup [sD "kept", iD ot, iD nu, iD te', iD 9]))]) ?_ ⟨.nx _, rfl, _, _, _, _, _, na_ro, na_own, na_own, na_own, na_own, rfl⟩
      generalize G_Lfields K C = GF at *
      generalize G_Master_hear K C = GH at *
      by_cases h1 : m = 1
      · have h1' : ¬ (1 : Int) < m := by omega
        have h1n : ¬ 1 < m := by omega
        simp [fm, h1', hf, hq, VL.andM, arD, arDs, arIos, bD, cRv, callR, consA, dVar, finE, holeE, int0, isObjOf, lstM, methI, op2, op2M, VL.orM, plD, plVar, prune, rootD, rootsApart, rvOk, tstM]
      · have h1' : (1 : Int) < m := by omega
        have h1n : 1 < m := by omega
        have hk' := hkn h1
        simp [fm, h1', hk', oh, hnil, hf, hq, VL.andM, arD, arDs, arIos, bD, cRv, callR, consA, dVar, finE, getP, holeE, int0, lstM, methI, op2, op2M, VL.orM, plD, plVar, VL.plain, plainL, prune, pruneB, putE, rootD, rootsApart, rvOk, setP, tstM]
    · rintro ρ ⟨x1, x2, x3, x4, x5, hx1, hx2, hx3, hx4, hx5, rfl⟩
      simp [Ev, retF]
  obtain ⟨d, e, rfl⟩ := key
  exact e
end K28
namespace K28
open PySem L2 VL
def spLawF (K : W.Frag) : Sp := fun vs H Q _ => ∃ (a : Addr) (ns : List Int), vs = [.ref a] ∧ FrL K H a (ns.map V.int) ∧ ns.length ≤ 63 ∧ ∀ H', Q (.bl true) H'
theorem frl_of {K : W.Frag} {H : Hp} {a : Addr} {vs : List V} (hO : Only H) (hS : SqL K H a vs) : FrL K H a vs := by
  rcases hS with (e | ⟨o, e⟩) | h
  · rcases hO a with z | ⟨o, xs, z⟩
    · rw [z] at e; cases e
    · rw [z] at e; cases e
  · exact .inl ⟨o, e⟩
  · exact .inr h
theorem vw_scr {K : W.Frag} {H : Hp} {a : Addr} {ns : List Int} (h : FrL K H a (ns.map V.int)) : VwL K H T1 [.ref a] [scr ns] := by
  refine ⟨rfl, fun i v d hv hd => ?_⟩
  cases i with
  | succ i => simp at hv
  | zero =>
    cases hv
    cases hd
    refine .nd (fun z => by cases z) ⟨trivial, h⟩ (by simp) fun i v d hv hd => ?_
    rw [List.getElem?_map] at hv hd
    cases e : ns[i]? with
    | none => rw [e] at hv; cases hv
    | some x =>
      rw [e] at hv hd
      cases hv
      cases hd
      exact .sc _
theorem all_mk {l : W.OpenLaw} {w : World} {K : W.Frag} {h : Heap} {mg : Str → Option Value} {C fI fR fH fS fA : Addr} {odI anI odR anR odH anH odS anS odA anA : Option Addr} {slI slR slH slS slA : Array (Option Value)} {ocI kVI dcI pmI cdI ctI ocR kVR dcR pmR cdR ctR ocH kVH dcH pmH cdH ctH ocS kVS dcS pmS cdS ctS ocA kVA dcA pmA cdA ctA : Value} {fa f0 f1 f2 f3 f4 f5 f6 f7 f8 f9 f10 f11 f12 f13 f14 f15 f16 f17 f18 f19 f20 f21 f22 f23 : Addr} (X : K.In h) (G : h.Ns mainGlobals mg) (hfa : mg "law" = some (.ref fa))
    {od0 an0 od1 an1 od2 an2 od3 an3 od4 an4 od5 an5 od6 an6 od7 an7 od8 an8 od9 an9 od10 an10 od11 an11 od12 an12 od13 an13 od14 an14 od15 an15 od16 an16 od17 an17 od18 an18 od19 an19 od20 an20 od21 an21 od22 an22 od23 an23 : Option Addr} {sl0 sl1 sl2 sl3 sl4 sl5 sl6 sl7 sl8 sl9 sl10 sl11 sl12 sl13 sl14 sl15 sl16 sl17 sl18 sl19 sl20 sl21 sl22 sl23 : Array (Option Value)} {oc0 kV0 dc0 pm0 cd0 ct0 oc1 kV1 dc1 pm1 cd1 ct1 oc2 kV2 dc2 pm2 cd2 ct2 oc3 kV3 dc3 pm3 cd3 ct3 oc4 kV4 dc4 pm4 cd4 ct4 oc5 kV5 dc5 pm5 cd5 ct5 oc6 kV6 dc6 pm6 cd6 ct6 oc7 kV7 dc7 pm7 cd7 ct7 oc8 kV8 dc8 pm8 cd8 ct8 oc9 kV9 dc9 pm9 cd9 ct9 oc10 kV10 dc10 pm10 cd10 ct10 oc11 kV11 dc11 pm11 cd11 ct11 oc12 kV12 dc12 pm12 cd12 ct12 oc13 kV13 dc13 pm13 cd13 ct13 oc14 kV14 dc14 pm14 cd14 ct14 oc15 kV15 dc15 pm15 cd15 ct15 oc16 kV16 dc16 pm16 cd16 ct16 oc17 kV17 dc17 pm17 cd17 ct17 oc18 kV18 dc18 pm18 cd18 ct18 oc19 kV19 dc19 pm19 cd19 ct19 oc20 kV20 dc20 pm20 cd20 ct20 oc21 kV21 dc21 pm21 cd21 ct21 oc22 kV22 dc22 pm22 cd22 ct22 oc23 kV23 dc23 pm23 cd23 ct23 : Value}
    (a0 : W.nsIn K mainGlobals "_law_cell_at" = some (some (.ref f0))) (l0 : K.lookup f0 = some ⟨oc0, od0, .func (W.fnOf "_law_cell_at" "_law_cell_at" (defArgs s_Lcell_at) (defBody s_Lcell_at) (defScope s_Lcell_at) .none kV0 dc0 pm0 an0 cd0 ct0), sl0⟩) (c0 : W.codeIn K cd0 "_law_cell_at" = true) (k0 : W.keepIn K (.ref f0) = true)
    (a1 : W.nsIn K mainGlobals "_law_mix" = some (some (.ref f1))) (l1 : K.lookup f1 = some ⟨oc1, od1, .func (W.fnOf "_law_mix" "_law_mix" (defArgs s_Lmix) (defBody s_Lmix) (defScope s_Lmix) .none kV1 dc1 pm1 an1 cd1 ct1), sl1⟩) (c1 : W.codeIn K cd1 "_law_mix" = true) (k1 : W.keepIn K (.ref f1) = true)
    (a2 : W.nsIn K mainGlobals "_law_rich" = some (some (.ref f2))) (l2 : K.lookup f2 = some ⟨oc2, od2, .func (W.fnOf "_law_rich" "_law_rich" (defArgs s_Lrich) (defBody s_Lrich) (defScope s_Lrich) .none kV2 dc2 pm2 an2 cd2 ct2), sl2⟩) (c2 : W.codeIn K cd2 "_law_rich" = true) (k2 : W.keepIn K (.ref f2) = true)
    (a3 : W.nsIn K mainGlobals "_law_left" = some (some (.ref f3))) (l3 : K.lookup f3 = some ⟨oc3, od3, .func (W.fnOf "_law_left" "_law_left" (defArgs s_Lleft) (defBody s_Lleft) (defScope s_Lleft) .none kV3 dc3 pm3 an3 cd3 ct3), sl3⟩) (c3 : W.codeIn K cd3 "_law_left" = true) (k3 : W.keepIn K (.ref f3) = true)
    (a4 : W.nsIn K mainGlobals "_law_pick" = some (some (.ref f4))) (l4 : K.lookup f4 = some ⟨oc4, od4, .func (W.fnOf "_law_pick" "_law_pick" (defArgs s_Lpick) (defBody s_Lpick) (defScope s_Lpick) .none kV4 dc4 pm4 an4 cd4 ct4), sl4⟩) (c4 : W.codeIn K cd4 "_law_pick" = true) (k4 : W.keepIn K (.ref f4) = true)
    (a5 : W.nsIn K mainGlobals "next_term" = some (some (.ref f5))) (l5 : K.lookup f5 = some ⟨oc5, od5, .func (W.fnOf "next_term" "next_term" (defArgs s_next_term) (defBody s_next_term) (defScope s_next_term) .none kV5 dc5 pm5 an5 cd5 ct5), sl5⟩) (c5 : W.codeIn K cd5 "next_term" = true) (k5 : W.keepIn K (.ref f5) = true)
    (a6 : W.nsIn K mainGlobals "is_most" = some (some (.ref f6))) (l6 : K.lookup f6 = some ⟨oc6, od6, .func (W.fnOf "is_most" "is_most" (defArgs s_is_most) (defBody s_is_most) (defScope s_is_most) .none kV6 dc6 pm6 an6 cd6 ct6), sl6⟩) (c6 : W.codeIn K cd6 "is_most" = true) (k6 : W.keepIn K (.ref f6) = true)
    (a7 : W.nsIn K mainGlobals "rank_of_voice" = some (some (.ref f7))) (l7 : K.lookup f7 = some ⟨oc7, od7, .func (W.fnOf "rank_of_voice" "rank_of_voice" (defArgs s_rank_of_voice) (defBody s_rank_of_voice) (defScope s_rank_of_voice) .none kV7 dc7 pm7 an7 cd7 ct7), sl7⟩) (c7 : W.codeIn K cd7 "rank_of_voice" = true) (k7 : W.keepIn K (.ref f7) = true)
    (a8 : W.nsIn K mainGlobals "is_fixed" = some (some (.ref f8))) (l8 : K.lookup f8 = some ⟨oc8, od8, .func (W.fnOf "is_fixed" "is_fixed" (defArgs s_is_fixed) (defBody s_is_fixed) (defScope s_is_fixed) .none kV8 dc8 pm8 an8 cd8 ct8), sl8⟩) (c8 : W.codeIn K cd8 "is_fixed" = true) (k8 : W.keepIn K (.ref f8) = true)
    (a9 : W.nsIn K mainGlobals "own_copy" = some (some (.ref f9))) (l9 : K.lookup f9 = some ⟨oc9, od9, .func (W.fnOf "own_copy" "own_copy" (defArgs s_own_copy) (defBody s_own_copy) (defScope s_own_copy) .none kV9 dc9 pm9 an9 cd9 ct9), sl9⟩) (c9 : W.codeIn K cd9 "own_copy" = true) (k9 : W.keepIn K (.ref f9) = true)
    (a10 : W.nsIn K mainGlobals "take_behind" = some (some (.ref f10))) (l10 : K.lookup f10 = some ⟨oc10, od10, .func (W.fnOf "take_behind" "take_behind" (defArgs s_take_behind) (defBody s_take_behind) (defScope s_take_behind) .none kV10 dc10 pm10 an10 cd10 ct10), sl10⟩) (c10 : W.codeIn K cd10 "take_behind" = true) (k10 : W.keepIn K (.ref f10) = true)
    (a11 : W.nsIn K mainGlobals "take_rows" = some (some (.ref f11))) (l11 : K.lookup f11 = some ⟨oc11, od11, .func (W.fnOf "take_rows" "take_rows" (defArgs s_take_rows) (defBody s_take_rows) (defScope s_take_rows) .none kV11 dc11 pm11 an11 cd11 ct11), sl11⟩) (c11 : W.codeIn K cd11 "take_rows" = true) (k11 : W.keepIn K (.ref f11) = true)
    (a12 : W.nsIn K mainGlobals "lead_by_voices" = some (some (.ref f12))) (l12 : K.lookup f12 = some ⟨oc12, od12, .func (W.fnOf "lead_by_voices" "lead_by_voices" (defArgs s_lead_by_voices) (defBody s_lead_by_voices) (defScope s_lead_by_voices) .none kV12 dc12 pm12 an12 cd12 ct12), sl12⟩) (c12 : W.codeIn K cd12 "lead_by_voices" = true) (k12 : W.keepIn K (.ref f12) = true)
    (a13 : W.nsIn K mainGlobals "others" = some (some (.ref f13))) (l13 : K.lookup f13 = some ⟨oc13, od13, .func (W.fnOf "others" "others" (defArgs s_others) (defBody s_others) (defScope s_others) .none kV13 dc13 pm13 an13 cd13 ct13), sl13⟩) (c13 : W.codeIn K cd13 "others" = true) (k13 : W.keepIn K (.ref f13) = true)
    (a14 : W.nsIn K mainGlobals "_law_rows" = some (some (.ref f14))) (l14 : K.lookup f14 = some ⟨oc14, od14, .func (W.fnOf "_law_rows" "_law_rows" (defArgs s_Lrows) (defBody s_Lrows) (defScope s_Lrows) .none kV14 dc14 pm14 an14 cd14 ct14), sl14⟩) (c14 : W.codeIn K cd14 "_law_rows" = true) (k14 : W.keepIn K (.ref f14) = true)
    (a15 : W.nsIn K mainGlobals "hear_voice" = some (some (.ref f15))) (l15 : K.lookup f15 = some ⟨oc15, od15, .func (W.fnOf "hear_voice" "hear_voice" (defArgs s_hear_voice) (defBody s_hear_voice) (defScope s_hear_voice) .none kV15 dc15 pm15 an15 cd15 ct15), sl15⟩) (c15 : W.codeIn K cd15 "hear_voice" = true) (k15 : W.keepIn K (.ref f15) = true)
    (a16 : W.nsIn K mainGlobals "count_done" = some (some (.ref f16))) (l16 : K.lookup f16 = some ⟨oc16, od16, .func (W.fnOf "count_done" "count_done" (defArgs s_count_done) (defBody s_count_done) (defScope s_count_done) .none kV16 dc16 pm16 an16 cd16 ct16), sl16⟩) (c16 : W.codeIn K cd16 "count_done" = true) (k16 : W.keepIn K (.ref f16) = true)
    (a17 : W.nsIn K mainGlobals "hear_kept" = some (some (.ref f17))) (l17 : K.lookup f17 = some ⟨oc17, od17, .func (W.fnOf "hear_kept" "hear_kept" (defArgs s_hear_kept) (defBody s_hear_kept) (defScope s_hear_kept) .none kV17 dc17 pm17 an17 cd17 ct17), sl17⟩) (c17 : W.codeIn K cd17 "hear_kept" = true) (k17 : W.keepIn K (.ref f17) = true)
    (a18 : W.nsIn K mainGlobals "_law_led" = some (some (.ref f18))) (l18 : K.lookup f18 = some ⟨oc18, od18, .func (W.fnOf "_law_led" "_law_led" (defArgs s_Lled) (defBody s_Lled) (defScope s_Lled) .none kV18 dc18 pm18 an18 cd18 ct18), sl18⟩) (c18 : W.codeIn K cd18 "_law_led" = true) (k18 : W.keepIn K (.ref f18) = true)
    (a19 : W.nsIn K mainGlobals "_law_fields" = some (some (.ref f19))) (l19 : K.lookup f19 = some ⟨oc19, od19, .func (W.fnOf "_law_fields" "_law_fields" (defArgs s_Lfields) (defBody s_Lfields) (defScope s_Lfields) .none kV19 dc19 pm19 an19 cd19 ct19), sl19⟩) (c19 : W.codeIn K cd19 "_law_fields" = true) (k19 : W.keepIn K (.ref f19) = true)
    (a20 : W.nsIn K mainGlobals "rows_told" = some (some (.ref f20))) (l20 : K.lookup f20 = some ⟨oc20, od20, .func (W.fnOf "rows_told" "rows_told" (defArgs s_rows_told) (defBody s_rows_told) (defScope s_rows_told) .none kV20 dc20 pm20 an20 cd20 ct20), sl20⟩) (c20 : W.codeIn K cd20 "rows_told" = true) (k20 : W.keepIn K (.ref f20) = true)
    (a21 : W.nsIn K mainGlobals "_law_written" = some (some (.ref f21))) (l21 : K.lookup f21 = some ⟨oc21, od21, .func (W.fnOf "_law_written" "_law_written" (defArgs s_Lwritten) (defBody s_Lwritten) (defScope s_Lwritten) .none kV21 dc21 pm21 an21 cd21 ct21), sl21⟩) (c21 : W.codeIn K cd21 "_law_written" = true) (k21 : W.keepIn K (.ref f21) = true)
    (a22 : W.nsIn K mainGlobals "_law_walked" = some (some (.ref f22))) (l22 : K.lookup f22 = some ⟨oc22, od22, .func (W.fnOf "_law_walked" "_law_walked" (defArgs s_Lwalked) (defBody s_Lwalked) (defScope s_Lwalked) .none kV22 dc22 pm22 an22 cd22 ct22), sl22⟩) (c22 : W.codeIn K cd22 "_law_walked" = true) (k22 : W.keepIn K (.ref f22) = true)
    (a23 : W.nsIn K mainGlobals "law" = some (some (.ref f23))) (l23 : K.lookup f23 = some ⟨oc23, od23, .func (W.fnOf "law" "law" (defArgs s_law) (defBody s_law) (defScope s_law) .none kV23 dc23 pm23 an23 cd23 ct23), sl23⟩) (c23 : W.codeIn K cd23 "law" = true) (k23 : W.keepIn K (.ref f23) = true)
    (z0 : W.nsIn K mainGlobals "len" = some none)
    (z1 : W.nsIn K mainGlobals "range" = some none)
    (z2 : W.nsIn K mainGlobals "list" = some none)
    (z3 : W.nsIn K mainGlobals "tuple" = some none)
    (z4 : W.nsIn K mainGlobals "int" = some none)
    (z5 : W.nsIn K mainGlobals "max" = some none)
    (z6 : W.nsIn K mainGlobals "min" = some none)
    (z7 : W.nsIn K mainGlobals "all" = some none)
    (z8 : W.nsIn K mainGlobals "any" = some none)
    (z9 : W.nsIn K mainGlobals "isinstance" = some none)
    (z10 : W.nsIn K mainGlobals "str" = some none)
    (z11 : W.nsIn K mainGlobals "bool" = some none)
    (z12 : W.nsIn K mainGlobals "dict" = some none)
    (z13 : W.nsIn K mainGlobals "sorted" = some none)
    (gSh : W.nsIn K mainGlobals "Master" = some (some (.ref C)))
    (aI : W.findIn K (.ref C) "__init__" = some (some (.ref fI)))
    (iI : W.isFn K (.ref fI) = true)
    (lI : K.lookup fI = some ⟨ocI, odI, .func (W.fnOf "__init__" "Master.__init__" (defArgs s_Master_init) (defBody s_Master_init) (defScope s_Master_init) .none kVI dcI pmI anI cdI ctI), slI⟩)
    (cI : W.codeIn K cdI "Master.__init__" = true)
    (kI : W.keepIn K (.ref fI) = true)
    (aR : W.findIn K (.ref C) "rise" = some (some (.ref fR)))
    (iR : W.isFn K (.ref fR) = true)
    (lR : K.lookup fR = some ⟨ocR, odR, .func (W.fnOf "rise" "Master.rise" (defArgs s_Master_rise) (defBody s_Master_rise) (defScope s_Master_rise) .none kVR dcR pmR anR cdR ctR), slR⟩)
    (cR : W.codeIn K cdR "Master.rise" = true)
    (kR : W.keepIn K (.ref fR) = true)
    (aH : W.findIn K (.ref C) "hear" = some (some (.ref fH)))
    (iH : W.isFn K (.ref fH) = true)
    (lH : K.lookup fH = some ⟨ocH, odH, .func (W.fnOf "hear" "Master.hear" (defArgs s_Master_hear) (defBody s_Master_hear) (defScope s_Master_hear) .none kVH dcH pmH anH cdH ctH), slH⟩)
    (cH : W.codeIn K cdH "Master.hear" = true)
    (kH : W.keepIn K (.ref fH) = true)
    (aS : W.findIn K (.ref C) "send" = some (some (.ref fS)))
    (iS : W.isFn K (.ref fS) = true)
    (lS : K.lookup fS = some ⟨ocS, odS, .func (W.fnOf "send" "Master.send" (defArgs s_Master_send) (defBody s_Master_send) (defScope s_Master_send) .none kVS dcS pmS anS cdS ctS), slS⟩)
    (cS : W.codeIn K cdS "Master.send" = true)
    (kS : W.keepIn K (.ref fS) = true)
    (aA : W.findIn K (.ref C) "add" = some (some (.ref fA)))
    (iA : W.isFn K (.ref fA) = true)
    (lA : K.lookup fA = some ⟨ocA, odA, .func (W.fnOf "add" "Master.add" (defArgs s_Master_add) (defBody s_Master_add) (defScope s_Master_add) .none kVA dcA pmA anA cdA ctA), slA⟩)
    (cA : W.codeIn K cdA "Master.add" = true)
    (kA : W.keepIn K (.ref fA) = true)
    (pg : W.plainGet K C Str.empty = true)
    (hd : W.hasDictIn K C = true)
    (po : W.plainOver K C = true)
    (sa : W.findIn K (.ref C) "__setattr__" = some (some (.builtin "object.__setattr__")))
    (mk : W.makesIn K C = true)
    (kc : W.keepIn K (.ref C) = true)
    (n0 : W.findIn K (.ref C) "number" = some none)
    (n1 : W.findIn K (.ref C) "many" = some none)
    (n2 : W.findIn K (.ref C) "term" = some none)
    (n3 : W.findIn K (.ref C) "of" = some none)
    (n4 : W.findIn K (.ref C) "log" = some none)
    (n5 : W.findIn K (.ref C) "done" = some none)
    (n6 : W.findIn K (.ref C) "role" = some none)
    (n7 : W.findIn K (.ref C) "voices" = some none)
    (n8 : W.findIn K (.ref C) "sizes" = some none)
    (n9 : W.findIn K (.ref C) "fixed" = some none)
    : ∃ fd : FuncData, (∀ (s : Shared) (v : Value), BindsTo s fd ⟨[v], []⟩ [("_law_script", v)]) ∧ ∀ base : Heap, K.In base → base.Ns mainGlobals mg → FnOk l.prog w K mg base CX0 14 fa fd ["_law_script"] (spLawF K) := by
  have e := hfa.symm.trans (W.mg_of X G a23)
  cases e
  have T : Txt mg := ⟨W.mg_none_of X G z0, W.mg_none_of X G z1, W.mg_none_of X G z2, W.mg_none_of X G z3, W.mg_none_of X G z4, W.mg_none_of X G z5, W.mg_none_of X G z6, W.mg_none_of X G z7, W.mg_none_of X G z8, W.mg_none_of X G z9, W.mg_none_of X G z10, W.mg_none_of X G z11, W.mg_none_of X G z12, W.mg_none_of X G z13⟩
  have F_Lcell_at := fun_mk (st := s_Lcell_at) l0 c0 k0
  have b_Lcell_at := F_Lcell_at.binds (ps := ["_law_script", "_law_k"]) fun _ _ _ _ _ _ us hl => match us, hl with | [_, _], _ => rfl
  have m_Lcell_at := W.mg_of X G a0
  have F_Lmix := fun_mk (st := s_Lmix) l1 c1 k1
  have b_Lmix := F_Lmix.binds (ps := ["_law_cell", "_law_k"]) fun _ _ _ _ _ _ us hl => match us, hl with | [_, _], _ => rfl
  have m_Lmix := W.mg_of X G a1
  have F_Lrich := fun_mk (st := s_Lrich) l2 c2 k2
  have b_Lrich := F_Lrich.binds (ps := ["_law_cell", "_law_k"]) fun _ _ _ _ _ _ us hl => match us, hl with | [_, _], _ => rfl
  have m_Lrich := W.mg_of X G a2
  have F_Lleft := fun_mk (st := s_Lleft) l3 c3 k3
  have b_Lleft := F_Lleft.binds (ps := ["_law_script", "_law_k"]) fun _ _ _ _ _ _ us hl => match us, hl with | [_, _], _ => rfl
  have m_Lleft := W.mg_of X G a3
  have F_Lpick := fun_mk (st := s_Lpick) l4 c4 k4
  have b_Lpick := F_Lpick.binds (ps := ["_law_left_here", "_law_many"]) fun _ _ _ _ _ _ us hl => match us, hl with | [_, _], _ => rfl
  have m_Lpick := W.mg_of X G a4
  have F_next_term := fun_mk (st := s_next_term) l5 c5 k5
  have b_next_term := F_next_term.binds (ps := ["master"]) fun _ _ _ _ _ _ us hl => match us, hl with | [_], _ => rfl
  have m_next_term := W.mg_of X G a5
  have F_is_most := fun_mk (st := s_is_most) l6 c6 k6
  have b_is_most := F_is_most.binds (ps := ["master", "many"]) fun _ _ _ _ _ _ us hl => match us, hl with | [_, _], _ => rfl
  have m_is_most := W.mg_of X G a6
  have F_rank_of_voice := fun_mk (st := s_rank_of_voice) l7 c7 k7
  have b_rank_of_voice := F_rank_of_voice.binds (ps := ["voice"]) fun _ _ _ _ _ _ us hl => match us, hl with | [_], _ => rfl
  have m_rank_of_voice := W.mg_of X G a7
  have F_is_fixed := fun_mk (st := s_is_fixed) l8 c8 k8
  have b_is_fixed := F_is_fixed.binds (ps := ["value"]) fun _ _ _ _ _ _ us hl => match us, hl with | [_], _ => rfl
  have m_is_fixed := W.mg_of X G a8
  have F_own_copy := fun_mk (st := s_own_copy) l9 c9 k9
  have b_own_copy := F_own_copy.binds (ps := ["value"]) fun _ _ _ _ _ _ us hl => match us, hl with | [_], _ => rfl
  have m_own_copy := W.mg_of X G a9
  have F_take_behind := fun_mk (st := s_take_behind) l10 c10 k10
  have b_take_behind := F_take_behind.binds (ps := ["master", "rows"]) fun _ _ _ _ _ _ us hl => match us, hl with | [_, _], _ => rfl
  have m_take_behind := W.mg_of X G a10
  have F_take_rows := fun_mk (st := s_take_rows) l11 c11 k11
  have b_take_rows := F_take_rows.binds (ps := ["master", "rows"]) fun _ _ _ _ _ _ us hl => match us, hl with | [_, _], _ => rfl
  have m_take_rows := W.mg_of X G a11
  have F_lead_by_voices := fun_mk (st := s_lead_by_voices) l12 c12 k12
  have b_lead_by_voices := F_lead_by_voices.binds (ps := ["master"]) fun _ _ _ _ _ _ us hl => match us, hl with | [_], _ => rfl
  have m_lead_by_voices := W.mg_of X G a12
  have F_others := fun_mk (st := s_others) l13 c13 k13
  have b_others := F_others.binds (ps := ["master"]) fun _ _ _ _ _ _ us hl => match us, hl with | [_], _ => rfl
  have m_others := W.mg_of X G a13
  have F_Lrows := fun_mk (st := s_Lrows) l14 c14 k14
  have b_Lrows := F_Lrows.binds (ps := ["_law_term", "_law_many"]) fun _ _ _ _ _ _ us hl => match us, hl with | [_, _], _ => rfl
  have m_Lrows := W.mg_of X G a14
  have F_hear_voice := fun_mk (st := s_hear_voice) l15 c15 k15
  have b_hear_voice := F_hear_voice.binds (ps := ["master", "sender", "term", "of", "rows"]) fun _ _ _ _ _ _ us hl => match us, hl with | [_, _, _, _, _], _ => rfl
  have m_hear_voice := W.mg_of X G a15
  have F_count_done := fun_mk (st := s_count_done) l16 c16 k16
  have b_count_done := F_count_done.binds (ps := ["master"]) fun _ _ _ _ _ _ us hl => match us, hl with | [_], _ => rfl
  have m_count_done := W.mg_of X G a16
  have F_hear_kept := fun_mk (st := s_hear_kept) l17 c17 k17
  have b_hear_kept := F_hear_kept.binds (ps := ["master", "sender", "term", "size"]) fun _ _ _ _ _ _ us hl => match us, hl with | [_, _, _, _], _ => rfl
  have m_hear_kept := W.mg_of X G a17
  have F_Lled := fun_mk (st := s_Lled) l18 c18 k18
  have b_Lled := F_Lled.binds (ps := ["_law_left_here", "_law_many"]) fun _ _ _ _ _ _ us hl => match us, hl with | [_, _], _ => rfl
  have m_Lled := W.mg_of X G a18
  have F_Lfields := fun_mk (st := s_Lfields) l19 c19 k19
  have b_Lfields := F_Lfields.binds (ps := ["_law_one"]) fun _ _ _ _ _ _ us hl => match us, hl with | [_], _ => rfl
  have m_Lfields := W.mg_of X G a19
  have F_rows_told := fun_mk (st := s_rows_told) l20 c20 k20
  have b_rows_told := F_rows_told.binds (ps := ["master"]) fun _ _ _ _ _ _ us hl => match us, hl with | [_], _ => rfl
  have m_rows_told := W.mg_of X G a20
  have F_Lwritten := fun_mk (st := s_Lwritten) l21 c21 k21
  have b_Lwritten := F_Lwritten.binds (ps := ["_law_sizes", "_law_one"]) fun _ _ _ _ _ _ us hl => match us, hl with | [_, _], _ => rfl
  have m_Lwritten := W.mg_of X G a21
  have F_Lwalked := fun_mk (st := s_Lwalked) l22 c22 k22
  have b_Lwalked := F_Lwalked.binds (ps := ["_law_left_here", "_law_one"]) fun _ _ _ _ _ _ us hl => match us, hl with | [_, _], _ => rfl
  have m_Lwalked := W.mg_of X G a22
  have F_law := fun_mk (st := s_law) l23 c23 k23
  refine ⟨W.fnOf "law" "law" (defArgs s_law) (defBody s_law) (defScope s_law) .none kV23 dc23 pm23 an23 cd23 ct23, fun s v => .of_eq rfl, fun base _ _ => ?_⟩
  have cls : Cls K C := ⟨pg, hd, po, sa⟩
  haveI : ClsI K C := ⟨cls⟩
  have C_Lcell_at : Cal l.prog w K mg base "_law_cell_at" ["_law_script", "_law_k"] 1 (spP K 2 (G_Lcell_at K C)) := Cal.of F_Lcell_at b_Lcell_at m_Lcell_at (ok_Lcell_at (Cm := C) F_Lcell_at T )
  have C_Lmix : Cal l.prog w K mg base "_law_mix" ["_law_cell", "_law_k"] 1 (spP K 2 (G_Lmix K C)) := Cal.of F_Lmix b_Lmix m_Lmix (ok_Lmix (Cm := C) F_Lmix T )
  have C_Lrich : Cal l.prog w K mg base "_law_rich" ["_law_cell", "_law_k"] 2 (spP K 2 (G_Lrich K C)) := Cal.of F_Lrich b_Lrich m_Lrich (ok_Lrich (Cm := C) F_Lrich T C_Lmix)
  have C_Lleft : Cal l.prog w K mg base "_law_left" ["_law_script", "_law_k"] 3 (spP K 2 (G_Lleft K C)) := Cal.of F_Lleft b_Lleft m_Lleft (ok_Lleft (Cm := C) F_Lleft T C_Lcell_at C_Lrich)
  have F_I := fun_mk (st := s_Master_init) lI cI kI
  have b_I := F_I.binds (ps := ["self", "number", "many"]) fun _ _ _ _ _ _ us hl => match us, hl with | [_, _, _], _ => rfl
  have C_Master_init : CalC l.prog w K mg base "Master" C ["self", "number", "many"] 1 (spI K (true :: List.replicate 2 false) (G_Master_init K C)) := ⟨cls, fI, _, ok_Master_init (Cm := C) F_I T , b_I, ⟨mk, aI, iI, kc⟩, W.mg_of X G gSh⟩
  have C_Lpick : Cal l.prog w K mg base "_law_pick" ["_law_left_here", "_law_many"] 1 (spI K [true, false] (G_Lpick K C)) := Cal.of F_Lpick b_Lpick m_Lpick (ok_Lpick (Cm := C) F_Lpick T )
  have C_next_term : Cal l.prog w K mg base "next_term" ["master"] 1 (spP K 1 (G_next_term K C)) := Cal.of F_next_term b_next_term m_next_term (ok_next_term (Cm := C) F_next_term T )
  have C_is_most : Cal l.prog w K mg base "is_most" ["master", "many"] 1 (spP K 2 (G_is_most K C)) := Cal.of F_is_most b_is_most m_is_most (ok_is_most (Cm := C) F_is_most T )
  have C_rank_of_voice : Cal l.prog w K mg base "rank_of_voice" ["voice"] 1 (spP K 1 (G_rank_of_voice K C)) := Cal.of F_rank_of_voice b_rank_of_voice m_rank_of_voice (ok_rank_of_voice (Cm := C) F_rank_of_voice T )
  have C_is_fixed : Cal l.prog w K mg base "is_fixed" ["value"] 4 (spP K 1 (G_is_fixed K C)) := Cal.of F_is_fixed b_is_fixed m_is_fixed (ok_is_fixed (Cm := C) F_is_fixed T b_is_fixed m_is_fixed  3)
  have C_own_copy : Cal l.prog w K mg base "own_copy" ["value"] 4 (spP K 1 (G_own_copy K C)) := Cal.of F_own_copy b_own_copy m_own_copy (ok_own_copy (Cm := C) F_own_copy T b_own_copy m_own_copy  3)
  have C_take_behind : Cal l.prog w K mg base "take_behind" ["master", "rows"] 5 (spI K [true, false] (G_take_behind K C)) := Cal.of F_take_behind b_take_behind m_take_behind (ok_take_behind (Cm := C) F_take_behind T C_is_fixed C_own_copy)
  have C_take_rows : Cal l.prog w K mg base "take_rows" ["master", "rows"] 6 (spI K [true, false] (G_take_rows K C)) := Cal.of F_take_rows b_take_rows m_take_rows (ok_take_rows (Cm := C) F_take_rows T C_take_behind)
  have C_lead_by_voices : Cal l.prog w K mg base "lead_by_voices" ["master"] 8 (spI K [true] (G_lead_by_voices K C)) := Cal.of F_lead_by_voices b_lead_by_voices m_lead_by_voices (ok_lead_by_voices (Cm := C) F_lead_by_voices T C_is_most C_rank_of_voice C_take_rows)
  have C_others : Cal l.prog w K mg base "others" ["master"] 1 (spP K 1 (G_others K C)) := Cal.of F_others b_others m_others (ok_others (Cm := C) F_others T )
  have F_R := fun_mk (st := s_Master_rise) lR cR kR
  have b_R := F_R.binds (ps := ["self"]) fun _ _ _ _ _ _ us hl => match us, hl with | [_], _ => rfl
  have C_Master_rise : CalM l.prog w K mg base C "rise" ["self"] 9 (spI K [true] (G_Master_rise K C)) := ⟨cls, fR, _, ok_Master_rise (Cm := C) F_R T C_next_term C_lead_by_voices C_others, b_R, ⟨aR, iR, kR⟩⟩
  have C_Lrows : Cal l.prog w K mg base "_law_rows" ["_law_term", "_law_many"] 1 (spP K 2 (G_Lrows K C)) := Cal.of F_Lrows b_Lrows m_Lrows (ok_Lrows (Cm := C) F_Lrows T )
  have C_hear_voice : Cal l.prog w K mg base "hear_voice" ["master", "sender", "term", "of", "rows"] 9 (spI K [true, false, false, false, false] (G_hear_voice K C)) := Cal.of F_hear_voice b_hear_voice m_hear_voice (ok_hear_voice (Cm := C) F_hear_voice T C_own_copy C_lead_by_voices)
  have C_count_done : Cal l.prog w K mg base "count_done" ["master"] 3 (spI K [true] (G_count_done K C)) := Cal.of F_count_done b_count_done m_count_done (ok_count_done (Cm := C) F_count_done T C_others C_is_most)
  have C_hear_kept : Cal l.prog w K mg base "hear_kept" ["master", "sender", "term", "size"] 5 (spI K [true, false, false, false] (G_hear_kept K C)) := Cal.of F_hear_kept b_hear_kept m_hear_kept (ok_hear_kept (Cm := C) F_hear_kept T C_count_done)
  have F_H := fun_mk (st := s_Master_hear) lH cH kH
  have b_H := F_H.binds (ps := ["self", "message"]) fun _ _ _ _ _ _ us hl => match us, hl with | [_, _], _ => rfl
  have C_Master_hear : CalM l.prog w K mg base C "hear" ["self", "message"] 10 (spI K [true, false] (G_Master_hear K C)) := ⟨cls, fH, _, ok_Master_hear (Cm := C) F_H T C_hear_voice C_hear_kept, b_H, ⟨aH, iH, kH⟩⟩
  have C_Lled : Cal l.prog w K mg base "_law_led" ["_law_left_here", "_law_many"] 11 (spI K [true, false] (G_Lled K C)) := Cal.of F_Lled b_Lled m_Lled (ok_Lled (Cm := C) F_Lled T C_Master_init C_Lpick C_Master_rise C_Lrows C_Master_hear)
  have C_Lfields : Cal l.prog w K mg base "_law_fields" ["_law_one"] 1 (spP K 1 (G_Lfields K C)) := Cal.of F_Lfields b_Lfields m_Lfields (ok_Lfields (Cm := C) F_Lfields T )
  have C_rows_told : Cal l.prog w K mg base "rows_told" ["master"] 5 (spP K 1 (G_rows_told K C)) := Cal.of F_rows_told b_rows_told m_rows_told (ok_rows_told (Cm := C) F_rows_told T C_own_copy)
  have F_S := fun_mk (st := s_Master_send) lS cS kS
  have b_S := F_S.binds (ps := ["self"]) fun _ _ _ _ _ _ us hl => match us, hl with | [_], _ => rfl
  have C_Master_send : CalM l.prog w K mg base C "send" ["self"] 6 (spP K 1 (G_Master_send K C)) := ⟨cls, fS, _, ok_Master_send (Cm := C) F_S T C_others C_rows_told, b_S, ⟨aS, iS, kS⟩⟩
  have F_A := fun_mk (st := s_Master_add) lA cA kA
  have b_A := F_A.binds (ps := ["self", "row"]) fun _ _ _ _ _ _ us hl => match us, hl with | [_, _], _ => rfl
  have C_Master_add : CalM l.prog w K mg base C "add" ["self", "row"] 7 (spI K [true, false] (G_Master_add K C)) := ⟨cls, fA, _, ok_Master_add (Cm := C) F_A T C_take_behind C_count_done C_Master_send, b_A, ⟨aA, iA, kA⟩⟩
  have C_Lwritten : Cal l.prog w K mg base "_law_written" ["_law_sizes", "_law_one"] 1 (spP K 2 (G_Lwritten K C)) := Cal.of F_Lwritten b_Lwritten m_Lwritten (ok_Lwritten (Cm := C) F_Lwritten T )
  have C_Lwalked : Cal l.prog w K mg base "_law_walked" ["_law_left_here", "_law_one"] 12 (spI K [true, true] (G_Lwalked K C)) := Cal.of F_Lwalked b_Lwalked m_Lwalked (ok_Lwalked (Cm := C) F_Lwalked T C_Lpick C_Lfields C_Master_add C_Master_hear C_Lwritten)
  have hn : ∀ f ∈ fns, NoAttr K C f := by
    intro f hf
    simp only [fns, List.mem_cons, List.not_mem_nil, or_false] at hf
    rcases hf with rfl | rfl | rfl | rfl | rfl | rfl | rfl | rfl | rfl | rfl
    all_goals assumption
  exact (ok_law (Cm := C) F_law T C_Lleft C_Lled C_Lpick C_Lwalked C_Master_rise C_Lfields C_Master_hear).imp fun vs H Q E h => by
    obtain ⟨a, ns, rfl, hF, hl, qq⟩ := h
    exact ⟨[scr ns], tD true, rfl, vw_scr hF, law_ok ns hn, fun v H' _ o => by
      have e : v = .bl true := (Own.vw o).scal
      subst e
      exact qq H'⟩
theorem walk {l : W.OpenLaw} {q : Program} {loose : List Str} {XP : (Str → Option Value) → Heap → Prop} {YP : World → Heap → Prop} {d : DefRec} {K : Params → W.Frag} (hn : l.most = some 63) (hdf : d.params.defaults = [])
    (hY : ∀ (w : World) (h : Heap), YP w h → (K w.params).In h)
    (F : ∀ (w : World) (mg : Str → Option Value) (fa : Addr) (h : Heap), (K w.params).In h → h.Ns mainGlobals mg → mg d.name = some (.ref fa) →
      ∃ fd : FuncData, (∀ (s : Shared) (u : Value), BindsTo s fd ⟨[u], []⟩ [("_law_script", u)]) ∧ ∀ base : Heap, (K w.params).In base → base.Ns mainGlobals mg → FnOk l.prog w (K w.params) mg base CX0 14 fa fd ["_law_script"] (spLawF (K w.params))) :
    W.WalkO q loose XP YP l.row.toRowW d [] (fun f vs => PySem.call f vs) :=
  L2.walk_of (n := 63) (k := 14) (x := "_law_script") (CX := fun _ => CX0) (sp := fun w => spLawF (K w.params)) hn (by decide) hdf ⟨rfl, by decide, by decide, rfl⟩ hY F (fun _ _ a ns hl hO hS => ⟨a, ns, rfl, frl_of hO hS, hl, fun _ => rfl⟩) fun _ _ _ _ _ z => z
end K28
namespace PySem.W.Fast
def tw13189411704807172 := ()
def tw8822271856737706188 := ()
def tw14451491896132462124 := ()
def tw3745276874152533453 := ()
def tw11951609488834863726 := ()
def tw11045331424159831952 := ()
def tw10503766742634936338 := ()
def tw10289475860838467186 := ()
def tw9755116357418173782 := ()
def tw1500270334740050327 := ()
def tw1283141434065000955 := ()
def tw15880119872549053470 := ()
def tw13285249745293931614 := ()
def tw5825198818094015711 := ()
def tw517117177663268047 := ()
end PySem.W.Fast
open PySem PySem.W PyProof.Rows
set_option maxRecDepth 100000 in
set_option maxHeartbeats 0 in
theorem PySem.Challenge.cw_farshelf_k28_how_much_is_written_holds : PySem.Challenge.rw_farshelf_k28_how_much_is_written.Holds := by
  w_on; o_law; k_head; (case hw => w_witness2)
  k_fill
  refine K28.walk (l := PySem.Challenge.rw_farshelf_k28_how_much_is_written) rfl rfl (fun w h Y => W.kIn_of Y) ?F
  case F =>
    intro w mg fa h KX G hmg
    refine' K28.all_mk KX G hmg ?a0 ?l0 ?c0 ?k0 ?a1 ?l1 ?c1 ?k1 ?a2 ?l2 ?c2 ?k2 ?a3 ?l3 ?c3 ?k3 ?a4 ?l4 ?c4 ?k4 ?a5 ?l5 ?c5 ?k5 ?a6 ?l6 ?c6 ?k6 ?a7 ?l7 ?c7 ?k7 ?a8 ?l8 ?c8 ?k8 ?a9 ?l9 ?c9 ?k9 ?a10 ?l10 ?c10 ?k10 ?a11 ?l11 ?c11 ?k11 ?a12 ?l12 ?c12 ?k12 ?a13 ?l13 ?c13 ?k13 ?a14 ?l14 ?c14 ?k14 ?a15 ?l15 ?c15 ?k15 ?a16 ?l16 ?c16 ?k16 ?a17 ?l17 ?c17 ?k17 ?a18 ?l18 ?c18 ?k18 ?a19 ?l19 ?c19 ?k19 ?a20 ?l20 ?c20 ?k20 ?a21 ?l21 ?c21 ?k21 ?a22 ?l22 ?c22 ?k22 ?a23 ?l23 ?c23 ?k23 ?z0 ?z1 ?z2 ?z3 ?z4 ?z5 ?z6 ?z7 ?z8 ?z9 ?z10 ?z11 ?z12 ?z13 ?gSh ?aI ?iI ?lI ?cI ?kI ?aR ?iR ?lR ?cR ?kR ?aH ?iH ?lH ?cH ?kH ?aS ?iS ?lS ?cS ?kS ?aA ?iA ?lA ?cA ?kA ?pg ?hd ?po ?sa ?mk ?kc ?n0 ?n1 ?n2 ?n3 ?n4 ?n5 ?n6 ?n7 ?n8 ?n9
    (case a0 => k_is)
    (case l0 => k_is)
    (case c0 => k_is)
    (case k0 => k_is)
    (case a1 => k_is)
    (case l1 => k_is)
    (case c1 => k_is)
    (case k1 => k_is)
    (case a2 => k_is)
    (case l2 => k_is)
    (case c2 => k_is)
    (case k2 => k_is)
    (case a3 => k_is)
    (case l3 => k_is)
    (case c3 => k_is)
    (case k3 => k_is)
    (case a4 => k_is)
    (case l4 => k_is)
    (case c4 => k_is)
    (case k4 => k_is)
    (case a5 => k_is)
    (case l5 => k_is)
    (case c5 => k_is)
    (case k5 => k_is)
    (case a6 => k_is)
    (case l6 => k_is)
    (case c6 => k_is)
    (case k6 => k_is)
    (case a7 => k_is)
    (case l7 => k_is)
    (case c7 => k_is)
    (case k7 => k_is)
    (case a8 => k_is)
    (case l8 => k_is)
    (case c8 => k_is)
    (case k8 => k_is)
    (case a9 => k_is)
    (case l9 => k_is)
    (case c9 => k_is)
    (case k9 => k_is)
    (case a10 => k_is)
    (case l10 => k_is)
    (case c10 => k_is)
    (case k10 => k_is)
    (case a11 => k_is)
    (case l11 => k_is)
    (case c11 => k_is)
    (case k11 => k_is)
    (case a12 => k_is)
    (case l12 => k_is)
    (case c12 => k_is)
    (case k12 => k_is)
    (case a13 => k_is)
    (case l13 => k_is)
    (case c13 => k_is)
    (case k13 => k_is)
    (case a14 => k_is)
    (case l14 => k_is)
    (case c14 => k_is)
    (case k14 => k_is)
    (case a15 => k_is)
    (case l15 => k_is)
    (case c15 => k_is)
    (case k15 => k_is)
    (case a16 => k_is)
    (case l16 => k_is)
    (case c16 => k_is)
    (case k16 => k_is)
    (case a17 => k_is)
    (case l17 => k_is)
    (case c17 => k_is)
    (case k17 => k_is)
    (case a18 => k_is)
    (case l18 => k_is)
    (case c18 => k_is)
    (case k18 => k_is)
    (case a19 => k_is)
    (case l19 => k_is)
    (case c19 => k_is)
    (case k19 => k_is)
    (case a20 => k_is)
    (case l20 => k_is)
    (case c20 => k_is)
    (case k20 => k_is)
    (case a21 => k_is)
    (case l21 => k_is)
    (case c21 => k_is)
    (case k21 => k_is)
    (case a22 => k_is)
    (case l22 => k_is)
    (case c22 => k_is)
    (case k22 => k_is)
    (case a23 => k_is)
    (case l23 => k_is)
    (case c23 => k_is)
    (case k23 => k_is)
    (case z0 => k_is)
    (case z1 => k_is)
    (case z2 => k_is)
    (case z3 => k_is)
    (case z4 => k_is)
    (case z5 => k_is)
    (case z6 => k_is)
    (case z7 => k_is)
    (case z8 => k_is)
    (case z9 => k_is)
    (case z10 => k_is)
    (case z11 => k_is)
    (case z12 => k_is)
    (case z13 => k_is)
    (case gSh => k_is)
    (case aI => k_is)
    (case iI => k_is)
    (case lI => k_is)
    (case cI => k_is)
    (case kI => k_is)
    (case aR => k_is)
    (case iR => k_is)
    (case lR => k_is)
    (case cR => k_is)
    (case kR => k_is)
    (case aH => k_is)
    (case iH => k_is)
    (case lH => k_is)
    (case cH => k_is)
    (case kH => k_is)
    (case aS => k_is)
    (case iS => k_is)
    (case lS => k_is)
    (case cS => k_is)
    (case kS => k_is)
    (case aA => k_is)
    (case iA => k_is)
    (case lA => k_is)
    (case cA => k_is)
    (case kA => k_is)
    (case pg => k_is)
    (case hd => k_is)
    (case po => k_is)
    (case sa => k_is)
    (case mk => k_is)
    (case kc => k_is)
    (case n0 => k_is)
    (case n1 => k_is)
    (case n2 => k_is)
    (case n3 => k_is)
    (case n4 => k_is)
    (case n5 => k_is)
    (case n6 => k_is)
    (case n7 => k_is)
    (case n8 => k_is)
    (case n9 => k_is)
