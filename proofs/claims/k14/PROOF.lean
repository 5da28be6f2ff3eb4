import PyProof.Rows.All
import Wide.All
import OpenK.AllK
import Wide.FinOn
import Lean
import PyProof.EqAt
import PyProof.EqKinds
import PyProof.TupleCall
import KE.KIntText
import PyProof.ReprLen
import PySem.Challenge.RW_eitherbook_k14_lines
set_option Elab.async false
set_option linter.all false
set_option maxRecDepth 100000
namespace L2
open PySem PySem.Spec PyProof.Rows
abbrev Key := Sum Int Str
def keyIs : Key → Value → Bool
  | .inl k, v => Value.isInt k v
  | .inr x, v => Value.isStrOf x v
def keyH (w : World) : Key → Int
  | .inl k => hashInt k
  | .inr x => hashStr w x
theorem keyIs_shape : ∀ {k : Key} {v : Value}, keyIs k v = true → (∃ i t, k = Sum.inl i ∧ v = Value.int i t) ∨ (∃ x t, k = Sum.inr x ∧ v = Value.str x t)
  | .inl i, v, h => by
    obtain ⟨t, e⟩ := Value.isInt_shape (k := i) (v := v) h
    exact .inl ⟨i, t, rfl, e⟩
  | .inr x, v, h => by
    obtain ⟨t, e⟩ := Value.isStrOf_shape (x := x) (v := v) h
    exact .inr ⟨x, t, rfl, e⟩
theorem key_ll (a b : Int) : decide ((Sum.inl a : Key) = Sum.inl b) = (a == b) := by
  by_cases e : a = b
  · subst e; simp
  · have h : ¬ (Sum.inl a : Key) = Sum.inl b := fun q => e (Sum.inl.inj q)
    rw [decide_eq_false h]
    exact (beq_eq_false_iff_ne.mpr e).symm
theorem key_rr (a b : Str) : decide ((Sum.inr a : Key) = Sum.inr b) = decide (a = b) := by
  by_cases e : a = b
  · subst e; simp
  · have h : ¬ (Sum.inr a : Key) = Sum.inr b := fun q => e (Sum.inr.inj q)
    rw [decide_eq_false h, decide_eq_false e]
theorem key_lr (a : Int) (b : Str) : decide ((Sum.inl a : Key) = Sum.inr b) = false := decide_eq_false (fun q => nomatch q)
theorem key_rl (a : Str) (b : Int) : decide ((Sum.inr a : Key) = Sum.inl b) = false := decide_eq_false (fun q => nomatch q)
def mixKind (prog : Program) (w : World) : PySem.KeyKind prog w Key where
  is := keyIs
  hash := keyH w
  inj := fun v a b ha hb => by
    rcases keyIs_shape ha with ⟨i, t, rfl, rfl⟩ | ⟨x, t, rfl, rfl⟩
    · rcases keyIs_shape hb with ⟨j, u, rfl, e⟩ | ⟨y, u, rfl, e⟩
      · injection e with e1 _; rw [e1]
      · exact nomatch e
    · rcases keyIs_shape hb with ⟨j, u, rfl, e⟩ | ⟨y, u, rfl, e⟩
      · exact nomatch e
      · injection e with e1 _; rw [e1]
  byValue := fun k v h => by
    rcases keyIs_shape h with ⟨i, t, rfl, rfl⟩ | ⟨x, t, rfl, rfl⟩ <;> rfl
  pyHash := fun hv h => by
    rcases keyIs_shape hv with ⟨i, t, rfl, rfl⟩ | ⟨x, t, rfl, rfl⟩
    · exact wpAny_pyHash_int h
    · exact wpAny_pyHash_str h
  eqBool := fun hu hv h => by
    rcases keyIs_shape hu with ⟨i, t, rfl, rfl⟩ | ⟨x, t, rfl, rfl⟩
    · rcases keyIs_shape hv with ⟨j, u, rfl, rfl⟩ | ⟨y, u, rfl, rfl⟩
      · rw [key_ll] at h; exact wpAny_eqBool_int h
      · rw [key_lr] at h; exact SeqAt.EqAt.int_str i t y u _ _ _ _ h
    · rcases keyIs_shape hv with ⟨j, u, rfl, rfl⟩ | ⟨y, u, rfl, rfl⟩
      · rw [key_rl] at h; exact SeqAt.EqAt.str_int x t j u _ _ _ _ h
      · rw [key_rr] at h; exact wpAny_eqBool_str h
  «strs» := fun k x t v h => by
    rcases keyIs_shape h with ⟨i, u, rfl, e⟩ | ⟨y, u, rfl, e⟩
    · exact nomatch e
    · injection e with e1 _
      subst e1
      cases v <;> rfl
end L2
namespace L2
open PySem PySem.Spec PyProof.Rows
inductive V where
  | non | bl (b : Bool) | int (i : Int) | str (x : Str) | byt (b : Array UInt8) | flt (b : UInt64) | ref (a : Addr) | ty (n : String)
  deriving DecidableEq
def RelV : V → Value → Prop
  | .non, u => u = Value.none
  | .bl b, u => u = Value.bool b
  | .int i, u => ∃ t, u = Value.int i t
  | .str x, u => ∃ t, u = Value.str x t
  | .byt b, u => ∃ t, u = Value.bytes b t
  | .flt b, u => ∃ t, u = Value.float b t
  | .ref a, u => u = Value.ref a
  | .ty n, u => u = Value.type n
abbrev Vals : List V → List Value → Prop := Paired RelV
theorem Vals.length {xs : List V} {us : List Value} (r : Vals xs us) : xs.length = us.length := Paired.length r
theorem Vals.get : ∀ {xs : List V} {us : List Value} {i : Nat} {x : V}, Vals xs us → xs[i]? = some x → ∃ u, us[i]? = some u ∧ RelV x u
  | _, _, _, _, .nil, e => by simp at e
  | _, _, 0, _, .cons r _, e => by simp at e; subst e; exact ⟨_, rfl, r⟩
  | _, _, i + 1, x, .cons _ t, e => by
    obtain ⟨u, h1, h2⟩ := Vals.get (i := i) (x := x) t (by simpa using e)
    exact ⟨u, by simpa using h1, h2⟩
theorem Vals.set {x : V} {u : Value} (r : RelV x u) : ∀ {xs : List V} {us : List Value} (i : Nat), Vals xs us → Vals (xs.set i x) (us.set i u)
  | _, _, _, .nil => .nil
  | _, _, 0, .cons _ t => .cons r t
  | _, _, i + 1, .cons q t => .cons q (Vals.set r i t)
theorem Vals.append : ∀ {xs ys : List V} {us ws : List Value}, Vals xs us → Vals ys ws → Vals (xs ++ ys) (us ++ ws)
  | _, _, _, _, .nil, s => s
  | _, _, _, _, .cons r t, s => .cons r (Vals.append t s)
theorem Vals.take : ∀ {xs : List V} {us : List Value} (n : Nat), Vals xs us → Vals (xs.take n) (us.take n)
  | _, _, 0, _ => .nil
  | _, _, _ + 1, .nil => .nil
  | _, _, n + 1, .cons r t => .cons r (Vals.take n t)
theorem Vals.drop : ∀ {xs : List V} {us : List Value} (n : Nat), Vals xs us → Vals (xs.drop n) (us.drop n)
  | _, _, 0, r => r
  | _, _, _ + 1, .nil => .nil
  | _, _, n + 1, .cons _ t => Vals.drop n t
def RelO : Option V → Option Value → Prop
  | some v, some u => RelV v u
  | none, none => True
  | _, _ => False
def KV {κ : Type} : List (κ × V) → List (κ × Value) → Prop := Paired fun (p : κ × V) (q : κ × Value) => p.1 = q.1 ∧ RelV p.2 q.2
def kV : Key → V
  | .inl i => .int i
  | .inr x => .str x
inductive HO where
    | lst (xs : List V)
    | tup (xs : List V)
    | dK (kvs : List (Key × V)) | dT (kvs : List (List Key × V))
    | set (S : Int → Bool) (n : Nat)
    | ins (C dx : Addr) (fs : List (Str × V))
    | own (x : Addr)
    | xd (fs : List (Str × V))
    | met (f x : Addr)
    | rng (lo hi : Int)
    | frz (o : Obj) (u : HO)
    | tbl (ps : Array Value)
    | ext (φ : Heap → Prop)
abbrev Hp := Addr → Option HO
def upd (H : Hp) (a : Addr) (o : HO) : Hp := fun b => if b = a then some o else H b
theorem upd_same {H : Hp} {a : Addr} {o : HO} : upd H a o a = some o := by unfold upd; rw [if_pos rfl]
theorem upd_ne {H : Hp} {a b : Addr} {o : HO} (h : b ≠ a) : upd H a o b = H b := by unfold upd; rw [if_neg h]
theorem ne_of {H : Hp} {a b : Addr} {o u : HO} (h : H a = some o) (h' : H b = some u) (d : o ≠ u) : a ≠ b := by
  intro e; subst e; rw [h] at h'; exact d (Option.some.inj h')
theorem ne_of_none {H : Hp} {a b : Addr} {o : HO} (h : H a = some o) (h' : H b = none) : a ≠ b := by
  intro e; subst e; rw [h] at h'; cases h'
section
variable (P : Program) (w : World)
def ObjOk (H : Hp) (h : Heap) (a : Addr) : HO → Prop
  | .lst xs => xs.length ≤ sizeLine ∧ ∃ (its : List Value) (n : Nat), Vals xs its ∧ h.get? a = some { cls := .type "list", data := .seq its.toArray n }
  | .tup xs => xs.length ≤ sizeLine ∧ ∃ its : List Value, Vals xs its ∧ IsTup h a its.toArray
  | .dK kvs => kvs.length ≤ sizeLine ∧ (a == sysModules) = false ∧ ∃ vs, KV kvs vs ∧ h.DictOf (mixKind P w) a vs
  | .dT kvs => kvs.length ≤ sizeLine ∧ (a == sysModules) = false ∧ ∃ xs : List (List Key × Addr × Value),
      Paired (fun (p : List Key × V) (q : List Key × Addr × Value) => p.1 = q.1 ∧ H q.2.1 = some (.tup (p.1.map kV)) ∧ RelV p.2 q.2.2) kvs xs ∧
      ∃ o es ep, h.get? a = some o ∧ o.ExactDict ∧ o.data = .dict es ep ∧ es.toList = xs.map (entryOfKey (tupleKind (mixKind P w))) ∧ (xs.map (·.1)).Nodup
  | .set S n => h.SetOf (intKind P w) a S n
  | .ins C dx fs => H dx = some (.own a) ∧ fs.length ≤ 1000 ∧ dx ≠ a ∧ h.get? a = some (PySem.W.instObj C dx) ∧
      ∃ mA, h.Ns1 dx mA ∧ (∀ f, RelO (fs.lookup f) (mA f)) ∧ PySem.Within mA (fs.map (·.1))
  | .own _ => ∃ o, h.get? a = some o
  | .xd fs => ∃ mA, h.Ns1 a mA ∧ ∀ f, RelO (fs.lookup f) (mA f)
  | .rng lo hi => ∃ t u v, h.get? a = some { cls := .type "range", data := .fields #[.int lo t, .int hi u, .int 1 v] }
  | .frz o u => h.get? a = some o ∧ ObjOk H h a u
  | .tbl ps => h.get? a = some { cls := .none, data := .fields ps }
  | .met f x => h.get? a = some (PySem.W.methodObj (.ref f) (.ref x))
  | .ext φ => φ h ∧ (∃ o, h.get? a = some o) ∧ ∀ h1 h2 : Heap, φ h1 → (∀ o, h1.get? a = some o → h2.get? a = some o) → φ h2
def HOk (H : Hp) (h : Heap) : Prop := ∀ a o, H a = some o → ObjOk P w H h a o
end
section
variable {P : Program} {w : World} {H H' : Hp} {h h' : Heap} {a : Addr} {o : HO}
theorem ObjOk.lt (x : ObjOk P w H h a o) : a < h.objs.size := by
  cases o with
  | lst xs => obtain ⟨_, _, _, _, e⟩ := x; exact Heap.lt_size e
  | tup xs => obtain ⟨_, _, _, p⟩ := x; exact p.lt
  | dK kvs => obtain ⟨_, _, _, _, o, _, _, e, _⟩ := x; exact Heap.lt_size e
  | dT kvs => obtain ⟨_, _, _, _, o, _, _, e, _⟩ := x; exact Heap.lt_size e
  | set S n => obtain ⟨o, _, _, _, e, _⟩ := x; exact Heap.lt_size e
  | ins C dx fs => obtain ⟨_, _, _, e, _⟩ := x; exact Heap.lt_size e
  | own y => obtain ⟨_, e⟩ := x; exact Heap.lt_size e
  | xd fs => obtain ⟨_, ⟨_, _, _, e, _⟩, _⟩ := x; exact Heap.lt_size e
  | rng lo hi => obtain ⟨_, _, _, e⟩ := x; exact Heap.lt_size e
  | frz ob u => obtain ⟨e, _⟩ := x; exact Heap.lt_size e
  | tbl ps => exact Heap.lt_size (show h.get? a = some _ from x)
  | met f y => exact Heap.lt_size (show h.get? a = some _ from x)
  | ext φ => obtain ⟨_, ⟨_, e⟩, _⟩ := x; exact Heap.lt_size e
theorem Paired.mapP {α β : Type} {F G : α → β → Prop} : ∀ {l₁ : List α} {l₂ : List β}, Paired F l₁ l₂ → (∀ a b, F a b → G a b) → Paired G l₁ l₂
  | _, _, .nil, _ => .nil
  | _, _, .cons r t, f => .cons (f _ _ r) (Paired.mapP t f)
theorem ObjOk.stay (x : ObjOk P w H h a o) (k : ∀ b u, (b = a ∨ H b = some (.own a)) → h.get? b = some u → h'.get? b = some u)
    (ho : ∀ b, H b = some (.own a) → H' b = some (.own a)) (ht : ∀ b xs, H b = some (.tup xs) → H' b = some (.tup xs)) : ObjOk P w H' h' a o := by
  induction o with
  | lst xs => obtain ⟨z, its, n, r, e⟩ := x; exact ⟨z, its, n, r, k _ _ (.inl rfl) e⟩
  | tup xs => obtain ⟨z, its, r, ob, e, c⟩ := x; exact ⟨z, its, r, ob, k _ _ (.inl rfl) e, c⟩
  | dK kvs => obtain ⟨z, y, vs, r, ob, es, ep, e, c⟩ := x; exact ⟨z, y, vs, r, ob, es, ep, k _ _ (.inl rfl) e, c⟩
  | dT kvs =>
    obtain ⟨z, y, xs, r, ob, es, ep, e, c⟩ := x
    exact ⟨z, y, xs, Paired.mapP r fun p q z => ⟨z.1, ht _ _ z.2.1, z.2.2⟩, ob, es, ep, k _ _ (.inl rfl) e, c⟩
  | set S n => obtain ⟨ob, es, ep, t, e, c⟩ := x; exact ⟨ob, es, ep, t, k _ _ (.inl rfl) e, c⟩
  | ins C dx fs =>
    obtain ⟨d, z, ne, e, mA, ⟨od, es, ep, e2, c⟩, r⟩ := x
    exact ⟨ho _ d, z, ne, k _ _ (.inl rfl) e, mA, ⟨od, es, ep, k _ _ (.inr d) e2, c⟩, r⟩
  | own y => obtain ⟨ob, e⟩ := x; exact ⟨ob, k _ _ (.inl rfl) e⟩
  | xd fs => obtain ⟨mA, ⟨od, es, ep, e, c⟩, r⟩ := x; exact ⟨mA, ⟨od, es, ep, k _ _ (.inl rfl) e, c⟩, r⟩
  | rng lo hi => obtain ⟨t, u, v, e⟩ := x; exact ⟨t, u, v, k _ _ (.inl rfl) e⟩
  | frz ob u ih => obtain ⟨e, q⟩ := x; exact ⟨k _ _ (.inl rfl) e, ih q⟩
  | tbl ps =>
    have e : h.get? a = some { cls := .none, data := .fields ps } := x
    show h'.get? a = some { cls := .none, data := .fields ps }
    exact k a _ (.inl rfl) e
  | met f y =>
    have e : h.get? a = some (PySem.W.methodObj (.ref f) (.ref y)) := x
    show h'.get? a = some (PySem.W.methodObj (.ref f) (.ref y))
    exact k a _ (.inl rfl) e
  | ext φ => obtain ⟨p, ⟨o, e⟩, st⟩ := x; exact ⟨st _ _ p fun o q => k _ _ (.inl rfl) q, ⟨o, k _ _ (.inl rfl) e⟩, st⟩
theorem HOk.lt (x : HOk P w H h) (e : H a = some o) : a < h.objs.size := (x a o e).lt
theorem HOk.fresh (x : HOk P w H h) (e : h.objs.size ≤ a) : H a = none := by
  cases q : H a with
  | none => rfl
  | some u => exact absurd (Nat.lt_of_lt_of_le (x.lt q) e) (Nat.lt_irrefl _)
theorem HOk.kept (x : HOk P w H h) (k : ∀ b u, h.get? b = some u → h'.get? b = some u) : HOk P w H h' := fun a o e =>
  (x a o e).stay (fun b u _ q => k b u q) (fun _ q => q) fun _ _ q => q
theorem HOk.laid (x : HOk P w H h) (k : ∀ b u, h.get? b = some u → h'.get? b = some u) (hp : h.objs.size ≤ a) (new : ObjOk P w (upd H a o) h' a o) : HOk P w (upd H a o) h' := fun b u e => by
  have hn := x.fresh hp
  by_cases hb : b = a
  · subst hb; rw [upd_same] at e; cases e; exact new
  · rw [upd_ne hb] at e
    exact (x b u e).stay (fun c v _ q => k c v q) (fun c q => by rw [upd_ne (ne_of_none q hn)]; exact q) fun c xs q => by rw [upd_ne (ne_of_none q hn)]; exact q
end
def Rd (H : Hp) (a : Addr) (u : HO) : Prop := H a = some u ∨ ∃ o, H a = some (.frz o u)
theorem Rd.of {H : Hp} {a : Addr} {u : HO} (h : H a = some u) : Rd H a u := .inl h
theorem Rd.ok {P : Program} {w : World} {H : Hp} {h : Heap} {a : Addr} {u : HO} (r : Rd H a u) (x : HOk P w H h) : ObjOk P w H h a u := by
  rcases r with r | ⟨o, r⟩
  · exact x a u r
  · obtain ⟨_, q⟩ := x a _ r
    exact q
def Mut : Option HO → Prop
  | some (.lst _) => True
  | some (.dK _) => True
  | some (.dT _) => True
  | some (.set _ _) => True
  | some (.ins _ _ _) => True
  | some (.ext _) => True
  | _ => False
section
variable {P : Program} {w : World} {H : Hp} {h h' : Heap} {x e : Addr} {o' : HO}
theorem HOk.write (ok : HOk P w H h) (mu : Mut (H x)) (he : e = x ∨ H e = some (.own x)) (k : ∀ b u, b ≠ e → h.get? b = some u → h'.get? b = some u) (heo : ∃ u, h'.get? e = some u)
    (new : ObjOk P w (upd H x o') h' x o') : HOk P w (upd H x o') h' := fun b u q => by
  have nown : ∀ c y, H c = some (.own y) → c ≠ x := fun c y r z => by subst z; rw [r] at mu; exact mu
  have ntup : ∀ c xs, H c = some (.tup xs) → c ≠ x := fun c xs r z => by subst z; rw [r] at mu; exact mu
  by_cases hb : b = x
  · subst hb; rw [upd_same] at q; cases q; exact new
  · rw [upd_ne hb] at q
    by_cases hbe : b = e
    · have q' : H b = some (.own x) := by
        rcases he with z | z
        · exact absurd (hbe.trans z) hb
        · rw [hbe]; exact z
      rw [q] at q'; cases q'
      obtain ⟨v, hv⟩ := heo
      exact ⟨v, by rw [hbe]; exact hv⟩
    · refine (ok b u q).stay (fun c v hc r => k c v ?_ r) (fun c r => by rw [upd_ne (nown c b r)]; exact r) fun c xs r => by rw [upd_ne (ntup c xs r)]; exact r
      rcases hc with rfl | hc
      · exact hbe
      · rintro rfl
        rcases he with z | z
        · exact nown c b hc z
        · rw [hc] at z; cases z; exact hb rfl
end
structure Un (fs ex : List Addr) (H H' : Hp) (h h' : Heap) : Prop where
  keep : ∀ b o, h.get? b = some o → H b = none → b ∉ fs → b ∉ ex → h'.get? b = some o
  slot : ∀ b o, h.get? b = some o → H b = none → b ∈ fs → b ∉ ex → ∃ sl, h'.get? b = some { o with slots := sl }
  free : ∀ b o, h.get? b = some o → H b = none → b ∉ ex → H' b = none
  there : ∀ b o, h.get? b = some o → b ∉ ex → ∃ o', h'.get? b = some o'
  tups : ∀ b xs, H b = some (.tup xs) → H' b = some (.tup xs)
  frzs : ∀ b o u, H b = some (.frz o u) → H' b = some (.frz o u)
  tbls : ∀ b ps, H b = some (.tbl ps) → ∃ more, H' b = some (.tbl (ps ++ more))
section
variable {fs fs' ex ex' : List Addr} {H H1 H2 : Hp} {h h1 h2 h' : Heap} {a x e : Addr} {o : HO}
theorem Un.any (u : Un fs ex H H1 h h1) {b : Addr} {ob : Obj} (q : h.get? b = some ob) (n : H b = none) (hx : b ∉ ex) : ∃ sl, h1.get? b = some { ob with slots := sl } := by
  by_cases hb : b ∈ fs
  · exact u.slot b ob q n hb hx
  · exact ⟨ob.slots, u.keep b ob q n hb hx⟩
theorem Un.trans (a : Un fs ex H H1 h h1) (b : Un fs ex H1 H2 h1 h2) : Un fs ex H H2 h h2 where
  keep := fun c ob q n hc hx => b.keep c ob (a.keep c ob q n hc hx) (a.free c ob q n hx) hc hx
  slot := fun c ob q n hc hx => by
    obtain ⟨sl, e1⟩ := a.slot c ob q n hc hx
    obtain ⟨sl', e2⟩ := b.slot c _ e1 (a.free c ob q n hx) hc hx
    exact ⟨sl', e2⟩
  free := fun c ob q n hx => by
    obtain ⟨o', e1⟩ := a.there c ob q hx
    exact b.free c o' e1 (a.free c ob q n hx) hx
  there := fun c ob q hx => by
    obtain ⟨o', e1⟩ := a.there c ob q hx
    exact b.there c o' e1 hx
  tups := fun c xs q => b.tups c xs (a.tups c xs q)
  frzs := fun c ob xs q => b.frzs c ob xs (a.frzs c ob xs q)
  tbls := fun c ps q => by
    obtain ⟨m1, e1⟩ := a.tbls c ps q
    obtain ⟨m2, e2⟩ := b.tbls c _ e1
    exact ⟨m1 ++ m2, by rw [e2, Array.append_assoc]⟩
theorem Un.kept (k : ∀ b u, h.get? b = some u → h'.get? b = some u) : Un fs ex H H h h' :=
  ⟨fun b ob q _ _ _ => k b ob q, fun b ob q _ _ _ => ⟨ob.slots, k b ob q⟩, fun _ _ _ n _ => n, fun b ob q _ => ⟨ob, k b ob q⟩, fun _ _ q => q, fun _ _ _ q => q, fun _ ps q => ⟨#[], by rw [q]; simp⟩⟩
theorem Un.refl : Un fs ex H H h h := Un.kept fun _ _ q => q
theorem Un.laid (k : ∀ b u, h.get? b = some u → h'.get? b = some u) (hp : h.objs.size ≤ a) (hn : H a = none) : Un fs ex H (upd H a o) h h' where
  keep := fun b u q _ _ _ => k b u q
  slot := fun b u q _ _ _ => ⟨u.slots, k b u q⟩
  free := fun b u q n _ => by rw [upd_ne (Nat.ne_of_lt (Nat.lt_of_lt_of_le (Heap.lt_size q) hp))]; exact n
  there := fun b u q _ => ⟨u, k b u q⟩
  tups := fun b xs q => by rw [upd_ne (ne_of_none q hn)]; exact q
  frzs := fun b u xs q => by rw [upd_ne (ne_of_none q hn)]; exact q
  tbls := fun b ps q => ⟨#[], by rw [upd_ne (ne_of_none q hn), q]; simp⟩
theorem Un.write (mu : Mut (H x)) (he : e = x ∨ H e = some (.own x)) (k : ∀ b u, b ≠ e → h.get? b = some u → h'.get? b = some u) (heo : ∃ u, h'.get? e = some u) : Un fs ex H (upd H x o) h h' := by
  have hx : ∀ b, H b = none → b ≠ x := fun b n z => by subst z; rw [n] at mu; exact mu
  have hb : ∀ b, H b = none → b ≠ e := fun b n z => by
    subst z
    rcases he with r | r
    · exact hx b n r
    · rw [n] at r; cases r
  have hm : ∀ b u, H b = some u → ¬ Mut (some u) → b ≠ x := fun b u q nm z => by subst z; rw [q] at mu; exact nm mu
  refine ⟨fun b u q n _ _ => k b u (hb b n) q, fun b u q n _ _ => ⟨u.slots, k b u (hb b n) q⟩, fun b u q n _ => by rw [upd_ne (hx b n)]; exact n, fun b u q _ => ?_,
    fun b xs q => by rw [upd_ne (hm b _ q fun z => z)]; exact q, fun b u xs q => by rw [upd_ne (hm b _ q fun z => z)]; exact q, fun b ps q => ⟨#[], by rw [upd_ne (hm b _ q fun z => z), q]; simp⟩⟩
  by_cases hbe : b = e
  · subst hbe; exact heo
  · exact ⟨u, k b u hbe q⟩
theorem Un.mono (u : Un fs ex H H1 h h1) (hs : ∀ b ∈ fs, b ∈ fs') (hx : ∀ b ∈ ex, b ∈ ex') : Un fs' ex' H H1 h h1 :=
  ⟨fun b ob q n hb he => u.keep b ob q n (fun z => hb (hs b z)) fun z => he (hx b z), fun _ _ q n _ he => u.any q n fun z => he (hx _ z), fun b ob q n he => u.free b ob q n fun z => he (hx b z), fun b ob q he => u.there b ob q fun z => he (hx b z), u.tups, u.frzs, u.tbls⟩
end
def trk (h : Heap) (H : Hp) : List Addr := (List.range h.objs.size).filter fun a => (H a).isSome
def hidT (h : Heap) (H : Hp) : Heap := PySem.W.hideAll h (trk h H)
theorem hidT_size (h : Heap) (H : Hp) : (hidT h H).objs.size = h.objs.size := PySem.W.hideAll_size _ _
theorem hidT_get {h : Heap} {H : Hp} {b : Addr} {o : Obj} (e : h.get? b = some o) (n : H b = none) : (hidT h H).get? b = some o :=
  PySem.W.hideAll_get _ e fun hm => by
    have q : (H b).isSome = true := (List.mem_filter.mp hm).2
    rw [n] at q; simp at q
theorem of_hidT {h : Heap} {H : Hp} {b : Addr} {o : Obj} (e : (hidT h H).get? b = some o) : h.get? b = some o ∧ H b = none := by
  have e' : h.get? b = some o := PySem.W.of_hideAll (trk h H) e
  refine ⟨e', ?_⟩
  cases q : H b with
  | none => rfl
  | some x =>
    have hm : b ∈ trk h H := List.mem_filter.mpr ⟨List.mem_range.mpr (Heap.lt_size e'), by simp [q]⟩
    have z : (hidT h H).get? b = none := PySem.W.hideAll_none (trk h H) hm
    rw [z] at e; cases e
def allNews (g h : Heap) (L : Addr) : List (Addr × Obj) := (List.range h.objs.size).filterMap fun a => if a = L ∨ (g.get? a).isSome = true then none else (h.get? a).map fun o => (a, o)
def rest (g h : Heap) (L d : Addr) : List (Addr × Obj) := (allNews g h L).filter fun p => decide (p.1 ≠ d)
end L2
namespace L2
open PySem PySem.Spec PyProof.Rows
structure Mod (K : PySem.W.Frag) (mg : Str → Option Value) (base : Heap) : Prop where
  kin : K.In base
  glob : base.Ns mainGlobals mg
  blt : ∃ mb, base.Ns builtinsNs mb ∧ ∀ x : Str, x ≠ "__name__" → mb x = bootBuiltins x
  nolimit : base.NoLimit
structure Cx where
  prog : Program
  w : World
  K : PySem.W.Frag
  mg : Str → Option Value
  base : Heap
  A : Around
  N : List Str
  s₀ : Shared
  H₀ : Hp
  env : Env
  outer : List Env
  stack : List Env
  ex : List Addr
  fn : Str → Bool
  calm : Bool
  pn : List (Addr × Obj)
  xe : Value → Shared → Prop
def frs (l : List Env) : List Addr := l.filterMap (·.frame)
abbrev Cx.fs (X : Cx) : List Addr := frs X.outer
def Vis (sc : Scope) (x : Str) : Prop := sc.names.lookup x = some .local ∨ sc.names.lookup x = some .cell ∨ sc.names.lookup x = some .free
def Loc (sc : Scope) (x : Str) : Prop := sc.names.lookup x = some .local ∨ sc.names.lookup x = some .cell
def Look (env : Env) (h : Heap) (m : Str → Option Value) (x : Str) (u : Value) : Prop :=
  (env.kindOf x = some .local ∧ m x = some u) ∨ ((env.kindOf x = some .cell ∨ env.kindOf x = some .free) ∧ ∃ c, env.cells.lookup x = some c ∧ h.IsCell c (some u))
structure Cx.Ok (X : Cx) : Prop where
  mod : Mod X.K X.mg X.base
  kind : X.env.scope.kind = .function
  glob : X.env.globals = mainGlobals
  blt : X.env.builtins = builtinsNs
  above : X.s₀.heap.objs.size ≤ X.env.locals
  inj : ∀ x y c, X.env.cells.lookup x = some c → X.env.cells.lookup y = some c → x = y
  has : ∀ x, (X.env.kindOf x = some .cell ∨ X.env.kindOf x = some .free) → ∃ c, X.env.cells.lookup x = some c
  cab : ∀ x c, X.fn x = true → X.env.cells.lookup x = some c → X.s₀.heap.objs.size ≤ c
  hd : X.calm = true → X.A.handled = none
  frames : X.A.frames = some X.stack
  stk : X.stack = X.outer ∨ (X.stack = X.env :: X.outer ∧ X.env.frame = some X.env.locals)
  exf : ∀ b ∈ X.ex, b ≠ X.env.locals ∧ ∀ x c, X.env.cells.lookup x = some c → c ≠ b
  bs : ∀ b o, X.base.get? b = some o → X.s₀.heap.get? b = some o ∧ X.H₀ b = none
  bsz : X.base.objs.size ≤ X.s₀.heap.objs.size
  noex : ∀ b o, X.base.get? b = some o → b ∉ X.ex
  exfs : ∀ b ∈ X.ex, b ∉ X.fs
  funs : X.s₀.heap.FunFrames X.base X.outer
  frf : ∀ b ∈ X.fs, X.H₀ b = none
structure Inv (X : Cx) (pins : List (Addr × Obj)) (σ : List (Option V)) (H : Hp) (s : Shared) : Prop where
  ok : X.Ok
  os : s.os = X.s₀.os
  bare : AllBare s.gens
  base : Un X.fs X.ex X.H₀ H X.s₀.heap s.heap
  loc : ∃ m, s.heap.Ns X.env.locals m ∧ ∀ (i : Nat) (x : Str) (v : V), X.N[i]? = some x → σ[i]? = some (some v) → Vis X.env.scope x → ∃ u, RelV v u ∧ Look X.env s.heap m x u
  cell : ∀ x c, X.env.cells.lookup x = some c → ∃ v, s.heap.IsCell c v
  free : H X.env.locals = none
  freeC : ∀ x c, X.env.cells.lookup x = some c → H c = none
  pin : ∀ p ∈ X.pn ++ pins, s.heap.get? p.1 = some p.2 ∧ H p.1 = none ∧ p.1 ≠ X.env.locals ∧ p.1 ∉ X.fs ∧ ∀ v, p.2.data ≠ .cell v
  hok : HOk X.prog X.w H s.heap
  len : σ.length = X.N.length
section
variable {X : Cx} {pins : List (Addr × Obj)} {σ : List (Option V)} {H H' : Hp} {s : Shared} {h' : Heap}
theorem Cx.Ok.nofr (ok : X.Ok) {b : Addr} {o : Obj} (e : X.base.get? b = some o) : b ∉ X.fs := fun hb => by
  have := (ok.funs.mem hb).1
  rw [e] at this; cases this
theorem Inv.bs (I : Inv X pins σ H s) : ∀ b o, X.base.get? b = some o → s.heap.get? b = some o ∧ H b = none := fun b o e =>
  ⟨I.base.keep b o (I.ok.bs b o e).1 (I.ok.bs b o e).2 (I.ok.nofr e) (I.ok.noex b o e), I.base.free b o (I.ok.bs b o e).1 (I.ok.bs b o e).2 (I.ok.noex b o e)⟩
theorem Inv.bk (I : Inv X pins σ H s) : ∀ b o, X.base.get? b = some o → s.heap.get? b = some o := fun b o e => (I.bs b o e).1
theorem Inv.mod (I : Inv X pins σ H s) : Mod X.K X.mg X.base := I.ok.mod
theorem Inv.kIn (I : Inv X pins σ H s) : X.K.In s.heap := I.ok.mod.kin.keeps I.bk
theorem Inv.nolimit (I : Inv X pins σ H s) : s.heap.NoLimit := I.ok.mod.nolimit.keeps I.bk
theorem Inv.fr (I : Inv X pins σ H s) : ∃ m, Fr X.base X.env.locals s.heap m :=
  let ⟨m, hn, _⟩ := I.loc
  ⟨m, hn, I.bk, Nat.le_trans I.ok.bsz I.ok.above⟩
theorem Inv.lt (I : Inv X pins σ H s) : X.env.locals < s.heap.objs.size := let ⟨_, hn, _⟩ := I.loc; hn.lt
theorem Inv.sz (I : Inv X pins σ H s) : X.s₀.heap.objs.size ≤ s.heap.objs.size := Nat.le_trans I.ok.above (Nat.le_of_lt I.lt)
theorem Inv.nofs (I : Inv X pins σ H s) {a : Addr} (h : s.heap.objs.size ≤ a) : a ∉ X.fs := fun hb => by
  obtain ⟨_, o, ho, _⟩ := I.ok.funs.mem hb
  exact absurd (Nat.lt_of_lt_of_le (Heap.lt_size ho) (Nat.le_trans I.sz h)) (Nat.lt_irrefl _)
theorem Inv.cne (I : Inv X pins σ H s) : ∀ x c, X.env.cells.lookup x = some c → c ≠ X.env.locals := fun x c e z => by
  obtain ⟨v, o, ho, hd⟩ := I.cell x c e
  obtain ⟨m, ⟨o', es, ep, ho', hd', _⟩, _⟩ := I.loc
  rw [z, ho'] at ho; cases ho; rw [hd'] at hd; cases hd
theorem Inv.funs (I : Inv X pins σ H s) : s.heap.FunFrames X.base X.outer := by
  have all : ∀ (l : List Env), (∀ b ∈ frs l, b ∈ X.fs) → X.s₀.heap.FunFrames X.base l → s.heap.FunFrames X.base l := by
    intro l
    induction l with
    | nil => intro _ _; trivial
    | cons env r ih =>
      intro hs hl
      obtain ⟨hk, ⟨L, o, hf, hn, ho, hd⟩, hr⟩ := hl
      have hL : L ∈ X.fs := hs L (by unfold frs; rw [List.filterMap_cons, hf]; exact List.mem_cons_self)
      obtain ⟨sl, e⟩ := I.base.slot L o ho (I.ok.frf L hL) hL fun z => I.ok.exfs L z hL
      exact ⟨hk, ⟨L, _, hf, hn, e, hd⟩, ih (fun b hb => hs b (by unfold frs; rw [List.filterMap_cons, hf]; exact List.mem_cons_of_mem _ hb)) hr⟩
  exact all X.outer (fun _ hb => hb) I.ok.funs
theorem Inv.stack (I : Inv X pins σ H s) : s.heap.FunFrames X.base X.stack := by
  rcases I.ok.stk with e | ⟨e, hf⟩
  · rw [e]; exact I.funs
  · rw [e]
    obtain ⟨m, hn, _⟩ := I.loc
    refine .cons (by rw [I.ok.kind]; decide) hf hn ?_ I.funs
    exact Heap.get?_none_of_le (Nat.le_trans I.ok.bsz I.ok.above)
theorem Inv.stkSub (I : Inv X pins σ H s) : ∀ b ∈ frs X.stack, b ∈ X.env.locals :: X.fs := fun b hb => by
  rcases I.ok.stk with e | ⟨e, hf⟩
  · rw [e] at hb; exact List.mem_cons_of_mem _ hb
  · rw [e] at hb
    unfold frs at hb
    rw [List.filterMap_cons, hf] at hb
    exact hb
theorem Inv.stkFree (I : Inv X pins σ H s) : ∀ b ∈ frs X.stack, H b = none := fun b hb => by
  rcases List.mem_cons.mp (I.stkSub b hb) with e | hb
  · rw [e]; exact I.free
  · obtain ⟨_, o, ho, _⟩ := I.ok.funs.mem hb
    exact I.base.free b o ho (I.ok.frf b hb) fun z => I.ok.exfs b z hb
theorem Inv.step {g' : Array GenState} {t' : Nat} {d' : Drawn} {ch : List Addr} (I : Inv X pins σ H s)
    (hch : ∀ b ∈ ch, (b ∈ X.ex ∨ X.s₀.heap.objs.size ≤ b) ∧ b ≠ X.env.locals ∧ (∀ x c, X.env.cells.lookup x = some c → c ≠ b) ∧ ∀ p ∈ X.pn ++ pins, p.1 ≠ b)
    (keep : ∀ b o, b ≠ X.env.locals → b ∉ X.fs → b ∉ ch → s.heap.get? b = some o → H b = none → h'.get? b = some o)
    (slot : ∀ b o, b ≠ X.env.locals → b ∈ X.fs → b ∉ ch → s.heap.get? b = some o → H b = none → ∃ sl, h'.get? b = some { o with slots := sl }) (free : ∀ b o, b ∉ ch → s.heap.get? b = some o → H b = none → H' b = none)
    (there : ∀ b o, b ∉ ch → s.heap.get? b = some o → ∃ o', h'.get? b = some o')
    (tups : ∀ b xs, H b = some (.tup xs) → H' b = some (.tup xs)) (frzs : ∀ b o u, H b = some (.frz o u) → H' b = some (.frz o u)) (tbls : ∀ b ps, H b = some (.tbl ps) → ∃ more, H' b = some (.tbl (ps ++ more)))
    (ns : ∀ m, s.heap.Ns X.env.locals m → h'.Ns X.env.locals m) (hok : HOk X.prog X.w H' h') (hg : AllBare g') :
    Inv X pins σ H' { s with heap := h', gens := g', drawn := d', toks := t' } := by
  have neL : ∀ b o, X.s₀.heap.get? b = some o → b ≠ X.env.locals := fun b o e => Nat.ne_of_lt (Nat.lt_of_lt_of_le (Heap.lt_size e) I.ok.above)
  have neC : ∀ b o, X.s₀.heap.get? b = some o → b ∉ X.ex → b ∉ ch := fun b o e hx hb => by
    rcases (hch b hb).1 with z | z
    · exact hx z
    · exact absurd (Nat.lt_of_lt_of_le (Heap.lt_size e) z) (Nat.lt_irrefl _)
  have cellK : ∀ x c, X.env.cells.lookup x = some c → ∀ v, s.heap.IsCell c v → h'.IsCell c v := fun x c e v ⟨o, ho, hd⟩ => by
    have nch : c ∉ ch := fun z => (hch c z).2.2.1 x c e rfl
    by_cases hc : c ∈ X.fs
    · obtain ⟨sl, q⟩ := slot c o (I.cne x c e) hc nch ho (I.freeC x c e)
      exact ⟨_, q, hd⟩
    · exact ⟨o, keep c o (I.cne x c e) hc nch ho (I.freeC x c e), hd⟩
  refine ⟨I.ok, I.os, hg, ⟨fun b o e n hb hx => ?_, fun b o e n hb hx => ?_, fun b o e n hx => ?_, fun b o e hx => ?_, fun b xs e => tups b xs (I.base.tups b xs e), fun b o xs e => frzs b o xs (I.base.frzs b o xs e), fun b ps e => ?_⟩, ?_, fun x c e => ?_, ?_, fun x c e => ?_, fun p hp => ?_, hok, I.len⟩
  · exact keep b o (neL b o e) hb (neC b o e hx) (I.base.keep b o e n hb hx) (I.base.free b o e n hx)
  · obtain ⟨sl, e1⟩ := I.base.slot b o e n hb hx
    obtain ⟨sl', e2⟩ := slot b _ (neL b o e) hb (neC b o e hx) e1 (I.base.free b o e n hx)
    exact ⟨sl', e2⟩
  · obtain ⟨o', e1⟩ := I.base.there b o e hx
    exact free b o' (neC b o e hx) e1 (I.base.free b o e n hx)
  · obtain ⟨o', e1⟩ := I.base.there b o e hx
    exact there b o' (neC b o e hx) e1
  · obtain ⟨m1, e1⟩ := I.base.tbls b ps e
    obtain ⟨m2, e2⟩ := tbls b _ e1
    exact ⟨m1 ++ m2, by rw [e2, Array.append_assoc]⟩
  · obtain ⟨m, hn, hl⟩ := I.loc
    refine ⟨m, ns m hn, fun i x v e1 e2 e3 => ?_⟩
    obtain ⟨u, r, l⟩ := hl i x v e1 e2 e3
    refine ⟨u, r, ?_⟩
    rcases l with l | ⟨k, c, e, z⟩
    · exact .inl l
    · exact .inr ⟨k, c, e, cellK x c e _ z⟩
  · obtain ⟨v, z⟩ := I.cell x c e
    exact ⟨v, cellK x c e v z⟩
  · obtain ⟨m, ⟨o, _, _, ho, _⟩, _⟩ := I.loc
    exact free _ o (fun z => (hch _ z).2.1 rfl) ho I.free
  · obtain ⟨v, o, ho, hd⟩ := I.cell x c e
    exact free c o (fun z => (hch c z).2.2.1 x c e rfl) ho (I.freeC x c e)
  · obtain ⟨e, n, ne, nf, d⟩ := I.pin p hp
    have nch : p.1 ∉ ch := fun z => (hch p.1 z).2.2.2 p hp rfl
    exact ⟨keep p.1 p.2 ne nf nch e n, free p.1 p.2 nch e n, ne, nf, d⟩
theorem Inv.un {t' : Nat} (I : Inv X pins σ H s) (u : Un X.fs [] H H' s.heap h') (hok : HOk X.prog X.w H' h') : Inv X pins σ H' { s with heap := h', toks := t' } := by
  obtain ⟨m, ⟨o, es, ep, ho, r⟩, _⟩ := id I.loc
  obtain ⟨sl, hL⟩ := u.any ho I.free (by simp)
  exact I.step (g' := s.gens) (d' := s.drawn) (ch := []) (fun _ z => nomatch z) (fun b o _ hb _ e n => u.keep b o e n hb (by simp)) (fun b o _ hb _ e n => u.slot b o e n hb (by simp)) (fun b o _ e n => u.free b o e n (by simp)) (fun b o _ e => u.there b o e (by simp)) u.tups u.frzs u.tbls (fun m' hm => by
    obtain ⟨o', es', ep', ho', r'⟩ := hm
    rw [ho] at ho'; cases ho'
    exact ⟨_, es', ep', hL, r'⟩) hok I.bare
theorem Inv.call {g' : Array GenState} {t' : Nat} {d' : Drawn} {ch : List Addr} (I : Inv X pins σ H s) (u : Un (frs X.stack) ch H H' s.heap h') (hok : HOk X.prog X.w H' h') (hg : AllBare g')
    (hch : ∀ b ∈ ch, (b ∈ X.ex ∨ X.s₀.heap.objs.size ≤ b) ∧ b ≠ X.env.locals ∧ (∀ x c, X.env.cells.lookup x = some c → c ≠ b) ∧ ∀ p ∈ X.pn ++ pins, p.1 ≠ b) :
    Inv X pins σ H' { s with heap := h', gens := g', drawn := d', toks := t' } := by
  obtain ⟨m, ⟨o, es, ep, ho, r⟩, _⟩ := id I.loc
  obtain ⟨sl, hL⟩ := u.any ho I.free fun z => (hch _ z).2.1 rfl
  exact I.step (ch := ch) hch (fun b o hL hb hc e n => u.keep b o e n (fun z => (List.mem_cons.mp (I.stkSub b z)).elim hL hb) hc) (fun b o _ _ hc e n => u.any e n hc) (fun b o hc e n => u.free b o e n hc) (fun b o hc e => u.there b o e hc) u.tups u.frzs u.tbls (fun m' hm => by
    obtain ⟨o', es', ep', ho', r'⟩ := hm
    rw [ho] at ho'; cases ho'
    exact ⟨_, es', ep', hL, r'⟩) hok hg
theorem Inv.turned {t' : Nat} {it : Addr} (I : Inv X pins σ H s) (k : ∀ b o, b ≠ it → s.heap.get? b = some o → h'.get? b = some o) (hn : H it = none) (hL : it ≠ X.env.locals)
    (h1 : it ∈ X.ex ∨ X.s₀.heap.objs.size ≤ it) (h2 : ∀ x c, X.env.cells.lookup x = some c → c ≠ it) (h3 : ∀ p ∈ X.pn ++ pins, p.1 ≠ it) : Inv X pins σ H { s with heap := h', toks := t' } := by
  have nit : ∀ b u, H b = some u → b ≠ it := fun b u e z => by rw [z, hn] at e; cases e
  refine I.step (g' := s.gens) (d' := s.drawn) (ch := [it]) (fun b hb => ?_) (fun b o _ _ hc e _ => k b o (fun z => hc (by simp [z])) e) (fun b o _ _ hc e _ => ⟨o.slots, k b o (fun z => hc (by simp [z])) e⟩) (fun _ _ _ _ n => n)
    (fun b o hc e => ⟨o, k b o (fun z => hc (by simp [z])) e⟩) (fun _ _ e => e) (fun _ _ _ e => e) (fun b ps e => ⟨#[], by rw [e]; simp⟩) (fun m hm => ?_) (fun b u e => ?_) I.bare
  · have e : b = it := by simpa using hb
    subst e
    exact ⟨h1, hL, h2, h3⟩
  · obtain ⟨o, es, ep, ho, r⟩ := hm
    exact ⟨o, es, ep, k _ o (Ne.symm hL) ho, r⟩
  · refine (I.hok b u e).stay (fun c v hc q => k c v ?_ q) (fun _ q => q) fun _ _ q => q
    rcases hc with z | z
    · rw [z]; exact nit b u e
    · exact nit c _ z
theorem Inv.tok (I : Inv X pins σ H s) (t : Nat) : Inv X pins σ H { s with toks := t } := I.un (h' := s.heap) (t' := t) Un.refl I.hok
theorem Inv.kept {t' : Nat} (I : Inv X pins σ H s) (k : ∀ b u, s.heap.get? b = some u → h'.get? b = some u) : Inv X pins σ H { s with heap := h', toks := t' } := I.un (Un.kept k) (I.hok.kept k)
theorem Inv.laid {a : Addr} {o : HO} {t' : Nat} (I : Inv X pins σ H s) (k : ∀ b u, s.heap.get? b = some u → h'.get? b = some u) (hp : s.heap.objs.size ≤ a) (new : ObjOk X.prog X.w (upd H a o) h' a o) :
    Inv X pins σ (upd H a o) { s with heap := h', toks := t' } := I.un (Un.laid k hp (I.hok.fresh hp)) (I.hok.laid k hp new)
theorem Inv.write {x e : Addr} {o : HO} {t' : Nat} (I : Inv X pins σ H s) (mu : Mut (H x)) (he : e = x ∨ H e = some (.own x)) (k : ∀ b u, b ≠ e → s.heap.get? b = some u → h'.get? b = some u) (heo : ∃ u, h'.get? e = some u)
    (new : ObjOk X.prog X.w (upd H x o) h' x o) : Inv X pins σ (upd H x o) { s with heap := h', toks := t' } := I.un (Un.write mu he k heo) (I.hok.write mu he k heo new)
theorem Inv.pins_of {pins' : List (Addr × Obj)} (I : Inv X pins σ H s) (h : ∀ p ∈ pins', s.heap.get? p.1 = some p.2 ∧ H p.1 = none ∧ p.1 ≠ X.env.locals ∧ p.1 ∉ X.fs ∧ ∀ v, p.2.data ≠ .cell v) : Inv X pins' σ H s :=
  ⟨I.ok, I.os, I.bare, I.base, I.loc, I.cell, I.free, I.freeC, fun p hp => (List.mem_append.mp hp).elim (fun z => I.pin p (List.mem_append_left _ z)) (h p), I.hok, I.len⟩
theorem nodup_ix {N : List Str} (hN : N.Nodup) {i j : Nat} {x : Str} (a : N[i]? = some x) (b : N[j]? = some x) : i = j := by
  obtain ⟨h1, e1⟩ := List.getElem?_eq_some_iff.mp a
  obtain ⟨h2, e2⟩ := List.getElem?_eq_some_iff.mp b
  exact (List.getElem_inj hN).mp (e1.trans e2.symm)
theorem store_ok2 {M : Model} {A : Around} {E : Value → Shared → Prop} {i : Nat} {x : Str} {v : V} {u : Value} {Q : Unit → Shared → Prop} (I : Inv X pins σ H s) (hN : X.N.Nodup) (hi : X.N[i]? = some x) (hx : Loc X.env.scope x) (r : RelV v u)
    (h : ∀ s', Inv X pins (σ.set i (some v)) H s' → (∃ a, Heap.SameBut a s.heap s'.heap ∧ (a = X.env.locals ∨ X.env.cells.lookup x = some a)) → Q () s') (hf : X.fn x = true ∨ X.env.scope.names.lookup x = some .local := by first | exact .inl rfl | exact .inr rfl | assumption) : wpAny M A (storeName X.env x u) Q E s := by
  obtain ⟨m, hn, hl⟩ := id I.loc
  have hcls : (X.env.scope.kind == .class || (X.env.scope.kind == .module && X.env.locals != X.env.globals)) = false := by rw [I.ok.kind]; rfl
  have hiσ : i < σ.length := by rw [I.len]; exact (List.getElem?_eq_some_iff.mp hi).1
  have cne := I.cne
  have tracked : ∀ {a : Addr} {h' : Heap}, (∃ o, s.heap.get? a = some o ∧ H a = none) → Heap.SameBut a s.heap h' → HOk X.prog X.w H h' := fun {a h'} ha hs b ob e => by
    obtain ⟨_, _, hfree⟩ := ha
    refine (I.hok b ob e).stay (fun c w' hc q => (hs.2 c ?_).trans q) (fun _ q => q) fun _ _ q => q
    rintro rfl
    rcases hc with rfl | hc
    · rw [hfree] at e; cases e
    · rw [hfree] at hc; cases hc
  rcases hx with hk | hk
  · refine wpAny_storeName_local hk hn (fun h' hn' hs => ?_) hcls
    obtain ⟨oL, _, _, hoL, _⟩ := id hn
    refine h _ ⟨I.ok, I.os, I.bare, ⟨fun b o e n hb hx => ?_, fun b o e n hb hx => ?_, I.base.free, fun b o e hx => ?_, I.base.tups, I.base.frzs, I.base.tbls⟩, ⟨_, hn', fun j y v' e1 e2 e3 => ?_⟩, fun y c e => ?_, I.free, I.freeC, fun p hp => ?_, tracked ⟨oL, hoL, I.free⟩ hs, by simpa using I.len⟩ ⟨_, hs, .inl rfl⟩
    · exact (hs.2 b (Nat.ne_of_lt (Nat.lt_of_lt_of_le (Heap.lt_size e) I.ok.above))).trans (I.base.keep b o e n hb hx)
    · obtain ⟨sl, e1⟩ := I.base.slot b o e n hb hx
      exact ⟨sl, (hs.2 b (Nat.ne_of_lt (Nat.lt_of_lt_of_le (Heap.lt_size e) I.ok.above))).trans e1⟩
    · obtain ⟨o', e1⟩ := I.base.there b o e hx
      exact ⟨o', (hs.2 b (Nat.ne_of_lt (Nat.lt_of_lt_of_le (Heap.lt_size e) I.ok.above))).trans e1⟩
    · by_cases hj : j = i
      · subst hj
        rw [hi] at e1; cases e1
        rw [List.getElem?_set_self hiσ] at e2
        cases e2
        exact ⟨u, r, .inl ⟨hk, by simp⟩⟩
      · rw [List.getElem?_set_ne (Ne.symm hj)] at e2
        obtain ⟨u', r', q⟩ := hl j y v' e1 e2 e3
        refine ⟨u', r', ?_⟩
        rcases q with ⟨k, e⟩ | ⟨k, c, e, z⟩
        · refine .inl ⟨k, ?_⟩
          have : y ≠ x := fun e => hj (nodup_ix hN e1 (e ▸ hi))
          simp [this, e]
        · exact .inr ⟨k, c, e, z.sameBut hs (cne y c e)⟩
    · obtain ⟨w', z⟩ := I.cell y c e
      exact ⟨w', z.sameBut hs (cne y c e)⟩
    · obtain ⟨e, n, ne, nf, d⟩ := I.pin p hp
      exact ⟨(hs.2 p.1 ne).trans e, n, ne, nf, d⟩
  · have hfn : X.fn x = true := by
      rcases hf with z | z
      · exact z
      · rw [z] at hk; cases hk
    obtain ⟨c, hc⟩ := I.ok.has x (.inl hk)
    obtain ⟨w', z⟩ := I.cell x c hc
    refine wpAny_storeName_cell I.ok.kind hk hc z (fun h' hc' hs => ?_)
    obtain ⟨oc, hoc, hocd⟩ := id z
    refine h { s with heap := h' } ⟨I.ok, I.os, I.bare, ⟨fun b o e n hb hx => ?_, fun b o e n hb hx => ?_, I.base.free, fun b o e hx => ?_, I.base.tups, I.base.frzs, I.base.tbls⟩, ⟨m, hn.sameBut hs (Ne.symm (cne x c hc)), fun j y v' e1 e2 e3 => ?_⟩, fun y c' e => ?_, I.free, I.freeC, fun p hp => ?_, tracked ⟨oc, hoc, I.freeC x c hc⟩ hs, by simpa using I.len⟩ ⟨c, hs, .inr hc⟩
    · exact (hs.2 b (Nat.ne_of_lt (Nat.lt_of_lt_of_le (Heap.lt_size e) (I.ok.cab x c hfn hc)))).trans (I.base.keep b o e n hb hx)
    · obtain ⟨sl, e1⟩ := I.base.slot b o e n hb hx
      exact ⟨sl, (hs.2 b (Nat.ne_of_lt (Nat.lt_of_lt_of_le (Heap.lt_size e) (I.ok.cab x c hfn hc)))).trans e1⟩
    · obtain ⟨o', e1⟩ := I.base.there b o e hx
      exact ⟨o', (hs.2 b (Nat.ne_of_lt (Nat.lt_of_lt_of_le (Heap.lt_size e) (I.ok.cab x c hfn hc)))).trans e1⟩
    · by_cases hj : j = i
      · subst hj
        rw [hi] at e1; cases e1
        rw [List.getElem?_set_self hiσ] at e2
        cases e2
        exact ⟨u, r, .inr ⟨.inl hk, c, hc, hc'⟩⟩
      · rw [List.getElem?_set_ne (Ne.symm hj)] at e2
        obtain ⟨u', r', q⟩ := hl j y v' e1 e2 e3
        refine ⟨u', r', ?_⟩
        rcases q with q | ⟨k, c', e, z'⟩
        · exact .inl q
        · refine .inr ⟨k, c', e, z'.sameBut hs ?_⟩
          rintro rfl
          exact hj (nodup_ix hN e1 (I.ok.inj _ _ _ e hc ▸ hi))
    · by_cases hcc : c' = c
      · subst hcc; exact ⟨_, hc'⟩
      · obtain ⟨w2, z2⟩ := I.cell y c' e
        exact ⟨w2, z2.sameBut hs hcc⟩
    · obtain ⟨e, n, ne, nf, d⟩ := I.pin p hp
      refine ⟨(hs.2 p.1 ?_).trans e, n, ne, nf, d⟩
      intro q
      rw [q, hoc] at e
      have q' : oc = p.2 := Option.some.inj e
      exact d w' (by rw [← q']; exact hocd)
theorem store_ok {M : Model} {A : Around} {E : Value → Shared → Prop} {i : Nat} {x : Str} {v : V} {u : Value} {Q : Unit → Shared → Prop} (I : Inv X pins σ H s) (hN : X.N.Nodup) (hi : X.N[i]? = some x) (hx : Loc X.env.scope x) (r : RelV v u)
    (h : ∀ s', Inv X pins (σ.set i (some v)) H s' → Q () s') (hf : X.fn x = true ∨ X.env.scope.names.lookup x = some .local := by first | exact .inl rfl | exact .inr rfl | assumption) : wpAny M A (storeName X.env x u) Q E s :=
  store_ok2 I hN hi hx r (fun s' I' _ => h s' I') hf
theorem Inv.call' {s' : Shared} {ch : List Addr} (I : Inv X pins σ H s) (ho : s'.os = s.os) (u : Un (frs X.stack) ch H H' s.heap s'.heap) (hok : HOk X.prog X.w H' s'.heap) (hg : AllBare s'.gens)
    (hch : ∀ b ∈ ch, (b ∈ X.ex ∨ X.s₀.heap.objs.size ≤ b) ∧ b ≠ X.env.locals ∧ (∀ x c, X.env.cells.lookup x = some c → c ≠ b) ∧ ∀ p ∈ X.pn ++ pins, p.1 ≠ b) : Inv X pins σ H' s' := by
  obtain ⟨h', g', d', t', o'⟩ := s'
  have e : o' = s.os := ho
  subst e
  exact I.call (g' := g') (t' := t') (d' := d') u hok hg hch
end
abbrev XK := Value → Option Addr → Hp → Prop
abbrev St := List (Option V)
abbrev VK := V → Hp → Prop
abbrev TE := St → Hp → VK → Prop
abbrev TT := St → Hp → (Bool → Hp → Prop) → Prop
abbrev TA := St → Hp → (List V → Hp → Prop) → Prop
structure Ends where
  nx : St → Hp → Prop
  rt : VK
  bk : St → Hp → Prop := fun _ _ => False
  ct : St → Hp → Prop := fun _ _ => False
abbrev TS := Ends → St → Hp → Prop
def EP (X : Cx) (pins : List (Addr × Obj)) (σ : St) (Q : VK) (u : Value) (s' : Shared) : Prop := ∃ v H', Inv X pins σ H' s' ∧ RelV v u ∧ Q v H'
def TP (X : Cx) (pins : List (Addr × Obj)) (σ : St) (Q : Bool → Hp → Prop) (b : Bool) (s' : Shared) : Prop := ∃ H', Inv X pins σ H' s' ∧ Q b H'
def AP (X : Cx) (pins : List (Addr × Obj)) (σ : St) (Q : List V → Hp → Prop) (us : List Value) (s' : Shared) : Prop := ∃ vs H', Inv X pins σ H' s' ∧ Vals vs us ∧ Q vs H'
def SP (X : Cx) (pins : List (Addr × Obj)) (D : Ends) (f : Flow) (s' : Shared) : Prop :=
  match f with
  | .next => ∃ σ' H', Inv X pins σ' H' s' ∧ D.nx σ' H'
  | .brk => ∃ σ' H', Inv X pins σ' H' s' ∧ D.bk σ' H'
  | .cont => ∃ σ' H', Inv X pins σ' H' s' ∧ D.ct σ' H'
  | .ret u => ∃ v σ' H', Inv X pins σ' H' s' ∧ RelV v u ∧ D.rt v H'
def PE (X : Cx) (e : Expr) (t : TE) : Prop :=
  ∀ (pins : List (Addr × Obj)) (s : Shared) (σ : St) (H : Hp) (Q : VK), Inv X pins σ H s → t σ H Q → wpAny (model X.prog X.w) X.A (eval e X.env) (EP X pins σ Q) X.xe s
def PT (X : Cx) (e : Expr) (t : TT) : Prop :=
  ∀ (pins : List (Addr × Obj)) (s : Shared) (σ : St) (H : Hp) (Q : Bool → Hp → Prop), Inv X pins σ H s → t σ H Q → wpAny (model X.prog X.w) X.A (isTrue e X.env (eval e X.env)) (TP X pins σ Q) X.xe s
def PW (X : Cx) (e : Expr) (t : TT) : Prop :=
  ∀ (whole : Sem Value) (pins : List (Addr × Obj)) (s : Shared) (σ : St) (H : Hp) (Q : Bool → Hp → Prop), Inv X pins σ H s → t σ H Q → wpAny (model X.prog X.w) X.A (isTrue e X.env whole) (TP X pins σ Q) X.xe s
theorem PW.pt {X : Cx} {e : Expr} {t : TT} (h : PW X e t) : PT X e t := h _
def PA (X : Cx) (es : List Expr) (t : TA) : Prop :=
  ∀ (pos : Pos) (pins : List (Addr × Obj)) (s : Shared) (σ : St) (H : Hp) (Q : List V → Hp → Prop), Inv X pins σ H s → t σ H Q → wpAny (model X.prog X.w) X.A (spliced (backTo pos (starEach es X.env))) (AP X pins σ Q) X.xe s
def PS (X : Cx) (st : Stmt) (t : TS) : Prop :=
  ∀ (pins : List (Addr × Obj)) (s : Shared) (σ : St) (H : Hp) (D : Ends), Inv X pins σ H s → t D σ H → wpAny (model X.prog X.w) X.A (exec st X.env) (SP X pins D) X.xe s
def PSs (X : Cx) (st : List Stmt) (t : TS) : Prop :=
  ∀ (pins : List (Addr × Obj)) (s : Shared) (σ : St) (H : Hp) (D : Ends), Inv X pins σ H s → t D σ H → wpAny (model X.prog X.w) X.A (execs st X.env) (SP X pins D) X.xe s
theorem thn {α : Type} {t : Sem α} {Q Q' : α → Shared → Prop} {M : Model} {A : Around} {E : Value → Shared → Prop} {s : Shared} (h : wpAny M A t Q E s) (hQ : ∀ a s, Q a s → Q' a s) : wpAny M A t Q' E s := wpAny_mono h hQ fun _ _ x => x
end L2
namespace L2
open PySem PySem.Spec PyProof.Rows
section
variable {X : Cx}
def tVar (i : Nat) : TE := fun σ H Q => ∃ v, σ[i]? = some (some v) ∧ Q v H
def tC (v : V) : TE := fun _ H Q => Q v H
theorem pe_var {i : Nat} {x : Str} {pos : Pos} (hN : X.N[i]? = some x) (hv : Vis X.env.scope x) (hd : (x == ("__debug__" : Str)) = false := by decide) (hcd : (x == ("__classdict__" : Str)) = false := by decide) : PE X (.Name x pos) (tVar i) := by
  intro pins s σ H Q I h
  obtain ⟨v, e, h⟩ := h
  obtain ⟨m, hn, hl⟩ := I.loc
  obtain ⟨u, r, l⟩ := hl i x v hN e hv
  have fin : EP X pins σ Q u s := ⟨v, H, I, r, h⟩
  rcases l with ⟨hk, hm⟩ | ⟨hk, c, hc, hcell⟩
  · exact wpAny_Name (wpAny_loadName_local I.ok.kind hk hn hm fin) hd
  · rcases hk with hk | hk
    · exact wpAny_Name (wpAny_loadName_cell I.ok.kind hk hc hcell fin) hd
    · exact wpAny_Name (wpAny_loadName_free I.ok.kind hk hc hcell fin hcd) hd
theorem pe_int {i j pos} : PE X (.Constant (.int i) j pos) (tC (.int i)) := fun _ _ _ H _ I h => wpAny_Constant_int ⟨.int i, H, I.tok _, ⟨_, rfl⟩, h⟩
theorem pe_bl {b j pos} : PE X (.Constant (.bool b) j pos) (tC (.bl b)) := fun _ _ _ H _ I h => Constant_bool ⟨.bl b, H, I, rfl, h⟩
theorem pe_non {j pos} : PE X (.Constant .none j pos) (tC .non) := fun _ _ _ H _ I h => Constant_none ⟨.non, H, I, rfl, h⟩
theorem pe_str {x j pos} : PE X (.Constant (.str x) j pos) (tC (.str x)) := fun _ _ _ H _ I h => Calls.Constant_str ⟨.str x, H, I.tok _, ⟨_, rfl⟩, h⟩
def Gl (X : Cx) (x : Str) : Prop := X.env.kindOf x = some .globalImplicit
theorem ld_glob {E : Value → Shared → Prop} {pins : List (Addr × Obj)} {s : Shared} {σ : St} {H : Hp} {x : Str} {u : Value} {pos : Pos} {Q : Value → Shared → Prop} (I : Inv X pins σ H s) (hg : Gl X x) (hm : X.mg x = some u) (h : Q u s)
    (hd : (x == ("__debug__" : Str)) = false := by decide) : wpAny (model X.prog X.w) X.A (eval (.Name x pos) X.env) Q E s :=
  Calls.Name_function_global I.ok.kind hg (Calls.loadGlobal_global (by rw [I.ok.glob]; exact I.mod.glob.keeps I.bk) hm h) hd
theorem ld_blt {E : Value → Shared → Prop} {pins : List (Addr × Obj)} {s : Shared} {σ : St} {H : Hp} {x : Str} {u : Value} {pos : Pos} {Q : Value → Shared → Prop} (I : Inv X pins σ H s) (hg : Gl X x) (hm : X.mg x = none) (hv : bootBuiltins x = some u) (h : Q u s)
    (hn : x ≠ "__name__" := by decide) (hd : (x == ("__debug__" : Str)) = false := by decide) : wpAny (model X.prog X.w) X.A (eval (.Name x pos) X.env) Q E s := by
  obtain ⟨mb, h1, h2⟩ := I.mod.blt
  exact Calls.Name_function_global I.ok.kind hg (Calls.loadGlobal_builtin (by rw [I.ok.glob]; exact I.mod.glob.keeps I.bk) hm (by rw [I.ok.blt]; exact h1.keeps I.bk) ((h2 x hn).trans hv) h) hd
theorem pe_glob {x : Str} {v : V} {u : Value} {pos : Pos} (hg : Gl X x) (hm : X.mg x = some u) (r : RelV v u) (hd : (x == ("__debug__" : Str)) = false := by decide) : PE X (.Name x pos) (tC v) :=
  fun _ _ _ H _ I h => ld_glob I hg hm ⟨v, H, I, r, h⟩ hd
theorem pe_bltn {x : Str} {v : V} {u : Value} {pos : Pos} (hg : Gl X x) (hm : X.mg x = none) (hv : bootBuiltins x = some u) (r : RelV v u) (hn : x ≠ "__name__" := by decide) (hd : (x == ("__debug__" : Str)) = false := by decide) : PE X (.Name x pos) (tC v) :=
  fun _ _ _ H _ I h => ld_blt I hg hm hv ⟨v, H, I, r, h⟩ hn hd
variable {a b : Expr} {ta tb : TE} {pos : Pos}
def tB (t : TE) : TT := fun σ H Q => t σ H fun x H1 => ∃ c, x = .bl c ∧ Q c H1
theorem pt_val {e : Expr} {t : TE} (h : PE X e t) (he : ∀ whole, isTrue e X.env whole = (do let v ← whole; standAt e.pos; holding [v] (truthy v)) := by intro _; rfl) : PT X e (tB t) := by
  intro pins s σ H Q I hw
  refine isTrue_plain (thn (h pins s σ H _ I hw) fun v s1 ⟨x, H1, I1, r1, q1⟩ => ?_) (he _)
  obtain ⟨d, rfl, q⟩ := q1
  cases r1
  exact wpAny_truthy_bool ⟨H1, I1, q⟩
variable {tA tB' : TT} {rest : List Expr}
def tAnd (t u : TT) : TT := fun σ H Q => t σ H fun c H1 => if c = true then u σ H1 Q else Q false H1
def tOr (t u : TT) : TT := fun σ H Q => t σ H fun c H1 => if c = true then Q true H1 else u σ H1 Q
def tNot (t : TT) : TT := fun σ H Q => t σ H fun c H1 => Q (!c) H1
theorem pw_and1 (ha : PT X a tA) : PW X (.BoolOp .And [a] pos) tA := by
  intro wh pins s σ H Q I h
  refine isTrue_and (thn (ha pins s σ H Q I h) fun c s1 e => ?_)
  cases c with
  | true => exact isTrue_and_nil e
  | false => exact e
theorem pw_or1 (ha : PT X a tA) : PW X (.BoolOp .Or [a] pos) tA := by
  intro wh pins s σ H Q I h
  refine isTrue_or (thn (ha pins s σ H Q I h) fun c s1 e => ?_)
  cases c with
  | false => exact isTrue_or_nil e
  | true => exact e
theorem pw_and (ha : PT X a tA) (hb : PW X (.BoolOp .And (b :: rest) pos) tB') : PW X (.BoolOp .And (a :: b :: rest) pos) (tAnd tA tB') := by
  intro wh pins s σ H Q I h
  refine isTrue_and (thn (ha pins s σ H _ I h) fun c s1 ⟨H1, I1, q1⟩ => ?_)
  cases c with
  | true => exact hb wh pins s1 σ H1 Q I1 q1
  | false => exact ⟨H1, I1, q1⟩
theorem pw_or (ha : PT X a tA) (hb : PW X (.BoolOp .Or (b :: rest) pos) tB') : PW X (.BoolOp .Or (a :: b :: rest) pos) (tOr tA tB') := by
  intro wh pins s σ H Q I h
  refine isTrue_or (thn (ha pins s σ H _ I h) fun c s1 ⟨H1, I1, q1⟩ => ?_)
  cases c with
  | true => exact ⟨H1, I1, q1⟩
  | false => exact hb wh pins s1 σ H1 Q I1 q1
theorem pt_not (ha : PT X a tA) : PT X (.UnaryOp .Not a pos) (tNot tA) := by
  intro pins s σ H Q I h
  exact isTrue_not (ha pins s σ H (fun c H1 => Q (!c) H1) I h)
def tAndV (ta tb : TE) : TE := fun σ H Q => ta σ H fun x H1 => ∃ c, x = .bl c ∧ if c = true then tb σ H1 Q else Q (.bl false) H1
def tNotV (ta : TE) : TE := fun σ H Q => ta σ H fun x H1 => ∃ c, x = .bl c ∧ Q (.bl (!c)) H1
theorem pe_one {op} {t : TE} (h : PE X a t) : PE X (.BoolOp op [a] pos) t := fun pins s σ H Q I hw => BoolOp_one (h pins s σ H Q I hw)
theorem pe_and (ha : PE X a ta) (hb : PE X (.BoolOp .And (b :: rest) pos) tb) : PE X (.BoolOp .And (a :: b :: rest) pos) (tAndV ta tb) := by
  intro pins s σ H Q I h
  refine BoolOp_and (thn (ha pins s σ H _ I h) fun v s1 ⟨x, H1, I1, r1, q1⟩ => ?_)
  obtain ⟨c, rfl, q1⟩ := q1
  cases r1
  refine wpAny_truthy_bool ?_
  cases c with
  | true => exact hb pins s1 σ H1 Q I1 q1
  | false => exact ⟨.bl false, H1, I1, rfl, q1⟩
theorem pe_not (ha : PE X a ta) : PE X (.UnaryOp .Not a pos) (tNotV ta) := by
  intro pins s σ H Q I h
  refine UnaryOp_ (thn (ha pins s σ H _ I h) fun v s1 ⟨x, H1, I1, r1, q1⟩ => ?_)
  obtain ⟨c, rfl, q1⟩ := q1
  cases r1
  exact not_of (wpAny_truthy_bool ⟨.bl (!c), H1, I1, rfl, q1⟩)
def tIf (t : TT) (ta tb : TE) : TE := fun σ H Q => t σ H fun c H1 => if c = true then ta σ H1 Q else tb σ H1 Q
theorem pe_ifExp {c : Expr} (hc : PT X c tA) (ha : PE X a ta) (hb : PE X b tb) : PE X (.IfExp c a b pos) (tIf tA ta tb) := by
  intro pins s σ H Q I h
  refine wpAny_IfExp (thn (hc pins s σ H _ I h) fun d s1 ⟨H1, I1, q1⟩ => ?_)
  cases d with
  | true => exact ha pins s1 σ H1 Q I1 q1
  | false => exact hb pins s1 σ H1 Q I1 q1
end
end L2
namespace L2
open PySem PySem.Spec PyProof.Rows
def SqL (K : PySem.W.Frag) (H : Hp) (a : Addr) (xs : List V) : Prop :=
  Rd H a (.lst xs) ∨
    ∃ (o : Obj) (its : Array Value) (n : Nat), K.lookup a = some o ∧ o.cls = .type "list" ∧ o.dict = none ∧ o.data = .seq its n ∧ its.size ≤ sizeLine ∧ Vals xs its.toList
def SqT (K : PySem.W.Frag) (H : Hp) (a : Addr) (xs : List V) : Prop :=
  Rd H a (.tup xs) ∨
    ∃ (o : Obj) (its : Array Value) (n : Nat), K.lookup a = some o ∧ o.cls = .type "tuple" ∧ o.data = .seq its n ∧ its.size ≤ sizeLine ∧ Vals xs its.toList
def absV : Value → Option V
  | .none => some .non
  | .bool b => some (.bl b)
  | .int i _ => some (.int i)
  | .str x _ => some (.str x)
  | .bytes b _ => some (.byt b)
  | .float b _ => some (.flt b)
  | .ref a => some (.ref a)
  | .type n => some (.ty n)
  | _ => none
theorem RelV.abs {x : V} {u : Value} (r : RelV x u) : absV u = some x := by
  cases x with
  | non => cases r; rfl
  | bl _ => cases r; rfl
  | int _ => obtain ⟨t, rfl⟩ := r; rfl
  | str _ => obtain ⟨t, rfl⟩ := r; rfl
  | byt _ => obtain ⟨t, rfl⟩ := r; rfl
  | flt _ => obtain ⟨t, rfl⟩ := r; rfl
  | ref _ => cases r; rfl
  | ty _ => cases r; rfl
theorem RelV.inj {x y : V} {u : Value} (r : RelV x u) (q : RelV y u) : x = y := Option.some.inj (r.abs.symm.trans q.abs)
theorem Vals.inj : ∀ {xs ys : List V} {us : List Value}, Vals xs us → Vals ys us → xs = ys
  | _, _, _, .nil, .nil => rfl
  | _, _, _, .cons r t, .cons r' t' => by rw [r.inj r', Vals.inj t t']
section
variable {X : Cx} {pins : List (Addr × Obj)} {σ : St} {H : Hp} {s : Shared} {a : Addr} {xs ys : List V}
theorem SqL.of {K : PySem.W.Frag} (h : H a = some (.lst xs)) : SqL K H a xs := .inl (.inl h)
theorem SqT.of {K : PySem.W.Frag} (h : H a = some (.tup xs)) : SqT K H a xs := .inl (.inl h)
theorem Inv.list (I : Inv X pins σ H s) (h : SqL X.K H a xs) : ∃ its : List Value, Vals xs its ∧ PlainL s.heap a its.toArray ∧ xs.length ≤ sizeLine := by
  rcases h with h | ⟨o, its, n, hk, hc, hd, hs, hz, r⟩
  · obtain ⟨z, its, n, r, e⟩ := h.ok I.hok
    exact ⟨its, r, ⟨_, n, e, rfl, rfl, rfl⟩, z⟩
  · refine ⟨its.toList, r, ⟨o, n, I.kIn a o hk, hc, hd, by simpa using hs⟩, ?_⟩
    have e := r.length
    simp only [Array.length_toList] at e
    omega
theorem Inv.tuple (I : Inv X pins σ H s) (h : SqT X.K H a xs) : ∃ its : List Value, Vals xs its ∧ IsTup s.heap a its.toArray ∧ xs.length ≤ sizeLine := by
  rcases h with h | ⟨o, its, n, hk, hc, hs, hz, r⟩
  · obtain ⟨z, its, r, p⟩ := h.ok I.hok
    exact ⟨its, r, p, z⟩
  · refine ⟨its.toList, r, ⟨o, I.kIn a o hk, hc, n, by simpa using hs⟩, ?_⟩
    have e := r.length
    simp only [Array.length_toList] at e
    omega
theorem Inv.list_inj (I : Inv X pins σ H s) (h : SqL X.K H a xs) (h' : SqL X.K H a ys) : xs = ys := by
  obtain ⟨its, r, ⟨o, n, e, _, _, d⟩, _⟩ := I.list h
  obtain ⟨its', r', ⟨o', n', e', _, _, d'⟩, _⟩ := I.list h'
  rw [e] at e'; cases e'
  rw [d] at d'
  injection d' with d1 _
  have : its = its' := by simpa using congrArg Array.toList d1
  subst this
  exact r.inj r'
end
abbrev Cx.wish (X : Cx) (E : Value → Shared → Prop) : Cx := { X with xe := E }
abbrev Cx.nox (X : Cx) : Cx := X.wish fun _ _ => False
theorem Cx.Ok.wish {X : Cx} (ok : X.Ok) (E : Value → Shared → Prop) : (X.wish E).Ok :=
  ⟨ok.mod, ok.kind, ok.glob, ok.blt, ok.above, ok.inj, ok.has, ok.cab, ok.hd, ok.frames, ok.stk, ok.exf, ok.bs, ok.bsz, ok.noex, ok.exfs, ok.funs, ok.frf⟩
theorem Cx.Ok.unwish {X : Cx} {E : Value → Shared → Prop} (ok : (X.wish E).Ok) : X.Ok :=
  ⟨ok.mod, ok.kind, ok.glob, ok.blt, ok.above, ok.inj, ok.has, ok.cab, ok.hd, ok.frames, ok.stk, ok.exf, ok.bs, ok.bsz, ok.noex, ok.exfs, ok.funs, ok.frf⟩
section
variable {X : Cx} {pins : List (Addr × Obj)} {σ : St} {H : Hp} {s : Shared} {E : Value → Shared → Prop}
theorem Inv.wish (I : Inv X pins σ H s) (E : Value → Shared → Prop) : Inv (X.wish E) pins σ H s := ⟨I.ok.wish E, I.os, I.bare, I.base, I.loc, I.cell, I.free, I.freeC, I.pin, I.hok, I.len⟩
theorem Inv.unwish (I : Inv (X.wish E) pins σ H s) : Inv X pins σ H s := ⟨I.ok.unwish, I.os, I.bare, I.base, I.loc, I.cell, I.free, I.freeC, I.pin, I.hok, I.len⟩
theorem SP.unwish {D : Ends} {f : Flow} {s' : Shared} (h : SP (X.wish E) pins D f s') : SP X pins D f s' := by
  cases f with
  | next => obtain ⟨σ', H', I, q⟩ := h; exact ⟨σ', H', I.unwish, q⟩
  | brk => obtain ⟨σ', H', I, q⟩ := h; exact ⟨σ', H', I.unwish, q⟩
  | cont => obtain ⟨σ', H', I, q⟩ := h; exact ⟨σ', H', I.unwish, q⟩
  | ret u => obtain ⟨v, σ', H', I, r, q⟩ := h; exact ⟨v, σ', H', I.unwish, r, q⟩
theorem PE.nox {e : Expr} {t : TE} (h : PE X.nox e t) : PE X e t := fun pins s σ H Q I hw =>
  wpAny_mono (h pins s σ H Q (I.wish _) hw) (fun _ _ ⟨v, H', I', r, q⟩ => ⟨v, H', I'.unwish, r, q⟩) fun _ _ z => False.elim z
theorem PT.nox {e : Expr} {t : TT} (h : PT X.nox e t) : PT X e t := fun pins s σ H Q I hw =>
  wpAny_mono (h pins s σ H Q (I.wish _) hw) (fun _ _ ⟨H', I', q⟩ => ⟨H', I'.unwish, q⟩) fun _ _ z => False.elim z
theorem PSs.nox {st : List Stmt} {t : TS} (h : PSs X.nox st t) : PSs X st t := fun pins s σ H D I hw =>
  wpAny_mono (h pins s σ H D (I.wish _) hw) (fun _ _ q => q.unwish) fun _ _ z => False.elim z
end
section
variable {X : Cx} {st : Stmt} {rest : List Stmt} {t u : TS} {e : Expr} {te : TE} {pos : Pos}
def tNext : TS := fun D σ H => D.nx σ H
def tSeq (t u : TS) : TS := fun D σ H => t { D with nx := u D } σ H
theorem pss_nil : PSs X [] tNext := fun _ _ σ H _ I h => wpAny_execs_nil ⟨σ, H, I, h⟩
theorem pss_cons (h1 : PS X st t) (h2 : PSs X rest u) : PSs X (st :: rest) (tSeq t u) := by
  intro pins s σ H D I h
  refine wpAny_execs_cons (thn (h1 pins s σ H { D with nx := u D } I h) fun f s1 q => ?_)
  cases f with
  | next =>
    obtain ⟨σ', H', I', q⟩ := q
    exact h2 pins s1 σ' H' D I' q
  | ret v => exact q
  | brk => exact q
  | cont => exact q
theorem pss_one (h1 : PS X st t) : PSs X [st] t := by
  intro pins s σ H D I h
  refine wpAny_execs_cons (thn (h1 pins s σ H D I h) fun f s1 q => ?_)
  cases f with
  | next => exact wpAny_execs_nil q
  | ret v => exact q
  | brk => exact q
  | cont => exact q
theorem Inv.quiet {pins : List (Addr × Obj)} {σ : St} {H : Hp} {s : Shared} (I : Inv X pins σ H s) : interactive X.env = false := by simp [interactive, I.ok.kind]
def tDrop (te : TE) : TS := fun D σ H => te σ H fun _ H1 => D.nx σ H1
theorem ps_expr (he : PE X e te) (hs : swapsWith e none pos.line X.env = pure false := by rfl) : PS X (.Expr e pos) (tDrop te) := by
  intro pins s σ H D I h
  exact wpAny_Expr_any (thn (he pins s σ H _ I h) fun v s1 ⟨x, H1, I1, r1, q1⟩ => ⟨σ, H1, I1, q1⟩) I.quiet hs
def tRet (te : TE) : TS := fun D σ H => te σ H D.rt
theorem ps_ret (he : PE X e te) : PS X (.Return (some e) pos) (tRet te) := by
  intro pins s σ H D I h
  exact wpAny_Return_some (thn (he pins s σ H _ I h) fun v s1 ⟨x, H1, I1, r1, q1⟩ => ⟨x, σ, H1, I1, r1, q1⟩)
def tIfS (c : TT) (t u : TS) : TS := fun D σ H => c σ H fun b H1 => if b = true then t D σ H1 else u D σ H1
theorem ps_if {c : Expr} {a b : List Stmt} {tc : TT} (hc : PT X c tc) (ha : PSs X a t) (hb : PSs X b u) : PS X (.If c a b pos) (tIfS tc t u) := by
  intro pins s σ H D I h
  refine wpAny_If (thn (hc pins s σ H _ I h) fun d s1 ⟨H1, I1, q1⟩ => ?_)
  cases d with
  | true => exact ha pins s1 σ H1 D I1 q1
  | false => exact hb pins s1 σ H1 D I1 q1
end
abbrev TG := V → St → Hp → (St → Hp → Prop) → Prop
def PG (X : Cx) (target : Expr) (t : TG) : Prop :=
  ∀ (pins : List (Addr × Obj)) (s : Shared) (σ : St) (H : Hp) (v : V) (u : Value) (Q : St → Hp → Prop), Inv X pins σ H s → RelV v u → t v σ H Q →
    wpAny (model X.prog X.w) X.A (assign target X.env u) (fun _ s' => ∃ σ' H', Inv X pins σ' H' s' ∧ Q σ' H') X.xe s
section
variable {X : Cx} {pos : Pos}
def gName (i : Nat) : TG := fun v σ H Q => Q (σ.set i (some v)) H
theorem pg_name {i : Nat} {x : Str} (hN : X.N.Nodup) (hi : X.N[i]? = some x) (hx : Loc X.env.scope x) (hf : X.fn x = true ∨ X.env.scope.names.lookup x = some .local := by first | exact .inl rfl | exact .inr rfl | assumption) : PG X (.Name x pos) (gName i) := by
  intro pins s σ H v u Q I r h
  exact wpAny_assign_Name (store_ok I hN hi hx r (fun s' I' => ⟨_, H, I', h⟩) hf)
def tAsg (te : TE) (g : TG) : TS := fun D σ H => te σ H fun x H1 => g x σ H1 D.nx
theorem ps_set {i : Nat} {x : Str} {e : Expr} {te : TE} {pos' : Pos} (hN : X.N.Nodup) (hi : X.N[i]? = some x) (hx : Loc X.env.scope x) (he : PE X e te) (hs : swapsWith e (some (.Name x pos')) pos.line X.env = pure false := by rfl) (hf : X.fn x = true ∨ X.env.scope.names.lookup x = some .local := by first | exact .inl rfl | exact .inr rfl | assumption) :
    PS X (.Assign [.Name x pos'] e pos) (tAsg te (gName i)) := by
  intro pins s σ H D I h
  refine wpAny_Assign_Name (thn (he pins s σ H _ I h) fun v s1 ⟨y, H1, I1, r1, q1⟩ => ?_) hs
  exact store_ok I1 hN hi hx r1 (fun s2 I2 => ⟨_, H1, I2, q1⟩) hf
end
section
variable {X : Cx} {pos : Pos}
end
structure It where
  go : Nat → Hp → Prop
  yld : Nat → Hp → V → Hp → Prop
  stop : Nat → Hp → Prop
def FpOk (X : Cx) (pins : List (Addr × Obj)) (H : Hp) (b : Addr) : Prop :=
  H b = none ∧ b ≠ X.env.locals ∧ b ∉ X.fs ∧ (b ∈ X.ex ∨ X.s₀.heap.objs.size ≤ b) ∧ (∀ x c, X.env.cells.lookup x = some c → c ≠ b) ∧ ∀ p ∈ X.pn ++ pins, p.1 ≠ b
theorem Inv.fpOk {X : Cx} {pins : List (Addr × Obj)} {σ : St} {H H' : Hp} {s : Shared} {b : Addr} (I : Inv X pins σ H s) (hb : s.heap.objs.size ≤ b) (hn : H' b = none) : FpOk X pins H' b := by
  refine ⟨hn, Nat.ne_of_gt (Nat.lt_of_lt_of_le I.lt hb), I.nofs hb, .inr (Nat.le_trans I.sz hb), fun x c e z => ?_, fun p hp z => ?_⟩
  · obtain ⟨v, q⟩ := I.cell x c e
    exact absurd (Nat.lt_of_lt_of_le q.lt (by rw [z]; exact hb)) (Nat.lt_irrefl _)
  · exact absurd (Nat.lt_of_lt_of_le (Heap.lt_size (I.pin p hp).1) (by rw [z]; exact hb)) (Nat.lt_irrefl _)
structure Turn (P : Program) (w : World) (K : PySem.W.Frag) (tg : Expr) (J : It) (fp : List Addr) (it : Addr) (tn : Nat → Heap → Prop) : Prop where
  mem : it ∈ fp
  obj : ∀ i h, tn i h → ∀ b ∈ fp, ∃ o, h.get? b = some o ∧ ∀ v, o.data ≠ .cell v
  keep : ∀ i h h', tn i h → (∀ b ∈ fp, ∀ o, h.get? b = some o → h'.get? b = some o) → tn i h'
  item : ∀ (X : Cx), X.prog = P → X.w = w → X.K = K → X.calm = true → ∀ (i : Nat) (pins : List (Addr × Obj)) (s : Shared) (σ : St) (H : Hp) (E : Value → Shared → Prop), Inv X pins σ H s → (∀ b ∈ fp, FpOk X pins H b) → tn i s.heap → J.go i H →
    wpAny (model P w) X.A (pyNext (.ref it)) (fun r s1 => ∃ u, r = some u ∧
      wpAny (model P w) X.A (letOwnedTupleGo tg (.ref it) u) (fun _ s2 => ∃ x H', Inv X pins σ H' s2 ∧ RelV x u ∧ J.yld i H x H' ∧ tn (i + 1) s2.heap ∧ ∀ b ∈ fp, H' b = none) E s1) E s
  done : ∀ (X : Cx), X.prog = P → X.w = w → X.K = K → X.calm = true → ∀ (i : Nat) (pins : List (Addr × Obj)) (s : Shared) (σ : St) (H : Hp) (E : Value → Shared → Prop), Inv X pins σ H s → (∀ b ∈ fp, FpOk X pins H b) → tn i s.heap → J.stop i H →
    wpAny (model P w) X.A (pyNext (.ref it)) (fun r s1 => r = none ∧ Inv X pins σ H s1) E s
  self : ∀ (A : Around) (i : Nat) (s : Shared) (Q : Value → Shared → Prop) (E : Value → Shared → Prop), tn i s.heap → Q (.ref it) s → wpAny (model P w) A (pyIter (.ref it)) Q E s
abbrev TI := St → Hp → (It → Hp → Prop) → Prop
def PIE (X : Cx) (pins : List (Addr × Obj)) (σ : St) (tg : Expr) (R : It → Hp → Prop) (itv : Value) (s2 : Shared) : Prop :=
  ∃ (it : Addr) (fp : List Addr) (tn : Nat → Heap → Prop) (J : It) (H' : Hp), itv = .ref it ∧ Inv X pins σ H' s2 ∧ Turn X.prog X.w X.K tg J fp it tn ∧ tn 0 s2.heap ∧ (∀ b ∈ fp, FpOk X pins H' b) ∧ R J H'
def PI (X : Cx) (tg iter : Expr) (wi : TI) : Prop :=
  ∀ (pins : List (Addr × Obj)) (s : Shared) (σ : St) (H : Hp) (R : It → Hp → Prop), Inv X pins σ H s → wi σ H R →
    wpAny (model X.prog X.w) X.A (eval iter X.env) (fun v s1 => wpAny (model X.prog X.w) X.A (pyIter v) (PIE X pins σ tg R) X.xe s1) X.xe s
theorem go_of {M : Model} {A : Around} {E : Value → Shared → Prop} {s : Shared} {tg : Expr} {it : Addr} {u : Value} {o : Obj} {n : String} {vs : Array Value} {Q : Unit → Shared → Prop} (ho : s.heap.get? it = some o) (hc : o.cls = .type n) (hd : o.data = .fields vs)
    (hn : ["enumerate", "zip", "dict_itemiterator", "dict_reverseitemiterator", "odict_iterator", "itertools.zip_longest", "itertools.pairwise"].contains n = false) (hQ : Q () s) : wpAny M A (letOwnedTupleGo tg (.ref it) u) Q E s := by
  unfold letOwnedTupleGo
  cases tg <;> first
    | exact wpAny_pure hQ
    | (cases u <;> first
        | exact wpAny_pure hQ
        | (refine wpAny_bind (wpAny_load ho ?_)
           rw [hc, hd]
           show wpAny M A (if (["enumerate", "zip", "dict_itemiterator", "dict_reverseitemiterator", "odict_iterator", "itertools.zip_longest", "itertools.pairwise"].contains n && vs[0]? == some (rawInt _)) = true then _ else _) Q E s
           rw [if_neg (by intro h; rw [hn, Bool.false_and] at h; cases h)]
           exact wpAny_pure hQ))
def Itl (K : PySem.W.Frag) (a : Addr) : It :=
  ⟨fun i H => ∃ xs x, SqL K H a xs ∧ xs[i]? = some x, fun i H x H' => H' = H ∧ ∀ xs, SqL K H a xs → xs[i]? = some x, fun i H => ∃ xs, SqL K H a xs ∧ xs.length ≤ i⟩
def Itr (lo : Int) (n : Nat) : It := ⟨fun i _ => i < n, fun i H x H' => H' = H ∧ x = .int (lo + i), fun i _ => n ≤ i⟩
theorem turn_list {P : Program} {w : World} {K : PySem.W.Frag} {tg : Expr} (a it : Addr) : Turn P w K tg (Itl K a) [it] it (fun i h => h.IsListIter it a i) where
  mem := by simp
  obj := fun i h st b hb => by
    have e : b = it := by simpa using hb
    subst e
    obtain ⟨o, e, c, d⟩ := st
    exact ⟨o, e, fun v z => by rw [d] at z; cases z⟩
  keep := fun i h h' st k => st.at fun o e => k it (by simp) o e
  item := by
    intro X hP hw hK hc i pins s σ H E I hf st hg
    subst hP hw hK
    obtain ⟨xs, x, hq, hx⟩ := hg
    obtain ⟨its, rv, p, hz⟩ := I.list hq
    obtain ⟨u, hu, ru⟩ := rv.get hx
    obtain ⟨f0, f1, f2, f3, f4, f5⟩ := hf it (by simp)
    refine wpAny_pyNext_list_item st p.isList (x := u) (by simpa using hu) fun h' st' sb => ?_
    have I1 : Inv X pins σ H { s with heap := h' } := I.turned (t' := s.toks) (fun b o hb e => (sb.2 b hb).trans e) f0 f1 f3 f4 f5
    obtain ⟨o, e, c, d⟩ := id st'
    exact ⟨u, rfl, go_of (s := { s with heap := h' }) e c d (by decide) ⟨x, H, I1, ru, ⟨rfl, fun ys hy => by rw [I.list_inj hy hq]; exact hx⟩, st', fun b hb => (hf b hb).1⟩⟩
  done := by
    intro X hP hw hK hc i pins s σ H E I hf st hg
    subst hP hw hK
    obtain ⟨xs, hq, hx⟩ := hg
    obtain ⟨its, rv, p, hz⟩ := I.list hq
    obtain ⟨f0, f1, f2, f3, f4, f5⟩ := hf it (by simp)
    have hl := rv.length
    exact wpAny_pyNext_list_end (I.ok.hd hc) st p.isList (by simp; omega) fun h' eb => ⟨rfl, I.turned (t' := s.toks) (fun b o hb e => eb b o hb e) f0 f1 f3 f4 f5⟩
  self := fun _ _ _ _ _ st h => wpAny_pyIter_listiter st h
theorem turn_range {P : Program} {w : World} {K : PySem.W.Frag} {tg : Expr} (it : Addr) (lo : Int) (n : Nat) : Turn P w K tg (Itr lo n) [it] it (fun i h => IsRangeIter h it (lo + (i : Nat) * 1) ((n : Int) - (i : Nat)) 1) where
  mem := by simp
  obj := fun i h st b hb => by
    have e : b = it := by simpa using hb
    subst e
    exact ⟨_, st, fun v z => by
      have z' : Data.fields _ = Data.cell v := z
      cases z'⟩
  keep := fun i h h' st k => k it (by simp) _ st
  item := by
    intro X hP hw hK hc i pins s σ H E I hf st hg
    subst hP hw hK
    obtain ⟨f0, f1, f2, f3, f4, f5⟩ := hf it (by simp)
    have W := Walks.range (prog := X.prog) (w := X.w) (I.ok.hd hc) it lo 1 n
    refine W.item i s _ _ hg st fun v h' tk hv st' kk => ?_
    obtain ⟨t, rfl⟩ := hv
    have I1 : Inv X pins σ H { s with heap := h', toks := tk } := I.turned (fun b o hb e => kk b o (by simpa using hb) e) f0 f1 f3 f4 f5
    refine ⟨_, rfl, go_of (s := { s with heap := h', toks := tk }) (n := "range_iterator") st' rfl rfl (by decide) ⟨.int (lo + i), H, I1, ⟨t, ?_⟩, ⟨rfl, rfl⟩, st', fun b hb => (hf b hb).1⟩⟩
    rw [Int.mul_one]
  done := by
    intro X hP hw hK hc i pins s σ H E I hf st hg
    subst hP hw hK
    obtain ⟨f0, f1, f2, f3, f4, f5⟩ := hf it (by simp)
    exact wpAny_pyNext_range_end (I.ok.hd hc) st (by have : n ≤ i := hg; omega) fun h' eb => ⟨rfl, I.turned (t' := s.toks) (fun b o hb e => eb b o hb e) f0 f1 f3 f4 f5⟩
  self := fun _ _ _ _ _ st h => wpAny_pyIter_rangeiter st h
end L2
namespace L2
open PySem PySem.Spec PyProof.Rows
section
variable {X : Cx} {tg : Expr}
def iList (K : PySem.W.Frag) (tl : TE) : TI := fun σ H R => tl σ H fun x H1 => ∃ a, x = .ref a ∧ (∃ xs, SqL K H1 a xs) ∧ R (Itl K a) H1
theorem pi_list {l : Expr} {tl : TE} (hl : PE X l tl) : PI X tg l (iList X.K tl) := by
  intro pins s σ H R I h
  refine thn (hl pins s σ H _ I h) fun v s1 ⟨x, H1, I1, r1, q1⟩ => ?_
  obtain ⟨a, e, ⟨xs, hq⟩, q⟩ := q1
  subst e
  cases r1
  obtain ⟨its, rv, p, hz⟩ := I1.list hq
  refine wpAny_pyIter_list p.isList ?_
  refine ⟨s1.heap.objs.size, [s1.heap.objs.size], _, _, H1, rfl, I1.kept (t' := s1.toks) fun b o e => Heap.get?_push_of_some _ e, turn_list a _, ⟨_, Heap.get?_push_size _ rfl, rfl, rfl⟩, fun b hb => ?_, q⟩
  have e : b = s1.heap.objs.size := by simpa using hb
  subst e
  exact I1.fpOk (Nat.le_refl _) (I1.hok.fresh (Nat.le_refl _))
theorem range_it {pins : List (Addr × Obj)} {σ : St} {H : Hp} {s : Shared} {R : It → Hp → Prop} {E : Value → Shared → Prop} {lo hi : Int} {t u v : Tok} {tk : Nat} (I : Inv X pins σ H s) (h1 : -(2 ^ 62) ≤ lo) (h2 : lo < 2 ^ 62) (h3 : -(2 ^ 62) ≤ hi) (h4 : hi < 2 ^ 62)
    (q : R (Itr lo (hi - lo).toNat) H) : wpAny (model X.prog X.w) X.A (pyIter (.ref s.heap.objs.size)) (PIE X pins σ tg R) E { s with heap := s.heap.push { cls := .type "range", data := .fields #[.int lo t, .int hi u, .int 1 v] }, toks := tk } := by
  refine wpAny_pyIter_range (IsRange.new ..) (small_one h1 h2 h3 h4) ?_
  have I1 : Inv X pins σ H { s with heap := s.heap.push { cls := .type "range", data := .fields #[.int lo t, .int hi u, .int 1 v] }, toks := tk } := I.kept fun b o e => Heap.get?_push_of_some _ e
  refine ⟨(s.heap.push { cls := .type "range", data := .fields #[.int lo t, .int hi u, .int 1 v] }).objs.size, [(s.heap.push { cls := .type "range", data := .fields #[.int lo t, .int hi u, .int 1 v] }).objs.size], _, _, H, rfl,
    I1.kept (t' := tk) fun b o e => Heap.get?_push_of_some _ e, turn_range _ lo (hi - lo).toNat, ?_, fun b hb => ?_, q⟩
  · have e1 : lo + ((0 : Nat) : Int) * 1 = lo := by simp
    have e2 : (((hi - lo).toNat : Nat) : Int) - ((0 : Nat) : Int) = Builtin.Range.rangeSize lo hi 1 := by rw [rangeSize_one]; split <;> omega
    show IsRangeIter _ _ (lo + ((0 : Nat) : Int) * 1) ((((hi - lo).toNat : Nat) : Int) - ((0 : Nat) : Int)) 1
    rw [e1, e2]
    exact Heap.get?_push_size _ rfl
  · have e : b = (s.heap.push { cls := .type "range", data := .fields #[.int lo t, .int hi u, .int 1 v] }).objs.size := by simpa using hb
    subst e
    exact I1.fpOk (Nat.le_refl _) (I1.hok.fresh (Nat.le_refl _))
def iRng1 (ta : TA) : TI := fun σ H R => ta σ H fun vs H1 => ∃ j : Int, vs = [.int j] ∧ -(2 ^ 62) ≤ j ∧ j < 2 ^ 62 ∧ R (Itr 0 j.toNat) H1
def iRng2 (ta : TA) : TI := fun σ H R => ta σ H fun vs H1 => ∃ i j : Int, vs = [.int i, .int j] ∧ (-(2 ^ 62) ≤ i ∧ i < 2 ^ 62 ∧ -(2 ^ 62) ≤ j ∧ j < 2 ^ 62) ∧ R (Itr i (j - i).toNat) H1
theorem pi_range1 {a : Expr} {ta : TA} {p pos : Pos} (hg : Gl X "range") (hm : X.mg "range" = none) (ha : PA X [a] ta) (hs : starEach [a] X.env = [(false, eval a X.env)] := by rfl) : PI X tg (.Call (.Name "range" p) [a] [] pos) (iRng1 ta) := by
  intro pins s σ H R I h
  refine Call_ (ld_blt I hg hm boot_range (PyProof.Rows.callWith_type1 (thn (ha pos pins s σ H _ I h) fun us s1 ⟨vs, H1, I1, r1, q1⟩ => ?_) hs rfl))
  obtain ⟨j, e, q1, q2, q⟩ := q1
  subst e
  cases r1 with
  | cons r rr =>
    cases rr
    obtain ⟨t, rfl⟩ := r
    exact call_range_1 (range_it I1 (by omega) (by omega) q1 q2 (by simpa using q))
theorem pi_range2 {a b : Expr} {ta : TA} {p pos : Pos} (hg : Gl X "range") (hm : X.mg "range" = none) (ha : PA X [a, b] ta) (hs : starEach [a, b] X.env = [(false, eval a X.env), (false, eval b X.env)] := by rfl) (hs2 : starEach [b] X.env = [(false, eval b X.env)] := by rfl) :
    PI X tg (.Call (.Name "range" p) [a, b] [] pos) (iRng2 ta) := by
  intro pins s σ H R I h
  refine Call_ (ld_blt I hg hm boot_range (PyProof.Rows.callWith_type1 (thn (ha pos pins s σ H _ I h) fun us s1 ⟨vs, H1, I1, r1, q1⟩ => ?_) (by rw [hs, hs2]) (by rw [hs2]; rfl)))
  obtain ⟨i, j, e, ⟨q1, q2, q3, q4⟩, q⟩ := q1
  subst e
  cases r1 with
  | cons r rr =>
    cases rr with
    | cons r' rr =>
      cases rr
      obtain ⟨t, rfl⟩ := r
      obtain ⟨t', rfl⟩ := r'
      exact call_range_2 (range_it I1 q1 q2 q3 q4 q)
def tFor (wi : TI) (g : TG) (tb : TS) : TS := fun D σ H => wi σ H fun J H1 => ∃ W : Nat → Nat → St → Hp → Prop, (∃ m, W 0 m σ H1) ∧ ∀ i m σ H, W i m σ H →
  (J.stop i H ∧ D.nx σ H) ∨ (J.go i H ∧ ∃ N : St → Hp → Prop, (∀ σ' H', N σ' H' → ∃ m', m' < m ∧ W (i + 1) m' σ' H') ∧ ∀ x H', J.yld i H x H' → g x σ H' fun σ2 H2 => tb { D with nx := N, ct := N, bk := D.nx } σ2 H2)
def pinsAt (fp : List Addr) (h : Heap) : List (Addr × Obj) := fp.filterMap fun b => (h.get? b).map fun o => (b, o)
theorem mem_pinsAt {fp : List Addr} {h : Heap} {b : Addr} {o : Obj} (hb : b ∈ fp) (e : h.get? b = some o) : (b, o) ∈ pinsAt fp h := List.mem_filterMap.mpr ⟨b, hb, by rw [e]; rfl⟩
theorem of_pinsAt {fp : List Addr} {h : Heap} {p : Addr × Obj} (hp : p ∈ pinsAt fp h) : p.1 ∈ fp ∧ h.get? p.1 = some p.2 := by
  obtain ⟨b, hb, e⟩ := List.mem_filterMap.mp hp
  cases q : h.get? b with
  | none => rw [q] at e; cases e
  | some o =>
    rw [q] at e
    have e' : (b, o) = p := Option.some.inj e
    subst e'
    exact ⟨hb, q⟩
theorem Inv.pinned {pins : List (Addr × Obj)} {σ : St} {H : Hp} {s : Shared} {fp : List Addr} (I : Inv X pins σ H s) (hf : ∀ b ∈ fp, FpOk X pins H b) (ho : ∀ b ∈ fp, ∃ o, s.heap.get? b = some o ∧ ∀ v, o.data ≠ .cell v) : Inv X (pins ++ pinsAt fp s.heap) σ H s :=
  I.pins_of fun p hp => (List.mem_append.mp hp).elim (fun z => I.pin p (List.mem_append_right _ z)) fun z => by
    obtain ⟨hb, e⟩ := of_pinsAt z
    obtain ⟨f0, f1, f2, _⟩ := hf p.1 hb
    obtain ⟨o, e', d⟩ := ho p.1 hb
    rw [e] at e'; cases e'
    exact ⟨e, f0, f1, f2, d⟩
theorem Inv.unpinned {pins pl : List (Addr × Obj)} {σ : St} {H : Hp} {s : Shared} (I : Inv X (pins ++ pl) σ H s) : Inv X pins σ H s := I.pins_of fun p hp => I.pin p (List.mem_append_right _ (List.mem_append_left _ hp))
theorem ps_for {iter : Expr} {body : List Stmt} {wi : TI} {g : TG} {tb : TS} {pos : Pos} (hp : PassesOwn (model X.prog X.w) X.A X.env X.xe) (hc : X.calm = true) (hi : PI X tg iter wi) (hg : PG X tg g) (hb : PSs X body tb)
    (hs : ∀ x, foldedSetIterable iter X.env x = pure x := by intro _; rfl) : PS X (.For tg iter body [] pos) (tFor wi g tb) := by
  intro pins s σ H D I h
  refine wpAny_For (thn (hi pins s σ H _ I h) fun v s1 h1 => thn h1 fun itv s2 h2 => ?_) hs
  obtain ⟨it, fp, tn, J, H2, e, I2, T, st2, f2, W, ⟨m0, w0⟩, turn⟩ := h2
  subst e
  have stat : ∀ {H' : Hp}, (∀ b ∈ fp, H' b = none) → ∀ b ∈ fp, FpOk X pins H' b := fun hn b hb => ⟨hn b hb, (f2 b hb).2⟩
  refine codeAny_forLoop_any (fun n s' => ∃ i σ' H', Inv X pins σ' H' s' ∧ tn i s'.heap ∧ (∀ b ∈ fp, H' b = none) ∧ W i n σ' H') ?_ m0 ⟨0, σ, H2, I2, st2, fun b hb => (f2 b hb).1, w0⟩
  rintro n s3 ⟨i, σ3, H3, I3, st3, fr3, w3⟩
  rcases turn i n σ3 H3 w3 with ⟨stop, qn⟩ | ⟨go, N, hN, step⟩
  · refine wpAny_passesOwn hp (thn (T.done X rfl rfl rfl hc i pins s3 σ3 H3 X.xe I3 (stat fr3) st3 stop) fun r s4 ⟨hr, I4⟩ => ?_)
    subst hr
    exact wpAny_execs_nil ⟨σ3, H3, I4, qn⟩
  · refine wpAny_passesOwn hp (thn (T.item X rfl rfl rfl hc i pins s3 σ3 H3 X.xe I3 (stat fr3) st3 go) fun r s4 ⟨u, hr, h4⟩ => ?_)
    subst hr
    refine wpAny_passesOwn hp (thn h4 fun _ s5 ⟨x, H5, I5, r5, y5, st5, fr5⟩ => ?_)
    have I5' := I5.pinned (stat fr5) (T.obj _ _ st5)
    refine wpAny_passesOwn hp (thn (hg _ s5 σ3 H5 x u _ I5' r5 (step x H5 y5)) fun _ s6 ⟨σ6, H6, I6, q6⟩ => ?_)
    refine wpAny_passesOwn hp (thn (hb _ s6 σ6 H6 _ I6 q6) fun f s7 q7 => ?_)
    have again : ∀ {σ7 : St} {H7 : Hp}, Inv X (pins ++ pinsAt fp s5.heap) σ7 H7 s7 → N σ7 H7 → ∃ m, m < n ∧ ∃ i σ' H', Inv X pins σ' H' s7 ∧ tn i s7.heap ∧ (∀ b ∈ fp, H' b = none) ∧ W i m σ' H' := fun {σ7 H7} I7 n7 => by
      obtain ⟨m', hm, w7⟩ := hN σ7 H7 n7
      refine ⟨m', hm, i + 1, σ7, H7, I7.unpinned, T.keep _ _ _ st5 fun b hb o e => (I7.pin (b, o) (List.mem_append_right _ (List.mem_append_right _ (mem_pinsAt hb e)))).1, fun b hb => ?_, w7⟩
      obtain ⟨o, e, d⟩ := T.obj _ _ st5 b hb
      exact (I7.pin (b, o) (List.mem_append_right _ (List.mem_append_right _ (mem_pinsAt hb e)))).2.1
    cases f with
    | next => obtain ⟨σ7, H7, I7, n7⟩ := q7; exact again I7 n7
    | cont => obtain ⟨σ7, H7, I7, n7⟩ := q7; exact again I7 n7
    | brk => obtain ⟨σ7, H7, I7, q7⟩ := q7; exact ⟨σ7, H7, I7.unpinned, q7⟩
    | ret v => obtain ⟨x7, σ7, H7, I7, r7, q7⟩ := q7; exact ⟨x7, σ7, H7, I7.unpinned, r7, q7⟩
end
theorem for_list {K : PySem.W.Frag} {a : Addr} {xs : List V} {g : TG} {tb : TS} {D : Ends} {σ : St} {H : Hp} (Pv : Nat → St → Hp → Prop) (h0 : Pv 0 σ H) (hl : ∀ i σ H, i ≤ xs.length → Pv i σ H → SqL K H a xs)
    (hs : ∀ i x σ H, xs[i]? = some x → Pv i σ H → g x σ H fun σ2 H2 => tb { D with nx := Pv (i + 1), ct := Pv (i + 1), bk := D.nx } σ2 H2) (hd : ∀ σ H, Pv xs.length σ H → D.nx σ H) :
    ∃ W : Nat → Nat → St → Hp → Prop, (∃ m, W 0 m σ H) ∧ ∀ i m σ H, W i m σ H →
      ((Itl K a).stop i H ∧ D.nx σ H) ∨ ((Itl K a).go i H ∧ ∃ N : St → Hp → Prop, (∀ σ' H', N σ' H' → ∃ m', m' < m ∧ W (i + 1) m' σ' H') ∧ ∀ x H', (Itl K a).yld i H x H' → g x σ H' fun σ2 H2 => tb { D with nx := N, ct := N, bk := D.nx } σ2 H2) := by
  refine ⟨fun i m σ H => m = xs.length - i ∧ i ≤ xs.length ∧ Pv i σ H, ⟨xs.length, by simp, Nat.zero_le _, h0⟩, ?_⟩
  rintro i m σ H ⟨rfl, hi, p⟩
  have q := hl i σ H hi p
  by_cases hlt : i < xs.length
  · refine .inr ⟨⟨xs, xs[i], q, by simp [hlt]⟩, Pv (i + 1), fun σ' H' p' => ⟨xs.length - (i + 1), by omega, rfl, hlt, p'⟩, fun x H' y => ?_⟩
    obtain ⟨e, y⟩ := y
    subst e
    exact hs i x σ _ (y xs q) p
  · have e : i = xs.length := by omega
    subst e
    exact .inl ⟨⟨xs, q, Nat.le_refl _⟩, hd σ H p⟩
theorem for_range {lo : Int} {n : Nat} {g : TG} {tb : TS} {D : Ends} {σ : St} {H : Hp} (Pv : Nat → St → Hp → Prop) (h0 : Pv 0 σ H)
    (hs : ∀ i σ H, i < n → Pv i σ H → g (.int (lo + i)) σ H fun σ2 H2 => tb { D with nx := Pv (i + 1), ct := Pv (i + 1), bk := D.nx } σ2 H2) (hd : ∀ σ H, Pv n σ H → D.nx σ H) :
    ∃ W : Nat → Nat → St → Hp → Prop, (∃ m, W 0 m σ H) ∧ ∀ i m σ H, W i m σ H →
      ((Itr lo n).stop i H ∧ D.nx σ H) ∨ ((Itr lo n).go i H ∧ ∃ N : St → Hp → Prop, (∀ σ' H', N σ' H' → ∃ m', m' < m ∧ W (i + 1) m' σ' H') ∧ ∀ x H', (Itr lo n).yld i H x H' → g x σ H' fun σ2 H2 => tb { D with nx := N, ct := N, bk := D.nx } σ2 H2) := by
  refine ⟨fun i m σ H => m = n - i ∧ i ≤ n ∧ Pv i σ H, ⟨n, by simp, Nat.zero_le _, h0⟩, ?_⟩
  rintro i m σ H ⟨rfl, hi, p⟩
  by_cases hlt : i < n
  · refine .inr ⟨hlt, Pv (i + 1), fun σ' H' p' => ⟨n - (i + 1), by omega, rfl, hlt, p'⟩, fun x H' y => ?_⟩
    obtain ⟨e, y⟩ := y
    subst e y
    exact hs i σ _ hlt p
  · have e : i = n := by omega
    subst e
    exact .inl ⟨Nat.le_refl _, hd σ H p⟩
end L2
namespace L2
open PySem PySem.Spec PyProof.Rows
abbrev R2 := V → V → Hp → VK → Prop
def OpR (X : Cx) (f : Value → Value → Sem Value) (r : R2) : Prop :=
  ∀ (pins : List (Addr × Obj)) (s : Shared) (σ : St) (H : Hp) (x y : V) (v u : Value) (Q : VK), Inv X pins σ H s → RelV x v → RelV y u → r x y H Q →
    wpAny (model X.prog X.w) X.A (f v u) (EP X pins σ Q) X.xe s
def UnR (X : Cx) (f : Value → Sem Value) (r : V → Hp → VK → Prop) : Prop :=
  ∀ (pins : List (Addr × Obj)) (s : Shared) (σ : St) (H : Hp) (x : V) (v : Value) (Q : VK), Inv X pins σ H s → RelV x v → r x H Q →
    wpAny (model X.prog X.w) X.A (f v) (EP X pins σ Q) X.xe s
def CallR (X : Cx) (f : Value) (r : List V → Hp → VK → Prop) : Prop :=
  ∀ (pins : List (Addr × Obj)) (s : Shared) (σ : St) (H : Hp) (xs : List V) (us : List Value) (Q : VK), Inv X pins σ H s → Vals xs us → r xs H Q →
    wpAny (model X.prog X.w) X.A (call f us) (EP X pins σ Q) X.xe s
def tOp (r : R2) (ta tb : TE) : TE := fun σ H Q => ta σ H fun x H1 => tb σ H1 fun y H2 => r x y H2 Q
def tUn (r : V → Hp → VK → Prop) (ta : TE) : TE := fun σ H Q => ta σ H fun x H1 => r x H1 Q
def rI (C : Int → Int → Prop) (g : Int → Int → V) : R2 := fun x y H Q => ∃ i j, x = .int i ∧ y = .int j ∧ C i j ∧ Q (g i j) H
def rI0 (g : Int → Int → V) : R2 := fun x y H Q => ∃ i j, x = .int i ∧ y = .int j ∧ Q (g i j) H
def rU (g : Int → V) : V → Hp → VK → Prop := fun x H Q => ∃ i, x = .int i ∧ Q (g i) H
section
variable {X : Cx} {a b c : Expr} {ta tb tc : TE} {pos : Pos}
theorem binT (ha : PE X a ta) (hb : PE X b tb) {pins : List (Addr × Obj)} {s : Shared} {σ : St} {H : Hp} {R : V → V → Hp → Prop} (I : Inv X pins σ H s)
    (h : ta σ H fun x H1 => tb σ H1 fun y H2 => R x y H2) {Q : Value → Shared → Prop} {f : Value → Value → Sem Value}
    (hf : ∀ v u s2 x y H2, Inv X pins σ H2 s2 → RelV x v → RelV y u → R x y H2 → wpAny (model X.prog X.w) X.A (f v u) Q X.xe s2) :
    wpAny (model X.prog X.w) X.A (eval a X.env) (fun v s₁ => wpAny (model X.prog X.w) X.A (eval b X.env) (fun u s₂ => wpAny (model X.prog X.w) X.A (f v u) Q X.xe s₂) X.xe s₁) X.xe s := by
  refine thn (ha pins s σ H _ I h) fun v s1 ⟨x, H1, I1, r1, q1⟩ => ?_
  refine thn (hb pins s1 σ H1 _ I1 q1) fun u s2 ⟨y, H2, I2, r2, q2⟩ => ?_
  exact hf v u s2 x y H2 I2 r1 r2 q2
theorem pe_op {op : Operator} {r : R2} (ho : OpR X (binaryOp op) r) (ha : PE X a ta) (hb : PE X b tb) : PE X (.BinOp a op b pos) (tOp r ta tb) := by
  intro pins s σ H Q I h
  exact wpAny_BinOp (binT ha hb I h fun v u s2 x y H2 I2 rx ry q => ho pins s2 σ H2 x y v u Q I2 rx ry q)
theorem pe_un {op : UnaryOp} {r : V → Hp → VK → Prop} (ho : UnR X (unaryOp op) r) (ha : PE X a ta) : PE X (.UnaryOp op a pos) (tUn r ta) := by
  intro pins s σ H Q I h
  exact UnaryOp_ (thn (ha pins s σ H _ I h) fun v s1 ⟨x, H1, I1, r1, q1⟩ => ho pins s1 σ H1 x v Q I1 r1 q1)
theorem opI {f : Value → Value → Sem Value} {C : Int → Int → Prop} {g : Int → Int → Int}
    (rule : ∀ (i j : Int) (t u : Tok) (s : Shared) (Q : Value → Shared → Prop) (E : Value → Shared → Prop), C i j → Q (.int (g i j) s.toks) { s with toks := s.toks + 1 } → wpAny (model X.prog X.w) X.A (f (.int i t) (.int j u)) Q E s) :
    OpR X f (rI C fun i j => .int (g i j)) := by
  intro pins s σ H x y v u Q I rx ry h
  obtain ⟨i, j, rfl, rfl, hc, q⟩ := h
  obtain ⟨t, rfl⟩ := rx
  obtain ⟨t', rfl⟩ := ry
  exact rule i j t t' s _ _ hc ⟨.int (g i j), H, I.tok _, ⟨_, rfl⟩, q⟩
theorem opI0 {f : Value → Value → Sem Value} {g : Int → Int → Int}
    (rule : ∀ (i j : Int) (t u : Tok) (s : Shared) (Q : Value → Shared → Prop) (E : Value → Shared → Prop), Q (.int (g i j) s.toks) { s with toks := s.toks + 1 } → wpAny (model X.prog X.w) X.A (f (.int i t) (.int j u)) Q E s) :
    OpR X f (rI0 fun i j => .int (g i j)) := by
  intro pins s σ H x y v u Q I rx ry h
  obtain ⟨i, j, rfl, rfl, q⟩ := h
  obtain ⟨t, rfl⟩ := rx
  obtain ⟨t', rfl⟩ := ry
  exact rule i j t t' s _ _ ⟨.int (g i j), H, I.tok _, ⟨_, rfl⟩, q⟩
theorem opB0 {f : Value → Value → Sem Value} {g : Int → Int → Bool}
    (rule : ∀ (i j : Int) (t u : Tok) (s : Shared) (Q : Value → Shared → Prop) (E : Value → Shared → Prop), Q (.bool (g i j)) s → wpAny (model X.prog X.w) X.A (f (.int i t) (.int j u)) Q E s) :
    OpR X f (rI0 fun i j => .bl (g i j)) := by
  intro pins s σ H x y v u Q I rx ry h
  obtain ⟨i, j, rfl, rfl, q⟩ := h
  obtain ⟨t, rfl⟩ := rx
  obtain ⟨t', rfl⟩ := ry
  exact rule i j t t' s _ _ ⟨.bl (g i j), H, I, rfl, q⟩
def CDiv (i j : Int) : Prop := 0 < j ∧ j < 1073741824
def CMul (i j : Int) : Prop := (-(2 ^ 64) < i ∧ i < 2 ^ 64) ∨ (-(2 ^ 64) < j ∧ j < 2 ^ 64)
theorem CMul.ok {i j : Int} (h : CMul i j) : IntMulOk i j := by
  rcases h with ⟨h1, h2⟩ | ⟨h1, h2⟩
  · exact .of_left (intBits_le_64 h1 h2)
  · exact .of_right (intBits_le_64 h1 h2)
theorem op_add : OpR X (binaryOp .Add) (rI0 fun i j => .int (i + j)) := opI0 fun _ _ _ _ _ _ _ q => add_int q
theorem op_fdiv : OpR X (binaryOp .FloorDiv) (rI CDiv fun i j => .int (i / j)) := opI fun i j _ _ _ _ _ hc q => by
  have h1 : (0 : Int) < j := hc.1
  have h2 : j < 1073741824 := hc.2
  exact floordiv_int (by omega) (by rw [Int.fdiv_eq_ediv_of_nonneg i (by omega)]; exact q) (.inl (PyProof.noPylong_small (by omega)))
theorem op_mod : OpR X (binaryOp .Mod) (rI (fun _ j => 0 < j) fun i j => .int (i % j)) := opI fun i j _ _ _ _ _ hc q => by
  have h1 : (0 : Int) < j := hc
  exact mod_int' (by omega) (by rw [Int.fmod_eq_emod_of_nonneg i (by omega)]; exact q)
theorem unI {f : Value → Sem Value} {g : Int → Int}
    (rule : ∀ (i : Int) (t : Tok) (s : Shared) (Q : Value → Shared → Prop) (E : Value → Shared → Prop), Q (.int (g i) s.toks) { s with toks := s.toks + 1 } → wpAny (model X.prog X.w) X.A (f (.int i t)) Q E s) :
    UnR X f (rU fun i => .int (g i)) := by
  intro pins s σ H x v Q I rx h
  obtain ⟨i, rfl, q⟩ := h
  obtain ⟨t, rfl⟩ := rx
  exact rule i t s _ _ ⟨.int (g i), H, I.tok _, ⟨_, rfl⟩, q⟩
theorem un_neg : UnR X (unaryOp .USub) (rU fun i => .int (-i)) := unI fun _ _ _ _ _ q => neg_int q
end
def scal : V → V → Bool
  | .non, .non => true | .non, .int _ => true | .int _, .non => true | .non, .bl _ => true | .bl _, .non => true | .non, .str _ => true | .str _, .non => true
  | .int _, .int _ => true | .bl _, .bl _ => true | .str _, .str _ => true | .byt _, .byt _ => true
  | .int _, .str _ => true | .str _, .int _ => true | .bl _, .str _ => true | .str _, .bl _ => true
  | _, _ => false
def rEq : R2 := fun x y H Q => scal x y = true ∧ Q (.bl (decide (x = y))) H
def rNe : R2 := fun x y H Q => scal x y = true ∧ Q (.bl (!decide (x = y))) H
theorem dec_int {i j : Int} : decide (V.int i = V.int j) = (i == j) := by
  rw [Bool.eq_iff_iff]
  simp
theorem dec_bl {i j : Bool} : decide (V.bl i = V.bl j) = (i == j) := by
  rw [Bool.eq_iff_iff]
  simp
theorem dec_str {i j : Str} : decide (V.str i = V.str j) = (i == j) := by
  rw [Bool.eq_iff_iff]
  simp
theorem dec_byt {i j : Array UInt8} : decide (V.byt i = V.byt j) = (i.toList == j.toList) := by
  rw [Bool.eq_iff_iff]
  cases i
  cases j
  simp
section
variable {X : Cx} {a b c : Expr} {ta tb tc : TE} {pos : Pos}
theorem fin_bl {pins : List (Addr × Obj)} {σ : St} {H : Hp} {s : Shared} {Q : VK} {k k' : Bool} (I : Inv X pins σ H s) (q : Q (.bl k) H) (e : k = k') : EP X pins σ Q (.bool k') s := by
  subst e
  exact ⟨.bl k, H, I, rfl, q⟩
theorem op_eq : OpR X (compareOp .Eq) rEq := by
  intro pins s σ H x y v u Q I rx ry h
  obtain ⟨hs, q⟩ := h
  cases x with
  | non =>
    cases rx
    cases y with
    | non => cases ry; exact PySem.EqNone.eq_none_none (fin_bl I q (by simp))
    | bl j => cases ry; exact PySem.EqNone.eq_none_bool (fin_bl I q (by simp))
    | int j => obtain ⟨t', rfl⟩ := ry; exact PySem.EqNone.eq_none_int (fin_bl I q (by simp))
    | str j => obtain ⟨t', rfl⟩ := ry; exact PySem.EqNone.eq_none_str (fin_bl I q (by simp))
    | _ => exact absurd (show false = true from hs) Bool.false_ne_true
  | bl i =>
    cases rx
    cases y with
    | non => cases ry; exact PySem.EqNone.eq_bool_none (fin_bl I q (by simp))
    | bl j => cases ry; exact eq_bool (fin_bl I q dec_bl)
    | str j => obtain ⟨t', rfl⟩ := ry; exact PySem.EqMixed.eq_bool_str (fin_bl I q (by simp))
    | _ => exact absurd (show false = true from hs) Bool.false_ne_true
  | int i =>
    obtain ⟨t, rfl⟩ := rx
    cases y with
    | non => cases ry; exact PySem.EqNone.eq_int_none (fin_bl I q (by simp))
    | int j => obtain ⟨t', rfl⟩ := ry; exact eq_int (fin_bl I q dec_int)
    | str j => obtain ⟨t', rfl⟩ := ry; exact PySem.EqMixed.eq_int_str (fin_bl I q (by simp))
    | _ => exact absurd (show false = true from hs) Bool.false_ne_true
  | str i =>
    obtain ⟨t, rfl⟩ := rx
    cases y with
    | non => cases ry; exact PySem.EqNone.eq_str_none (fin_bl I q (by simp))
    | bl j => cases ry; exact PySem.EqMixed.eq_str_bool (fin_bl I q (by simp))
    | int j => obtain ⟨t', rfl⟩ := ry; exact PySem.EqMixed.eq_str_int (fin_bl I q (by simp))
    | str j => obtain ⟨t', rfl⟩ := ry; exact eq_str (fin_bl I q dec_str)
    | _ => exact absurd (show false = true from hs) Bool.false_ne_true
  | byt i =>
    obtain ⟨t, rfl⟩ := rx
    cases y with
    | byt j => obtain ⟨t', rfl⟩ := ry; exact PySem.W.eq_bytes (fin_bl I q dec_byt)
    | _ => exact absurd (show false = true from hs) Bool.false_ne_true
  | _ => cases y <;> exact absurd (show false = true from hs) Bool.false_ne_true
theorem op_ne : OpR X (compareOp .NotEq) rNe := by
  intro pins s σ H x y v u Q I rx ry h
  obtain ⟨hs, q⟩ := h
  cases x with
  | non =>
    cases rx
    cases y with
    | non => cases ry; exact PySem.EqNone.ne_none_none (fin_bl I q (by simp))
    | bl j => cases ry; exact PySem.EqNone.ne_none_bool (fin_bl I q (by simp))
    | int j => obtain ⟨t', rfl⟩ := ry; exact PySem.EqNone.ne_none_int (fin_bl I q (by simp))
    | str j => obtain ⟨t', rfl⟩ := ry; exact PySem.EqNone.ne_none_str (fin_bl I q (by simp))
    | _ => exact absurd (show false = true from hs) Bool.false_ne_true
  | bl i =>
    cases rx
    cases y with
    | non => cases ry; exact PySem.EqNone.ne_bool_none (fin_bl I q (by simp))
    | bl j => cases ry; exact ne_bool (fin_bl I q (congrArg not dec_bl))
    | str j => obtain ⟨t', rfl⟩ := ry; exact PySem.EqMixed.ne_bool_str (fin_bl I q (by simp))
    | _ => exact absurd (show false = true from hs) Bool.false_ne_true
  | int i =>
    obtain ⟨t, rfl⟩ := rx
    cases y with
    | non => cases ry; exact PySem.EqNone.ne_int_none (fin_bl I q (by simp))
    | int j => obtain ⟨t', rfl⟩ := ry; exact ne_int (fin_bl I q (congrArg not dec_int))
    | str j => obtain ⟨t', rfl⟩ := ry; exact PySem.EqMixed.ne_int_str (fin_bl I q (by simp))
    | _ => exact absurd (show false = true from hs) Bool.false_ne_true
  | str i =>
    obtain ⟨t, rfl⟩ := rx
    cases y with
    | non => cases ry; exact PySem.EqNone.ne_str_none (fin_bl I q (by simp))
    | bl j => cases ry; exact PySem.EqMixed.ne_str_bool (fin_bl I q (by simp))
    | int j => obtain ⟨t', rfl⟩ := ry; exact PySem.EqMixed.ne_str_int (fin_bl I q (by simp))
    | str j => obtain ⟨t', rfl⟩ := ry; exact ne_str (fin_bl I q (congrArg not dec_str))
    | _ => exact absurd (show false = true from hs) Bool.false_ne_true
  | byt i =>
    obtain ⟨t, rfl⟩ := rx
    cases y with
    | byt j => obtain ⟨t', rfl⟩ := ry; exact PySem.W.ne_bytes (fin_bl I q (congrArg not dec_byt))
    | _ => exact absurd (show false = true from hs) Bool.false_ne_true
  | _ => cases y <;> exact absurd (show false = true from hs) Bool.false_ne_true
theorem op_lt : OpR X (compareOp .Lt) (rI0 fun i j => .bl (decide (i < j))) := opB0 fun _ _ _ _ _ _ _ q => lt_int q
theorem op_gt : OpR X (compareOp .Gt) (rI0 fun i j => .bl (decide (j < i))) := opB0 fun _ _ _ _ _ _ _ q => gt_int q
theorem op_isN : OpR X (compareOp .Is) (fun x y H Q => y = .non ∧ Q (.bl (decide (x = .non))) H) := by
  intro pins s σ H x y v u Q I rx ry h
  obtain ⟨rfl, q⟩ := h
  cases ry
  refine is_none_gen (fin_bl I q ?_)
  cases x <;> first
    | (cases rx; rfl)
    | (obtain ⟨t, rfl⟩ := rx; rfl)
theorem OpR.or {f : Value → Value → Sem Value} {r r' : R2} (h : OpR X f r) (h' : OpR X f r') : OpR X f (fun x y H Q => r x y H Q ∨ r' x y H Q) := by
  intro pins s σ H x y v u Q I rx ry q
  rcases q with q | q
  · exact h pins s σ H x y v u Q I rx ry q
  · exact h' pins s σ H x y v u Q I rx ry q
theorem nomark (b : Expr) {op : CmpOp} (h : op ≠ .In := by decide) (h2 : op ≠ .NotIn := by decide) : behindInMarks op b = false := by
  have e1 : (op == CmpOp.In) = false := by cases op <;> first | rfl | exact absurd rfl h
  have e2 : (op == CmpOp.NotIn) = false := by cases op <;> first | rfl | exact absurd rfl h2
  cases b <;> simp [behindInMarks, e1, e2]
theorem pe_cmpR {op : CmpOp} {r : R2} (ho : OpR X (compareOp op) r) (ha : PE X a ta) (hb : PE X b tb) (hm : behindInMarks op b = false) : PE X (.Compare a [op] [b] pos) (tOp r ta tb) := by
  intro pins s σ H Q I h
  exact wpAny_Compare1 (binT ha hb I h fun v u s2 x y H2 I2 rx ry q => ho pins s2 σ H2 x y v u Q I2 rx ry q) hm
def tTest (t : TE) : TT := fun σ H Q => t σ H fun x H' => ∃ k, x = .bl k ∧ Q k H'
theorem pt_cmpR {op : CmpOp} {r : R2} (ho : OpR X (compareOp op) r) (ha : PE X a ta) (hb : PE X b tb) (hm : behindInMarks op b = false) : PT X (.Compare a [op] [b] pos) (tTest (tOp r ta tb)) := by
  intro pins s σ H Q I h
  refine wpAny_isTrue_Compare1 (thn (ha pins s σ H _ I h) fun v s1 ⟨x, H1, I1, r1, q1⟩ => thn (hb pins s1 σ H1 _ I1 q1) fun u s2 ⟨y, H2, I2, r2, q2⟩ =>
    thn (ho pins s2 σ H2 x y v u _ I2 r1 r2 q2) fun c s3 ⟨z, H3, I3, r3, k, e, q3⟩ => ?_) hm
  subst e
  cases r3
  exact wpAny_truthy_bool ⟨H3, I3, q3⟩
theorem line63 : (sizeLine : Nat) < 2 ^ 63 := by rw [sizeLine_eq]; decide
theorem op_add_str : OpR X (binaryOp .Add) (fun x y H Q => ∃ i j, x = .str i ∧ y = .str j ∧ i.length + j.length ≤ sizeLine ∧ Q (.str (i ++ j)) H) := by
  intro pins s σ H x y v u Q I rx ry h
  obtain ⟨i, j, rfl, rfl, hz, q⟩ := h
  obtain ⟨t, rfl⟩ := rx
  obtain ⟨t', rfl⟩ := ry
  exact add_str (fun t' tk => ⟨.str (i ++ j), H, I.tok _, ⟨_, rfl⟩, q⟩) hz
theorem vals1 {x : V} {us : List Value} (r : Vals [x] us) : ∃ u, us = [u] ∧ RelV x u := by
  cases r with
  | cons r1 r2 => cases r2; exact ⟨_, rfl, r1⟩
theorem vals2 {x y : V} {us : List Value} (r : Vals [x, y] us) : ∃ u w', us = [u, w'] ∧ RelV x u ∧ RelV y w' := by
  cases r with
  | cons r1 r2 =>
    cases r2 with
    | cons r3 r4 => cases r4; exact ⟨_, _, rfl, r1, r3⟩
theorem call_str_int : CallR X (.type "str") (fun xs H Q => ∃ i, xs = [.int i] ∧ i.natAbs.log2 < 1920 ∧ Q (.str (toString i)) H) := by
  intro pins s σ H xs us Q I r h
  obtain ⟨i, rfl, hz, q⟩ := h
  obtain ⟨u, rfl, t, rfl⟩ := vals1 r
  exact PySem.P.str_of_int hz ⟨.str _, H, I.tok _, ⟨_, rfl⟩, q⟩
end
end L2
namespace L2
open PySem PySem.Spec PyProof.Rows
structure ObjM (h : Heap) (x dx C : Addr) (mA : Str → Option Value) : Prop where
  obj : h.get? x = some (PySem.W.instObj C dx)
  ns : h.Ns1 dx mA
  ne : dx ≠ x
theorem lookIn_ns {h : Heap} {dx : Addr} {mA : Str → Option Value} (n : h.Ns1 dx mA) : ∃ od, h.get? dx = some od ∧ ∀ name, PySem.W.lookIn name od = some (mA name) := by
  obtain ⟨o, es, ep, ho, hd, hk, _, hm⟩ := n
  refine ⟨o, ho, fun name => ?_⟩
  have e := hm name
  unfold nsFind findBy at e
  rw [← Array.find?_toList] at e
  unfold PySem.W.lookIn
  rw [hd]
  dsimp only
  split
  · rename_i y q
    rw [q] at e
    exact congrArg some e
  · rename_i q
    rw [q] at e
    have a : es.toList.any (·.refKey) = false := by
      rw [List.any_eq_false]
      intro y hy
      obtain ⟨z, t, hkey⟩ := hk y (Array.mem_toList_iff.mp hy)
      simp [DictEntry.refKey, hkey]
    have a' : ¬ es.toList.any (·.refKey) = true := by rw [a]; exact Bool.false_ne_true
    rw [if_neg a']
    exact congrArg some e
theorem ObjM.look {h : Heap} {x dx C : Addr} {mA : Str → Option Value} (I : ObjM h x dx C mA) : ∃ od, PySem.W.InstAt h x (PySem.W.instObj C dx) C (some od) ∧ ∀ name, PySem.W.lookIn name od = some (mA name) :=
  let ⟨od, ho, hl⟩ := lookIn_ns I.ns
  ⟨od, ⟨I.obj, rfl, rfl, ho⟩, hl⟩
section
variable {prog : Program} {w : World} {A : Around} {E : Value → Shared → Prop} {s : Shared} {K : PySem.W.Frag} {x dx C f : Addr} {mA : Str → Option Value} {name : Str} {v : Value}
end
section
variable {P : Program} {w : World} {H H' : Hp} {h h' : Heap} {a C dx : Addr} {fs fs' : List (Str × V)}
theorem ins_get (hok : HOk P w H h) (e : H a = some (.ins C dx fs)) : ∃ mA, ObjM h a dx C mA ∧ (∀ f, RelO (fs.lookup f) (mA f)) ∧ PySem.Within mA (fs.map (·.1)) ∧ fs.length ≤ 1000 ∧ H dx = some (.own a) := by
  obtain ⟨d, z, ne, ob, mA, n, r, q⟩ := (show ObjOk P w H h a (.ins C dx fs) from hok a _ e)
  exact ⟨mA, ⟨ob, n, ne⟩, r, q, z, d⟩
end
structure Cls (K : PySem.W.Frag) (C : Addr) : Prop where
  pg : PySem.W.plainGet K C Str.empty = true
  hd : PySem.W.hasDictIn K C = true
  po : PySem.W.plainOver K C = true
  sa : PySem.W.findIn K (.ref C) "__setattr__" = some (some (.builtin "object.__setattr__"))
theorem Cls.get {K : PySem.W.Frag} {C : Addr} (c : Cls K C) (f : Str) : PySem.W.plainGet K C f = true := c.pg
section
variable {X : Cx} {pins : List (Addr × Obj)} {σ : St} {H : Hp} {s : Shared} {a C dx : Addr} {fs : List (Str × V)} {f : Str} {v : V} {A : Around} {E : Value → Shared → Prop}
end
section
variable {X : Cx} {o e value : Expr} {f : Str} {pos pos' tpos : Pos} {ta tv : TE}
end
section
variable {X : Cx} {pins : List (Addr × Obj)} {σ : St} {H : Hp} {s : Shared} {A : Around} {E : Value → Shared → Prop} {Q : Value → Shared → Prop} {c : Value} {b : Bool}
inductive TyOf (K : PySem.W.Frag) (H : Hp) : V → Value → Prop where
  | non : TyOf K H .non (.type "NoneType")
  | bl (x : Bool) : TyOf K H (.bl x) (.type "bool")
  | int (i : Int) : TyOf K H (.int i) (.type "int")
  | str (x : Str) : TyOf K H (.str x) (.type "str")
  | flt (x : UInt64) : TyOf K H (.flt x) (.type "float")
  | lst {a : Addr} {xs : List V} (e : H a = some (.lst xs)) : TyOf K H (.ref a) (.type "list")
  | frz {a : Addr} {o : Obj} {xs : List V} (e : H a = some (.frz o (.lst xs))) : TyOf K H (.ref a) (.type "list")
  | tup {a : Addr} {xs : List V} (e : H a = some (.tup xs)) : TyOf K H (.ref a) (.type "tuple")
  | dK {a : Addr} {kvs : List (Key × V)} (e : H a = some (.dK kvs)) : TyOf K H (.ref a) (.type "dict")
  | dT {a : Addr} {kvs : List (List Key × V)} (e : H a = some (.dT kvs)) : TyOf K H (.ref a) (.type "dict")
  | ins {a C dx : Addr} {fs : List (Str × V)} (e : H a = some (.ins C dx fs)) (cl : Cls K C) (ha : PySem.W.findIn K (.ref C) "__class__" = some (some (.builtin "object.__class__")))
      (hn : PySem.W.specialIn K (.builtin "object.__class__") "__get__" = some (some (.builtin "getset_descriptor.__get__"))) (htk : PySem.W.takesIn K (.builtin "object.__class__") = some true)
      (hm : PySem.W.mroIn K C (.type "object") = some true) : TyOf K H (.ref a) (.ref C)
theorem isinst_ok {x : V} {u t : Value} (I : Inv X pins σ H s) (rx : RelV x u) (ty : TyOf X.K H x t) (e : PySem.W.kitOne X.K t c = some b) (h : ∀ tk, Q (.bool b) { s with toks := tk }) :
    wpAny (model X.prog X.w) A (call (.builtin "isinstance") [u, c]) Q E s := by
  cases ty with
  | non => cases (show u = Value.none from rx); exact PySem.W.kia_one PySem.W.kitx_none I.kIn True.intro e (fun z => nomatch z) h
  | bl y => cases (show u = Value.bool y from rx); exact PySem.W.kia_one PySem.W.kitx_bool I.kIn True.intro e (fun z => nomatch z) h
  | int i => obtain ⟨t, q⟩ := (show ∃ t, u = Value.int i t from rx); cases q; exact PySem.W.kia_one PySem.W.kitx_int I.kIn True.intro e (fun z => nomatch z) h
  | str y => obtain ⟨t, q⟩ := (show ∃ t, u = Value.str y t from rx); cases q; exact PySem.W.kia_one PySem.W.kitx_str I.kIn True.intro e (fun z => nomatch z) h
  | flt y => obtain ⟨t, q⟩ := (show ∃ t, u = Value.float y t from rx); cases q; exact PySem.W.kia_one PySem.W.kitx_float I.kIn True.intro e (fun z => nomatch z) h
  | @lst a xs ea =>
    cases (show u = Value.ref a from rx)
    obtain ⟨_, _, n, _, h1⟩ := (show ObjOk X.prog X.w H s.heap a (.lst xs) from I.hok a _ ea)
    exact PySem.W.kia_one PySem.W.kitx_list I.kIn ⟨_, h1, rfl⟩ e (fun z => nomatch z) h
  | @frz a ob xs ea =>
    cases (show u = Value.ref a from rx)
    obtain ⟨_, _, _, n, _, h1⟩ := (show ObjOk X.prog X.w H s.heap a (.frz ob (.lst xs)) from I.hok a _ ea)
    exact PySem.W.kia_one PySem.W.kitx_list I.kIn ⟨_, h1, rfl⟩ e (fun z => nomatch z) h
  | @tup a xs ea =>
    cases (show u = Value.ref a from rx)
    obtain ⟨_, _, _, p⟩ := (show ObjOk X.prog X.w H s.heap a (.tup xs) from I.hok a _ ea)
    obtain ⟨o, h1, h2, _⟩ := p
    exact PySem.W.kia_one PySem.W.kitx_tuple I.kIn ⟨o, h1, h2⟩ e (fun z => nomatch z) h
  | @dK a kvs ea =>
    cases (show u = Value.ref a from rx)
    obtain ⟨_, _, vs, _, p⟩ := (show ObjOk X.prog X.w H s.heap a (.dK kvs) from I.hok a _ ea)
    obtain ⟨o, es, ep, h1, h2, _⟩ := p
    exact PySem.W.kia_one PySem.W.kitx_dict I.kIn ⟨o, h1, h2.1⟩ e (fun z => nomatch z) h
  | @dT a kvs ea =>
    cases (show u = Value.ref a from rx)
    obtain ⟨_, _, xs, _, o, es, ep, h1, h2, _⟩ := (show ObjOk X.prog X.w H s.heap a (.dT kvs) from I.hok a _ ea)
    exact PySem.W.kia_one PySem.W.kitx_dict I.kIn ⟨o, h1, h2.1⟩ e (fun z => nomatch z) h
  | @ins a C dx fs ea cl ha hn htk hm =>
    cases (show u = Value.ref a from rx)
    obtain ⟨mA, O, _⟩ := ins_get I.hok ea
    obtain ⟨od, J, _⟩ := O.look
    exact PySem.W.kia_one (PySem.W.kitx_own (cl.get _) cl.hd ha hn htk hm) I.kIn J e (fun z => nomatch z) h
end
end L2
namespace L2
open PySem PySem.Spec PyProof.Rows
structure Room (k : Nat) (A : Around) : Prop where
  hd : A.handled = none
  dp : A.depth + 3 * k + 5 < recursionLimit
  un : A.units + 16 * k + 200 < cLine
  gd : A.guards = some []
theorem Room.mono {j k : Nat} {A : Around} (r : Room k A) (h : j ≤ k) : Room j A := ⟨r.hd, by have := r.dp; omega, by have := r.un; omega, r.gd⟩
theorem Room.deeper {k : Nat} {A : Around} (r : Room (k + 1) A) (env : Env) : Room k (A.deeper env) :=
  ⟨r.hd, by have := r.dp; show A.depth + 1 + 3 * k + 5 < _; omega, by have := r.un; show A.units + 3 + 16 * k + 200 < _; omega, r.gd⟩
theorem Room.depth {k : Nat} {A : Around} (r : Room k A) : A.depth < recursionLimit := by have := r.dp; omega
theorem Room.units {k : Nat} {A : Around} (r : Room k A) : A.units + 64 < cLine := by have := r.un; omega
def tNil : TA := fun _ H Q => Q [] H
def tCons (ta : TE) (tr : TA) : TA := fun σ H Q => ta σ H fun x H1 => tr σ H1 fun xs H2 => Q (x :: xs) H2
section
variable {X : Cx} {e : Expr} {es : List Expr} {te : TE} {t : TA} {pos : Pos}
theorem pa_nil : PA X [] tNil := fun _ _ _ _ H Q I h => Calls.spliced_nil ⟨[], H, I, .nil, h⟩
theorem pa_cons (ha : PE X e te) (hr : PA X es t) (hs : starEach (e :: es) X.env = (false, eval e X.env) :: starEach es X.env := by rfl) : PA X (e :: es) (tCons te t) := by
  intro pos pins s σ H Q I h
  rw [hs]
  show wpAny _ _ (spliced ((false, eval e X.env) :: backTo pos (starEach es X.env))) _ _ s
  refine Calls.spliced_cons (thn (ha pins s σ H _ I h) fun u s1 ⟨x, H1, I1, r1, q1⟩ => ?_)
  exact thn (hr pos pins s1 σ H1 _ I1 q1) fun us s2 ⟨xs, H2, I2, r2, q2⟩ => ⟨x :: xs, H2, I2, .cons r1 r2, q2⟩
def tTup (t : TA) : TE := fun σ H Q => t σ H fun xs H1 => xs.length ≤ sizeLine ∧ ∀ p, H1 p = none → Q (.ref p) (upd H1 p (.tup xs))
def tLst (t : TA) : TE := fun σ H Q => t σ H fun xs H1 => xs.length ≤ sizeLine ∧ ∀ p, H1 p = none → Q (.ref p) (upd H1 p (.lst xs))
theorem pe_tup {x1} (h : PA X es t) : PE X (.Tuple es x1 pos) (tTup t) := by
  intro pins s σ H Q I hq
  refine wpAny_Tuple_spliced (thn (h pos pins s σ H _ I hq) fun us s1 ⟨xs, H1, I1, r, z, q⟩ => ⟨by rw [← r.length]; exact z, ?_⟩)
  have hf : H1 s1.heap.objs.size = none := I1.hok.fresh (Nat.le_refl _)
  refine ⟨.ref s1.heap.objs.size, upd H1 s1.heap.objs.size (.tup xs), I1.laid (t' := s1.toks) (fun b u e => Heap.get?_push_of_some _ e) (Nat.le_refl _) ?_, rfl, q _ hf⟩
  exact ⟨z, us, r, ⟨_, Heap.get?_push_size _ rfl, rfl, _, rfl⟩⟩
theorem pe_lst (h : PA X es t) : PE X (.List es pos) (tLst t) := by
  intro pins s σ H Q I hq
  refine wpAny_List_spliced (thn (h pos pins s σ H _ I hq) fun us s1 ⟨xs, H1, I1, r, z, q⟩ => ⟨by rw [← r.length]; exact z, ?_⟩)
  have hf : H1 s1.heap.objs.size = none := I1.hok.fresh (Nat.le_refl _)
  refine ⟨.ref s1.heap.objs.size, upd H1 s1.heap.objs.size (.lst xs), I1.laid (t' := s1.toks) (fun b u e => Heap.get?_push_of_some _ e) (Nat.le_refl _) ?_, rfl, q _ hf⟩
  exact ⟨z, us, 0, r, Heap.get?_push_size _ rfl⟩
end
abbrev Sp := List V → Hp → VK → XK → Prop
abbrev CXT := List Env → Hp → Shared → XK → Value → Shared → Prop
structure Env0 (P : Program) (w : World) (K : PySem.W.Frag) (mg : Str → Option Value) (base : Heap) (A : Around) (outer : List Env) (s : Shared) (H : Hp) : Prop where
  frames : A.frames = some outer
  mod : Mod K mg base
  bs : ∀ b o, base.get? b = some o → s.heap.get? b = some o ∧ H b = none
  bsz : base.objs.size ≤ s.heap.objs.size
  funs : s.heap.FunFrames base outer
  frf : ∀ b ∈ frs outer, H b = none
  hok : HOk P w H s.heap
  bare : AllBare s.gens
def CE (outer : List Env) (P : Program) (w : World) (H : Hp) (s : Shared) (Q : VK) (u : Value) (s' : Shared) : Prop :=
  ∃ v H', s'.os = s.os ∧ AllBare s'.gens ∧ Un (frs outer) [] H H' s.heap s'.heap ∧ HOk P w H' s'.heap ∧ RelV v u ∧ Q v H'
def CR (CX : CXT) (outer : List Env) (P : Program) (w : World) (H : Hp) (s : Shared) (Q : VK) (E : XK) (r : Result) (s' : Shared) : Prop :=
  match r with
  | .ok (.ret u) => CE outer P w H s Q u s'
  | .ok _ => False
  | .error e => CX outer H s E e s'
structure FnOk (P : Program) (w : World) (K : PySem.W.Frag) (mg : Str → Option Value) (base : Heap) (CX : CXT) (k : Nat) (f : Addr) (fd : FuncData) (ps : List Str) (sp : Sp) : Prop where
  len : ∀ vs H Q E, sp vs H Q E → vs.length = ps.length
  run : ∀ (A : Around) (outer : List Env) (s : Shared) (H : Hp) (args : Args) (us : List Value) (vs : List V) (Q : VK) (E : XK), Room k A → Env0 P w K mg base A outer s H → BindsTo s fd args (ps.zip us) → Vals vs us → sp vs H Q E →
    codeAny (model P w) A (.call (.ref f) args) (CR CX outer P w H s Q E) s
theorem FnOk.mono {P : Program} {w : World} {K : PySem.W.Frag} {mg : Str → Option Value} {base : Heap} {CX : CXT} {j k : Nat} {f : Addr} {fd : FuncData} {ps : List Str} {sp : Sp} (F : FnOk P w K mg base CX j f fd ps sp) (h : j ≤ k) :
    FnOk P w K mg base CX k f fd ps sp := ⟨F.len, fun A outer s H args us vs Q E hr => F.run A outer s H args us vs Q E (hr.mono h)⟩
theorem FnOk.imp {P : Program} {w : World} {K : PySem.W.Frag} {mg : Str → Option Value} {base : Heap} {CX : CXT} {k : Nat} {f : Addr} {fd : FuncData} {ps : List Str} {sp sp' : Sp} (F : FnOk P w K mg base CX k f fd ps sp)
    (h : ∀ vs H Q E, sp' vs H Q E → sp vs H Q E) : FnOk P w K mg base CX k f fd ps sp' :=
  ⟨fun vs H Q E q => F.len vs H Q E (h _ _ _ _ q), fun A outer s H args us vs Q E hr he hb hv hs => F.run A outer s H args us vs Q E hr he hb hv (h _ _ _ _ hs)⟩
section
variable {X : Cx} {pins : List (Addr × Obj)} {σ : St} {H : Hp} {s s' : Shared}
theorem Inv.env0 (I : Inv X pins σ H s) : Env0 X.prog X.w X.K X.mg X.base X.A X.stack s H :=
  ⟨I.ok.frames, I.ok.mod, I.bs, Nat.le_trans I.ok.bsz I.sz, I.stack, I.stkFree, I.hok, I.bare⟩
theorem Inv.after {Q : VK} {u : Value} (I : Inv X pins σ H s) (h : CE X.stack X.prog X.w H s Q u s') : EP X pins σ Q u s' := by
  obtain ⟨v, H', os, bare, un, hok, r, q⟩ := h
  obtain ⟨hh, g, d, t, os'⟩ := s'
  obtain rfl : os' = s.os := os
  exact ⟨v, H', I.call (h' := hh) (g' := g) (d' := d) (t' := t) (ch := []) un hok bare (fun b z => absurd z (by simp)), r, q⟩
end
def tCall (sp : Sp) (dvs : List V) (E : XK) (t : TA) : TE := fun σ H Q => t σ H fun vs H1 => sp (vs ++ dvs) H1 Q E
def Binds (K : PySem.W.Frag) (fd : FuncData) (ps : List Str) (ds : List Value) : Prop :=
  ∀ (s : Shared) (us : List Value), K.In s.heap → (us ++ ds).length = ps.length → BindsTo s fd ⟨us, []⟩ (ps.zip (us ++ ds))
theorem Binds.all {K : PySem.W.Frag} {fd : FuncData} {ps : List Str} (h : ∀ us : List Value, us.length = ps.length → bindArgs fd ⟨us, []⟩ = pure (ps.zip us)) : Binds K fd ps [] := fun s us _ hl => by
  rw [List.append_nil] at hl ⊢
  exact .of_eq (h us hl)
def Passes (CX : CXT) (X : Cx) (E : XK) : Prop := ∀ (pins : List (Addr × Obj)) (σ : St) (H : Hp) (s : Shared) (e : Value) (s' : Shared), Inv X pins σ H s → CX X.stack H s E e s' → X.xe e s'
section
variable {X : Cx} {CX : CXT} {k : Nat} {f C : Addr} {fd : FuncData} {ps : List Str} {sp : Sp} {dvs : List V} {ds : List Value} {E : XK} {x m : Str} {p pos apos : Pos} {e o : Expr} {es : List Expr} {ta : TE} {t : TA}
theorem run_fn {pins : List (Addr × Obj)} {σ : St} {H : Hp} {s : Shared} {Q : VK} {us : List Value} {vs : List V} (F : FnOk X.prog X.w X.K X.mg X.base CX k f fd ps sp) (hr : Room k X.A) (hb : Binds X.K fd ps ds) (hd : Vals dvs ds) (hx : Passes CX X E)
    (I : Inv X pins σ H s) (r : Vals vs us) (h : sp (vs ++ dvs) H Q E) : wpAny (model X.prog X.w) X.A (call (.ref f) us) (EP X pins σ Q) X.xe s := by
  have r2 : Vals (vs ++ dvs) (us ++ ds) := r.append hd
  have hl : (us ++ ds).length = ps.length := by rw [← r2.length]; exact F.len _ _ _ _ h
  refine wpAny_call (codeAny_mono (F.run X.A X.stack s H ⟨us, []⟩ (us ++ ds) (vs ++ dvs) Q E hr I.env0 (hb s us I.kIn hl) r2 h) fun r s' hq => ?_)
  cases r with
  | error e => exact hx pins σ H s e s' I hq
  | ok fl =>
    cases fl with
    | ret u => exact I.after hq
    | next => exact False.elim hq
    | brk => exact False.elim hq
    | cont => exact False.elim hq
theorem pe_call (F : FnOk X.prog X.w X.K X.mg X.base CX k f fd ps sp) (hr : Room k X.A) (hg : Gl X x) (hm : X.mg x = some (.ref f)) (hk : PySem.W.keepIn X.K (.ref f) = true) (hb : Binds X.K fd ps ds) (hd : Vals dvs ds) (hx : Passes CX X E)
    (ha : PA X (e :: es) t) (hdb : (x == ("__debug__" : Str)) = false := by decide) (he : starEach (e :: es) X.env = (false, eval e X.env) :: starEach es X.env := by rfl) (hpl : (backTo pos (starEach es X.env)).any (·.1) = false := by rfl) :
    PE X (.Call (.Name x p) (e :: es) [] pos) (tCall sp dvs E t) := by
  intro pins s σ H Q I h
  refine wpAny_Call_Name_kw (ld_glob I hg hm ?_ hdb)
  refine PySem.W.callWith_K (h₀ := X.base) I.ok.mod.kin hk (thn (ha pos pins s σ H _ I h) fun us s1 ⟨vs, H1, I1, r, q⟩ => ⟨I1.kIn, ?_⟩) he hpl
  exact run_fn F hr hb hd hx I1 r q
end
section
variable {X : Cx} {CX : CXT} {k : Nat} {f C : Addr} {fd : FuncData} {ps ks : List Str} {sp : Sp} {E : XK} {x m : Str} {p pos apos kpos : Pos} {e o : Expr} {es : List Expr} {kws : List Keyword} {te ta : TE} {t tk : TA} {nm : Option Str}
variable {g : List Value → List Value → List Value} {gV : List V → List V → List V}
end
structure FnScope (N P : List Str) (sc : Scope) : Prop where
  kind : sc.kind = .function
  co : sc.isCoroutine = false
  gen : sc.isGenerator = false
  nd : N.Nodup
  pre : N.take P.length = P
  par : ∀ x ∈ P, sc.names.lookup x = some .local ∨ sc.names.lookup x = some .cell
  nofree : ∀ y ∈ sc.names, y.2 ≠ .free
theorem bindL_out {kindOf : Str → Option NameKind} {x : Str} : ∀ {binds : List (Str × Value)} {m : Str → Option Value}, (∀ v, (x, v) ∉ binds) → bindL kindOf binds m x = m x
  | [], _, _ => rfl
  | (n, v) :: r, m, h => by
    unfold bindL
    rw [bindL_out fun w hw => h w (List.mem_cons_of_mem _ hw)]
    split
    · have : x ≠ n := by rintro rfl; exact h v List.mem_cons_self
      simp [this]
    · rfl
theorem bindC_out {kindOf : Str → Option NameKind} {x : Str} : ∀ {binds : List (Str × Value)} {m : Str → Option Value}, (∀ v, (x, v) ∉ binds) → bindC kindOf binds m x = m x
  | [], _, _ => rfl
  | (n, v) :: r, m, h => by
    unfold bindC
    rw [bindC_out fun w hw => h w (List.mem_cons_of_mem _ hw)]
    split
    · rfl
    · have : x ≠ n := by rintro rfl; exact h v List.mem_cons_self
      simp [this]
theorem bindL_get {kindOf : Str → Option NameKind} {x : Str} {v : Value} : ∀ {P : List Str} {vs : List Value} {i : Nat} {m : Str → Option Value}, P.Nodup → P[i]? = some x → vs[i]? = some v → kindOf x = some .local →
    bindL kindOf (P.zip vs) m x = some v
  | [], _, _, _, _, h, _, _ => by simp at h
  | _ :: _, [], _, _, _, _, h, _ => by simp at h
  | p :: P, w :: vs, 0, m, nd, h1, h2, hk => by
    simp at h1 h2; subst h1; subst h2
    show bindL kindOf ((p, w) :: P.zip vs) m p = _
    unfold bindL
    rw [bindL_out fun v hv => (List.nodup_cons.mp nd).1 (List.of_mem_zip hv).1, if_pos hk]
    simp
  | p :: P, w :: vs, i + 1, m, nd, h1, h2, hk => by
    show bindL kindOf ((p, w) :: P.zip vs) m x = _
    unfold bindL
    exact bindL_get (i := i) (List.nodup_cons.mp nd).2 (by simpa using h1) (by simpa using h2) hk
theorem bindC_get {kindOf : Str → Option NameKind} {x : Str} {v : Value} : ∀ {P : List Str} {vs : List Value} {i : Nat} {m : Str → Option Value}, P.Nodup → P[i]? = some x → vs[i]? = some v → kindOf x ≠ some .local →
    bindC kindOf (P.zip vs) m x = some v
  | [], _, _, _, _, h, _, _ => by simp at h
  | _ :: _, [], _, _, _, _, h, _ => by simp at h
  | p :: P, w :: vs, 0, m, nd, h1, h2, hk => by
    simp at h1 h2; subst h1; subst h2
    show bindC kindOf ((p, w) :: P.zip vs) m p = _
    unfold bindC
    rw [bindC_out fun v hv => (List.nodup_cons.mp nd).1 (List.of_mem_zip hv).1, if_neg hk]
    simp
  | p :: P, w :: vs, i + 1, m, nd, h1, h2, hk => by
    show bindC kindOf ((p, w) :: P.zip vs) m x = _
    unfold bindC
    exact bindC_get (i := i) (List.nodup_cons.mp nd).2 (by simpa using h1) (by simpa using h2) hk
def start (N : List Str) (vs : List V) : St := vs.map some ++ List.replicate (N.length - vs.length) none
def cxOf (CX : CXT) (P : Program) (w : World) (K : PySem.W.Frag) (mg : Str → Option Value) (base : Heap) (N : List Str) (qual : Str) (scope : Scope) (f : Addr) (cd : Value) (A : Around) (outer : List Env) (s : Shared) (H : Hp) (E : XK) : Cx where
  prog := P
  w := w
  K := K
  mg := mg
  base := base
  A := A.deeper (envOfC qual scope s.heap.objs.size f cd)
  N := N
  s₀ := s
  H₀ := H
  env := envOfC qual scope s.heap.objs.size f cd
  outer := outer
  stack := envOfC qual scope s.heap.objs.size f cd :: outer
  ex := []
  calm := true
  fn := fun _ => true
  pn := []
  xe := fun e s' => wpAny (model P w) (A.deeper (envOfC qual scope s.heap.objs.size f cd)) (leaving (envOfC qual scope s.heap.objs.size f cd) e) (fun _ s'' => CX outer H s E e s'') (fun e' s'' => CX outer H s E e' s'') s'
theorem cell_has {sc : Scope} {n : Nat} {x : Str} (h : sc.names.lookup x = some .cell) : ∃ c, (cellsFrom n sc.names []).lookup x = some c := by
  have q := PySem.W.cellsFrom_some sc.names n [] (.inl h)
  exact Option.isSome_iff_exists.mp q
theorem inv_start {CX : CXT} {P : Program} {w : World} {K : PySem.W.Frag} {mg : Str → Option Value} {base : Heap} {N ps : List Str} {qual : Str} {scope : Scope} {f : Addr} {cd : Value} {A : Around} {outer : List Env} {s s1 : Shared} {H : Hp} {E : XK} {us : List Value} {vs : List V}
    (S : FnScope N ps scope) (hd : A.handled = none) (e0 : Env0 P w K mg base A outer s H) (hl : vs.length = ps.length) (r : Vals vs us)
    (x : InCallC s s.heap.objs.size (bindL (envOfC qual scope s.heap.objs.size f cd).kindOf (ps.zip us) fun _ => none) (cellsFrom (s.heap.objs.size + 1) scope.names []) (bindC (envOfC qual scope s.heap.objs.size f cd).kindOf (ps.zip us) fun _ => none) s1) :
    Inv (cxOf CX P w K mg base N qual scope f cd A outer s H E) [] (start N vs) H s1 := by
  have hpl : ps.length ≤ N.length := by have := congrArg List.length S.pre; rw [List.length_take] at this; omega
  obtain ⟨h1, tk, rfl, hk⟩ := x.done
  have noA : ∀ b : Addr, b ∉ (cxOf CX P w K mg base N qual scope f cd A outer s H E).ex := fun b z => absurd (show b ∈ ([] : List Addr) from z) (by simp)
  refine ⟨⟨e0.mod, S.kind, rfl, rfl, Nat.le_refl _, fun y z c h1 h2 => ?_, fun y hy => ?_, fun y c _ h => ?_, fun _ => hd, Around.frames_deeper e0.frames, .inr ⟨rfl, rfl⟩, fun b z => absurd z (noA b), e0.bs, e0.bsz, fun b _ _ => noA b, fun b z => absurd z (noA b), e0.funs, e0.frf⟩,
    rfl, e0.bare, Un.kept hk, ⟨_, x.toInCall.ns, fun i y v h1 h2 h3 => ?_⟩, fun y c h => ⟨_, x.cell y c h⟩, e0.hok.fresh (Nat.le_refl _), fun y c h => ?_, fun p hp => absurd (show p ∈ ([] : List (Addr × Obj)) from hp) (by simp), e0.hok.kept hk, ?_⟩
  · exact name_of_addr x.apart (PySem.mem_of_lookup h1) (PySem.mem_of_lookup h2)
  · have hy : scope.names.lookup y = some .cell ∨ scope.names.lookup y = some .free := hy
    rcases hy with hy | hy
    · exact cell_has hy
    · exact absurd rfl (S.nofree _ (PySem.mem_of_lookup hy))
  · exact Nat.le_of_lt (x.above y c (PySem.mem_of_lookup h))
  · have hi : i < vs.length := by
      unfold start at h2
      by_cases hi : i < vs.length
      · exact hi
      · rw [List.getElem?_append_right (by simpa using hi)] at h2
        rw [List.getElem?_replicate] at h2
        split at h2 <;> cases h2
    have ha : vs[i]? = some v := by
      unfold start at h2
      rw [List.getElem?_append_left (by simpa using hi), List.getElem?_map] at h2
      cases e : vs[i]? with
      | none => rw [e] at h2; cases h2
      | some a => rw [e] at h2; cases h2; rfl
    obtain ⟨u, hu, rv⟩ := r.get ha
    have hp : ps[i]? = some y := by
      rw [← S.pre, List.getElem?_take_of_lt (by omega)]; exact h1
    have ndP : ps.Nodup := by rw [← S.pre]; exact S.nd.sublist (List.take_sublist _ _)
    refine ⟨u, rv, ?_⟩
    rcases S.par y (List.mem_of_getElem? hp) with k | k
    · exact .inl ⟨k, bindL_get ndP hp hu k⟩
    · obtain ⟨c, e⟩ := cell_has (n := s.heap.objs.size + 1) k
      refine .inr ⟨.inl k, c, e, ?_⟩
      have q := x.cell y c e
      rw [bindC_get ndP hp hu (by show scope.names.lookup y ≠ _; rw [k]; decide)] at q
      exact q
  · exact e0.hok.fresh (Nat.le_of_lt (x.above y c (PySem.mem_of_lookup h)))
  · unfold start
    show _ = N.length
    rw [List.length_append, List.length_map, List.length_replicate]
    omega
theorem fn_of {CX : CXT} {P : Program} {w : World} {K : PySem.W.Frag} {mg : Str → Option Value} {base : Heap} {k : Nat} {f : Addr} {name qual : Str} {params : Arguments} {body : List Stmt} {scope : Scope} {dV kV doc pm cdv ct oc : Value} {an od : Option Addr}
    {osl : Array (Option Value)} {N ps : List Str} {sp : Sp} (lk : K.lookup f = some ⟨oc, od, .func (PySem.W.fnOf name qual params body scope dV kV doc pm an cdv ct), osl⟩) (hcd : PySem.W.codeIn K cdv qual = true) (S : FnScope N ps scope)
    (len : ∀ vs H Q E, sp vs H Q E → vs.length = ps.length)
    (hbody : ∀ (A : Around) (outer : List Env) (s : Shared) (H : Hp) (vs : List V) (Q : VK) (E : XK), Room k (A.deeper (envOfC qual scope s.heap.objs.size f cdv)) → sp vs H Q E →
      ∃ t, PSs (cxOf CX P w K mg base N qual scope f cdv A outer s H E) body t ∧ t { nx := fun _ H' => Q .non H', rt := Q } (start N vs) H) :
    FnOk P w K mg base CX (k + 1) f (PySem.W.fnOf name qual params body scope dV kV doc pm an cdv ct) ps sp := by
  refine ⟨len, fun A outer s H args us vs Q E hr e0 hb r hsp => ?_⟩
  have hl := len _ _ _ _ hsp
  have KX : K.In s.heap := e0.mod.kin.keeps fun b o e => (e0.bs b o e).1
  have lim : s.heap.NoLimit := e0.mod.nolimit.keeps fun b o e => (e0.bs b o e).1
  have hkind : ∀ y ∈ ps.zip us, scope.names.lookup y.1 = some .local ∨ (scope.names.lookup y.1 = some .cell ∧ ((cellsFrom (s.heap.objs.size + 1) scope.names []).lookup y.1).isSome = true) := fun ⟨n, v⟩ hy => by
    rcases S.par n (List.of_mem_zip hy).1 with q | q
    · exact .inl q
    · exact .inr ⟨q, PySem.W.cellsFrom_some _ _ _ (.inl q)⟩
  refine codeAny_call_function hr.depth (KX _ _ lk) rfl S.co S.gen rfl (PySem.W.codeRec_of KX hcd) (hb _ _ _ _ ?_)
  refine wpAny_newFunctionEnv_cells S.kind hkind fun env he s1 x => ?_
  subst he
  refine ⟨lim.keeps x.toInCall.keep, codeAny_func ?_⟩
  obtain ⟨t, ht, hq⟩ := hbody A outer s H vs Q E (hr.deeper _) hsp
  have I : Inv (cxOf CX P w K mg base N qual scope f cdv A outer s H E) [] (start N vs) H s1 := inv_start S hr.hd e0 hl r x
  refine wpAny_mono (ht [] s1 (start N vs) H _ I hq) (fun fl s' hs => ?_) fun e s' hs => hs
  have fin : ∀ {σ' : St} {H' : Hp} {v : V} {u : Value}, Inv (cxOf CX P w K mg base N qual scope f cdv A outer s H E) [] σ' H' s' → RelV v u → Q v H' → CE outer P w H s Q u s' :=
    fun {σ' H' v u} J rv q => ⟨v, H', J.os, J.bare, J.base, J.hok, rv, q⟩
  cases fl with
  | ret u =>
    obtain ⟨v, σ', H', J, rv, q⟩ := hs
    exact fin J rv q
  | next =>
    obtain ⟨σ', H', J, q⟩ := hs
    exact fin (v := V.non) (u := Value.none) J rfl q
  | brk =>
    obtain ⟨_, _, _, q⟩ := hs
    exact False.elim q
  | cont =>
    obtain ⟨_, _, _, q⟩ := hs
    exact False.elim q
end L2
namespace L2
open PySem PySem.Spec PyProof.Rows
section
variable {X : Cx} {x : Str} {p pos : Pos} {e : Expr} {es : List Expr} {t : TA} {id T : String} {r : List V → Hp → VK → Prop}
def tCB (r : List V → Hp → VK → Prop) (t : TA) : TE := fun σ H Q => t σ H fun vs H1 => r vs H1 Q
theorem pe_callB (hc : CallR X (.builtin id) r) (hg : Gl X x) (hm : X.mg x = none) (hv : bootBuiltins x = some (.builtin id)) (ha : PA X (e :: es) t) (hn : x ≠ "__name__" := by decide) (hdb : (x == ("__debug__" : Str)) = false := by decide)
    (he : starEach (e :: es) X.env = (false, eval e X.env) :: starEach es X.env := by rfl) (hpl : (backTo pos (starEach es X.env)).any (·.1) = false := by rfl) : PE X (.Call (.Name x p) (e :: es) [] pos) (tCB r t) := by
  intro pins s σ H Q I h
  refine wpAny_Call_Name_kw (ld_blt I hg hm hv ?_ hn hdb)
  exact PyProof.Rows.callWith_builtin1 (thn (ha pos pins s σ H _ I h) fun us s1 ⟨vs, H1, I1, r1, q1⟩ => hc pins s1 σ H1 vs us Q I1 r1 q1) he hpl
theorem pe_callTy (hc : CallR X (.type T) r) (hg : Gl X x) (hm : X.mg x = none) (hv : bootBuiltins x = some (.type T)) (ha : PA X (e :: es) t) (hn : x ≠ "__name__" := by decide) (hdb : (x == ("__debug__" : Str)) = false := by decide)
    (he : starEach (e :: es) X.env = (false, eval e X.env) :: starEach es X.env := by rfl) (hpl : (backTo pos (starEach es X.env)).any (·.1) = false := by rfl) : PE X (.Call (.Name x p) (e :: es) [] pos) (tCB r t) := by
  intro pins s σ H Q I h
  refine wpAny_Call_Name_kw (ld_blt I hg hm hv ?_ hn hdb)
  exact PyProof.Rows.callWith_type1 (thn (ha pos pins s σ H _ I h) fun us s1 ⟨vs, H1, I1, r1, q1⟩ => hc pins s1 σ H1 vs us Q I1 r1 q1) he hpl
end
end L2
namespace HT
open PySem PyProof.Rows
section
open PySem.SeqAt
open PySem.AutoSeq1 (wpAny_loadPart')
open PySem.MeetsSeq PySem.MeetsSeq2 PySem.MeetsSeq3
end
section
variable {prog : Program} {w : World} {A : Around} {E : Value → Shared → Prop} {s : Shared}
def sIx (n d : Nat) : Option Int → Nat
  | none => d
  | some v => if v < 0 then (v + (n : Int)).toNat else min v.toNat n
theorem sIx_nat (n d k : Nat) : sIx n d (some (k : Int)) = min k n := by
  show (if (k : Int) < 0 then ((k : Int) + (n : Int)).toNat else min (k : Int).toNat n) = min k n
  rw [if_neg (by omega), Int.toNat_natCast]
end
end HT
namespace L2
open PySem PySem.Spec PyProof.Rows
abbrev TO := St → Hp → (Option Int → Hp → Prop) → Prop
def PO (X : Cx) (e : Option Expr) (t : TO) : Prop :=
  ∀ (pins : List (Addr × Obj)) (s : Shared) (σ : St) (H : Hp) (Q : Option Int → Hp → Prop), Inv X pins σ H s → t σ H Q →
    wpAny (model X.prog X.w) X.A (evalPart e X.env) (fun u s' => ∃ o H', Inv X pins σ H' s' ∧ IsPart u o ∧ Q o H') X.xe s
def tNoPart : TO := fun _ H Q => Q none H
def tPart (t : TE) : TO := fun σ H Q => t σ H fun x H1 => ∃ i, x = .int i ∧ Q (some i) H1
section
variable {X : Cx} {e : Expr} {te : TE} {lo hi : Option Expr} {tl th : TO} {pos p2 : Pos}
theorem po_none : PO X none tNoPart := by
  intro pins s σ H Q I h
  rw [evalPart_none]
  exact wpAny_pure ⟨none, H, I, .none, h⟩
theorem po_some (h : PE X e te) : PO X (some e) (tPart te) := by
  intro pins s σ H Q I hw
  rw [evalPart_some]
  refine thn (h pins s σ H _ I hw) fun u s1 ⟨x, H1, I1, r1, q1⟩ => ?_
  obtain ⟨i, rfl, q⟩ := q1
  obtain ⟨t, rfl⟩ := r1
  exact ⟨some i, H1, I1, .int i t, q⟩
def SlR (X : Cx) (r : V → Option Int → Option Int → Hp → VK → Prop) : Prop :=
  ∀ (pins : List (Addr × Obj)) (s : Shared) (σ : St) (H : Hp) (x : V) (v vl vu : Value) (lo hi : Option Int) (sl : Addr) (Q : VK), Inv X pins σ H s → RelV x v → s.heap.IsSliceOf sl vl vu .none → IsPart vl lo → IsPart vu hi → r x lo hi H Q →
    ∃ T id, typeLookup (.type T) "__getitem__" = pure (some (.builtin id)) ∧ s.TypeIs v T ∧ wpAny (model X.prog X.w) X.A (getItem v (.ref sl)) (EP X pins σ Q) X.xe s
theorem SlR.or {r r' : V → Option Int → Option Int → Hp → VK → Prop} (h : SlR X r) (h' : SlR X r') : SlR X (fun x lo hi H Q => r x lo hi H Q ∨ r' x lo hi H Q) := by
  intro pins s σ H x v vl vu lo hi sl Q I rx hs pl pu q
  rcases q with q | q
  · exact h pins s σ H x v vl vu lo hi sl Q I rx hs pl pu q
  · exact h' pins s σ H x v vl vu lo hi sl Q I rx hs pl pu q
def tSl (r : V → Option Int → Option Int → Hp → VK → Prop) (te : TE) (tl th : TO) : TE := fun σ H Q => te σ H fun x H1 => tl σ H1 fun l H2 => th σ H2 fun u H3 => r x l u H3 Q
theorem pe_slice {r : V → Option Int → Option Int → Hp → VK → Prop} (hr : SlR X r) (he : PE X e te) (hl : PO X lo tl) (hu : PO X hi th) : PE X (.Subscript e (.Slice lo hi none p2) pos) (tSl r te tl th) := by
  intro pins s σ H Q I h
  refine Subscript_ (thn (he pins s σ H _ I h) fun v s1 ⟨x, H1, I1, r1, q1⟩ => ?_)
  refine wpAny_Slice (thn (hl pins s1 σ H1 _ I1 q1) fun vl s2 ⟨l, H2, I2, pl, q2⟩ => thn (hu pins s2 σ H2 _ I2 q2) fun vu s3 ⟨u, H3, I3, pu, q3⟩ => ?_)
  rw [evalPart_none]
  refine wpAny_pure ?_
  have I4 : Inv X pins σ H3 { s3 with heap := s3.heap.push { cls := .type "slice", data := .fields #[vl, vu, .none] } } := I3.kept (t' := s3.toks) fun b ob q => Heap.get?_push_of_some _ q
  obtain ⟨T, id, hT, ht, hg⟩ := hr pins { s3 with heap := s3.heap.push { cls := .type "slice", data := .fields #[vl, vu, .none] } } σ H3 x v vl vu l u s3.heap.objs.size Q I4 r1 (Heap.IsSliceOf.new ..) pl pu q3
  show wpAny (model X.prog X.w) X.A (subscriptTail e (.Slice lo hi none p2) v (.ref s3.heap.objs.size)) (EP X pins σ Q) X.xe { s3 with heap := s3.heap.push { cls := .type "slice", data := .fields #[vl, vu, .none] } }
  exact tail_any (ops := [.ref s3.heap.objs.size, v]) ht hT hg (by with_unfolding_all rfl)
def cutV (xs : List V) (lo hi : Option Int) : List V := (xs.drop (HT.sIx xs.length 0 lo)).take (HT.sIx xs.length xs.length hi - HT.sIx xs.length 0 lo)
theorem cutV_length (xs : List V) (lo hi : Option Int) : (cutV xs lo hi).length ≤ xs.length := by
  unfold cutV
  rw [List.length_take, List.length_drop]
  omega
end
end L2
namespace L2
open PySem PySem.Spec PyProof.Rows
def ixN (n : Nat) (i : Int) : Option Nat := if 0 ≤ i then (if i < n then some i.toNat else none) else if -(n : Int) ≤ i then some (i + n).toNat else none
def atI {α : Type} (xs : List α) (i : Int) : Option α := (ixN xs.length i).bind fun j => xs[j]?
theorem ixN_seq {n : Nat} {i : Int} {j : Nat} (h : ixN n i = some j) : seqIndex? i n = some j ∧ j < n ∧ -(n : Int) ≤ i ∧ i < n := by
  unfold ixN at h
  by_cases h0 : 0 ≤ i
  · rw [if_pos h0] at h
    by_cases h1 : i < n
    · rw [if_pos h1] at h
      have e : i.toNat = j := Option.some.inj h
      exact ⟨by rw [seqIndex_of h0 h1, e], by omega, by omega, h1⟩
    · rw [if_neg h1] at h; cases h
  · rw [if_neg h0] at h
    by_cases h1 : -(n : Int) ≤ i
    · rw [if_pos h1] at h
      have e : (i + n).toNat = j := Option.some.inj h
      exact ⟨by rw [seqIndex_neg (by omega) h1, e], by omega, h1, by omega⟩
    · rw [if_neg h1] at h; cases h
theorem atI_get {α : Type} {xs : List α} {i : Int} {v : α} (h : atI xs i = some v) : ∃ j, seqIndex? i xs.length = some j ∧ xs[j]? = some v ∧ j < xs.length ∧ -(xs.length : Int) ≤ i ∧ i < xs.length := by
  unfold atI at h
  cases e : ixN xs.length i with
  | none => rw [e] at h; cases h
  | some j =>
    rw [e] at h
    obtain ⟨h1, h2, h3, h4⟩ := ixN_seq e
    exact ⟨j, h1, h, h2, h3, h4⟩
theorem atI_nat {α : Type} {xs : List α} {j : Nat} {v : α} (h : xs[j]? = some v) : atI xs (j : Int) = some v := by
  have hj : j < xs.length := (List.getElem?_eq_some_iff.mp h).1
  have e : ixN xs.length (j : Int) = some j := by
    unfold ixN
    rw [if_pos (by omega), if_pos (by omega)]; simp
  unfold atI; rw [e]; exact h
def PlainIx (b : Expr) : Prop := ∀ o i, subscripted b false o i = operate [o, i] (getItem o i)
def IxR (X : Cx) (r : R2) : Prop :=
  ∀ (value slice : Expr) (pins : List (Addr × Obj)) (s : Shared) (σ : St) (H : Hp) (x y : V) (v u : Value) (Q : VK), Inv X pins σ H s → RelV x v → RelV y u → r x y H Q →
    subscripted slice false v u = operate [v, u] (getItem v u) → wpAny (model X.prog X.w) X.A (subscriptTail value slice v u) (EP X pins σ Q) X.xe s
def MtR (X : Cx) (id : String) (r : V → List V → Hp → VK → Prop) : Prop :=
  ∀ (pins : List (Addr × Obj)) (s : Shared) (σ : St) (H : Hp) (x : V) (xs : List V) (v : Value) (us : List Value) (Q : VK), Inv X pins σ H s → RelV x v → Vals xs us → r x xs H Q →
    wpAny (model X.prog X.w) X.A (call (.builtin id) (v :: us)) (EP X pins σ Q) X.xe s
section
variable {X : Cx} {a b : Expr} {ta tb : TE} {pos : Pos}
theorem IxR.or {r r' : R2} (h : IxR X r) (h' : IxR X r') : IxR X (fun x y H Q => r x y H Q ∨ r' x y H Q) := by
  intro value slice pins s σ H x y v u Q I rx ry q hs
  rcases q with q | q
  · exact h value slice pins s σ H x y v u Q I rx ry q hs
  · exact h' value slice pins s σ H x y v u Q I rx ry q hs
theorem MtR.or {id : String} {r r' : V → List V → Hp → VK → Prop} (h : MtR X id r) (h' : MtR X id r') : MtR X id (fun x xs H Q => r x xs H Q ∨ r' x xs H Q) := by
  intro pins s σ H x xs v us Q I rx rs q
  rcases q with q | q
  · exact h pins s σ H x xs v us Q I rx rs q
  · exact h' pins s σ H x xs v us Q I rx rs q
theorem pe_ix {r : R2} (hr : IxR X r) (ha : PE X a ta) (hb : PE X b tb) (hs : PlainIx b) : PE X (.Subscript a b pos) (tOp r ta tb) := by
  intro pins s σ H Q I h
  exact Subscript_ (binT ha hb I h fun v u s2 x y H2 I2 rx ry q => hr a b pins s2 σ H2 x y v u Q I2 rx ry q (hs _ _))
def rIxL (K : PySem.W.Frag) : R2 := fun x y H Q => ∃ p xs i v, x = .ref p ∧ y = .int i ∧ SqL K H p xs ∧ atI xs i = some v ∧ Q v H
def rIxT (K : PySem.W.Frag) : R2 := fun x y H Q => ∃ p xs i v, x = .ref p ∧ y = .int i ∧ SqT K H p xs ∧ atI xs i = some v ∧ Q v H
def rIxS : R2 := fun x y H Q => ∃ z i c, x = .str z ∧ y = .int i ∧ z.length ≤ sizeLine ∧ atI z.cps.toList i = some c ∧ Q (.str ⟨#[c]⟩) H
theorem ix_list : IxR X (rIxL X.K) := by
  intro value slice pins s σ H x y v u Q I rx ry h hs
  obtain ⟨p, xs, i, z, rfl, rfl, hq, he, q⟩ := h
  cases rx
  obtain ⟨t, rfl⟩ := ry
  obtain ⟨its, r, pl, hz⟩ := I.list hq
  obtain ⟨j, h1, h2, h3, h4, h5⟩ := atI_get he
  obtain ⟨w, ew, rw'⟩ := r.get h2
  have hl := r.length
  have hn := line63
  have fin : EP X pins σ Q w s := ⟨z, H, I, rw', q⟩
  by_cases h0 : 0 ≤ i
  · have hj : i.toNat = j := by
      rw [seqIndex_of h0 h5] at h1
      exact Option.some.inj h1
    exact item_listR pl.isList h0 (by omega) (by rw [hj]; simpa using ew) fin hs
  · have hj : (i + (its.toArray.size : Int)).toNat = j := by
      rw [seqIndex_neg (by omega) h4] at h1
      rw [List.size_toArray, ← hl]
      exact Option.some.inj h1
    exact subscriptTail_builtinR (x := w) pl.isList.typeIs slot_list_getitem.lookup
      (wpAny_getItem_list_neg (Q := fun r s' => r = w ∧ EP X pins σ Q r s') pl.isList (by omega) (by rw [List.size_toArray] <;> omega) (by omega) (by rw [hj]; simpa using ew) ⟨rfl, fin⟩) hs
theorem ix_tup : IxR X (rIxT X.K) := by
  intro value slice pins s σ H x y v u Q I rx ry h hs
  obtain ⟨p, xs, i, z, rfl, rfl, hq, he, q⟩ := h
  cases rx
  obtain ⟨t, rfl⟩ := ry
  obtain ⟨its, r, pl, hz⟩ := I.tuple hq
  obtain ⟨j, h1, h2, h3, h4, h5⟩ := atI_get he
  obtain ⟨w, ew, rw'⟩ := r.get h2
  have hl := r.length
  have hn := line63
  have fin : EP X pins σ Q w s := ⟨z, H, I, rw', q⟩
  exact subscriptTail_builtinR (x := w) pl.typeIs slot_tuple_getitem.lookup
    (getItem_tuple (j := j) (Q := fun r s' => r = w ∧ EP X pins σ Q r s') pl (by omega) (by omega) (by rw [List.size_toArray, ← hl]; exact h1) (by simpa using ew) ⟨rfl, fin⟩) hs
theorem ix_str : IxR X rIxS := by
  intro value slice pins s σ H x y v u Q I rx ry h hs
  obtain ⟨z, i, c, rfl, rfl, hz, he, q⟩ := h
  obtain ⟨t, rfl⟩ := rx
  obtain ⟨t', rfl⟩ := ry
  obtain ⟨j, h1, h2, h3, h4, h5⟩ := atI_get he
  have hl : z.cps.toList.length = z.length := by simp [Str.length]
  rw [hl] at h1 h4 h5
  have hn := line63
  exact tail_any (typeIs_str s z t) slot_str_getitem.lookup (getItem_str (c := c) (by
    have e1 : decide (i < -(2 ^ 63 : Int)) = false := decide_eq_false (by omega)
    have e2 : decide (i ≥ 2 ^ 63) = false := decide_eq_false (by omega)
    rw [e1, e2, Bool.or_false]) (by rw [h1]; simpa using h2) ⟨.str ⟨#[c]⟩, H, I.tok _, ⟨_, rfl⟩, q⟩) hs
theorem Inv.lst {pins : List (Addr × Obj)} {σ : St} {H : Hp} {s : Shared} {p : Addr} {xs : List V} (I : Inv X pins σ H s) (h : H p = some (.lst xs)) :
    ∃ (its : List Value) (n : Nat), Vals xs its ∧ s.heap.get? p = some { cls := .type "list", data := .seq its.toArray n } ∧ xs.length ≤ sizeLine := by
  obtain ⟨z, its, n, r, e⟩ := I.hok p _ h
  exact ⟨its, n, r, e, z⟩
theorem slice_bounds (lo hi : Option Int) (n : Nat) : (sliceBounds lo hi none n).1 = ((HT.sIx n 0 lo : Nat) : Int) ∧ (sliceBounds lo hi none n).2.1 = ((HT.sIx n n hi : Nat) : Int) ∧ (sliceBounds lo hi none n).2.2 = 1 := by
  refine ⟨?_, ?_, rfl⟩
  · cases lo with
    | none => simp [sliceBounds, HT.sIx]
    | some i =>
      simp only [sliceBounds, HT.sIx, Option.getD_none, show (1 : Int) > 0 by decide, if_true]
      by_cases h : i < 0
      · simp only [h, if_true] <;> omega
      · simp only [h, if_false] <;> omega
  · cases hi with
    | none => simp [sliceBounds, HT.sIx]
    | some i =>
      simp only [sliceBounds, HT.sIx, Option.getD_none, show (1 : Int) > 0 by decide, if_true]
      by_cases h : i < 0
      · simp only [h, if_true] <;> omega
      · simp only [h, if_false] <;> omega
theorem slicePick_cut (its : List Value) (lo hi : Option Int) : slicePick its.toArray lo hi none = ((its.drop (HT.sIx its.length 0 lo)).take (HT.sIx its.length its.length hi - HT.sIx its.length 0 lo)).toArray := by
  obtain ⟨h1, h2, h3⟩ := slice_bounds lo hi its.toArray.size
  unfold slicePick
  rw [h1, h2, h3]
  simp only [sliceRange_one, pick_run, List.size_toArray] <;> rfl
def rSlL (K : PySem.W.Frag) : V → Option Int → Option Int → Hp → VK → Prop := fun x lo hi H Q => ∃ a xs, x = .ref a ∧ SqL K H a xs ∧ ∀ p, H p = none → Q (.ref p) (upd H p (.lst (cutV xs lo hi)))
theorem sl_list : SlR X (rSlL X.K) := by
  intro pins s σ H x v vl vu lo hi sl Q I rx hs pl pu h
  obtain ⟨a, xs, rfl, hx, q⟩ := h
  cases rx
  obtain ⟨its, r, ht, hz⟩ := I.list hx
  have hlen := r.length
  refine ⟨"list", _, slot_list_getitem.lookup, ht.isList.typeIs, ?_⟩
  refine wpAny_getItem_list_slice ht.isList hs pl pu .none (by simp) ?_ (by rw [List.size_toArray] <;> omega)
  rw [slicePick_cut, ← hlen]
  refine ⟨.ref s.heap.objs.size, _, I.laid (t' := s.toks) (o := .lst (cutV xs lo hi)) (fun b ob q => Heap.get?_push_of_some _ q) (Nat.le_refl _) ?_, rfl, q _ (I.hok.fresh (Nat.le_refl _))⟩
  exact ⟨Nat.le_trans (cutV_length xs lo hi) hz, _, 0, (r.drop (HT.sIx xs.length 0 lo)).take (HT.sIx xs.length xs.length hi - HT.sIx xs.length 0 lo), Heap.get?_push_size _ rfl⟩
theorem op_notIn_str : OpR X (compareOp .NotIn) (fun x y H Q => ∃ i j, x = .str i ∧ y = .str j ∧ Q (.bl (!(!(Builtin.Str.occurrences j i 0 j.length 1).isEmpty))) H) := by
  intro pins s σ H x y v u Q I rx ry h
  obtain ⟨i, j, rfl, rfl, q⟩ := h
  obtain ⟨t, rfl⟩ := rx
  obtain ⟨t', rfl⟩ := ry
  exact notIn_str ⟨.bl _, H, I, rfl, q⟩
theorem call_len_seq : CallR X (.builtin "len") (fun xs H Q => ∃ p ys, xs = [.ref p] ∧ (SqL X.K H p ys ∨ SqT X.K H p ys) ∧ Q (.int ys.length) H) := by
  intro pins s σ H xs us Q I r h
  obtain ⟨p, ys, rfl, hq, q⟩ := h
  obtain ⟨u, rfl, rx⟩ := vals1 r
  cases rx
  have hn := line63
  rcases hq with hq | hq
  · obtain ⟨its, r', pl, hz⟩ := I.list hq
    have hlen := r'.length
    exact Calls.call_len_list pl.isList (by simp only [List.size_toArray] <;> omega) ⟨.int ys.length, H, I.tok _, ⟨s.toks + 1, by rw [List.size_toArray, hlen]⟩, q⟩
  · obtain ⟨its, r', pl, hz⟩ := I.tuple hq
    have hlen := r'.length
    exact len_tuple pl (by simp only [List.size_toArray] <;> omega) ⟨.int ys.length, H, I.tok _, ⟨s.toks + 1, by rw [List.size_toArray, hlen]⟩, q⟩
theorem call_len_str : CallR X (.builtin "len") (fun xs H Q => ∃ z, xs = [.str z] ∧ z.length ≤ sizeLine ∧ Q (.int z.length) H) := by
  intro pins s σ H xs us Q I r h
  obtain ⟨z, rfl, hz, q⟩ := h
  obtain ⟨u, rfl, t, rfl⟩ := vals1 r
  have hn := line63
  exact len_str (by omega) ⟨.int z.length, H, I.tok _, ⟨_, rfl⟩, q⟩
theorem CallR.or {f : Value} {r r' : List V → Hp → VK → Prop} (h : CallR X f r) (h' : CallR X f r') : CallR X f (fun xs H Q => r xs H Q ∨ r' xs H Q) := by
  intro pins s σ H xs us Q I rs q
  rcases q with q | q
  · exact h pins s σ H xs us Q I rs q
  · exact h' pins s σ H xs us Q I rs q
def tyV (K : PySem.W.Frag) (T : String) (x : V) (H : Hp) : Prop := match x with
  | .str _ => T = "str"
  | .int _ => T = "int"
  | .ref p => (T = "list" ∧ ∃ xs, SqL K H p xs) ∨ (T = "tuple" ∧ ∃ o, K.lookup p = some o ∧ o.cls = .type "tuple" ∧ o.dict = none) ∨
      (T = "dict" ∧ ((∃ kvs, H p = some (.dK kvs)) ∨ ∃ kvs, H p = some (.dT kvs))) ∨ (T = "set" ∧ ∃ S n, H p = some (.set S n))
  | _ => False
theorem tyV_is {pins : List (Addr × Obj)} {σ : St} {H : Hp} {s : Shared} {T : String} {x : V} {v : Value} (I : Inv X pins σ H s) (r : RelV x v) (ty : tyV X.K T x H) :
    s.TypeIs v T ∧ ∀ a, v = .ref a → ∃ ob, s.heap.get? a = some ob ∧ ob.dict = none := by
  cases x with
  | str z =>
    obtain ⟨t, rfl⟩ := r
    cases (show T = "str" from ty)
    exact ⟨typeIs_str s z t, fun _ e => nomatch e⟩
  | int i =>
    obtain ⟨t, rfl⟩ := r
    cases (show T = "int" from ty)
    exact ⟨typeIs_int s i t, fun _ e => nomatch e⟩
  | ref p =>
    cases r
    rcases ty with ⟨rfl, xs, hq⟩ | ⟨rfl, o, hk, hc, hd⟩ | ⟨rfl, hk⟩ | ⟨rfl, S, n, hk⟩
    · obtain ⟨its, _, pl, _⟩ := I.list hq
      refine ⟨pl.isList.typeIs, fun a e => ?_⟩
      cases e
      obtain ⟨o, n, e, c, hd, _⟩ := pl
      exact ⟨o, e, hd⟩
    · refine ⟨⟨o, I.kIn p o hk, hc⟩, fun a e => ?_⟩
      cases e
      exact ⟨o, I.kIn _ o hk, hd⟩
    · have z : ∃ o, s.heap.get? p = some o ∧ o.ExactDict := by
        rcases hk with ⟨kvs, hk⟩ | ⟨kvs, hk⟩
        · obtain ⟨_, _, _, _, o, _, _, e, ex, _⟩ := I.hok p _ hk
          exact ⟨o, e, ex⟩
        · obtain ⟨_, _, _, _, o, _, _, e, ex, _⟩ := I.hok p _ hk
          exact ⟨o, e, ex⟩
      obtain ⟨o, e, ex⟩ := z
      refine ⟨⟨o, e, ex.1⟩, fun a e2 => ?_⟩
      cases e2
      exact ⟨o, e, ex.2.1⟩
    · obtain ⟨o, _, _, _, e, ex, _⟩ := I.hok p _ hk
      refine ⟨⟨o, e, ex.1⟩, fun a e2 => ?_⟩
      cases e2
      exact ⟨o, e, ex.2.1⟩
  | _ => exact False.elim ty
def tBM (K : PySem.W.Frag) (T : String) (r : V → List V → Hp → VK → Prop) (to : TE) (t : TA) : TE := fun σ H Q => to σ H fun x H1 => tyV K T x H1 ∧ t σ H1 fun xs H2 => r x xs H2 Q
variable {o e : Expr} {es : List Expr} {to : TE} {t : TA} {name : Str} {apos cpos : Pos} {T id : String} {r : V → List V → Hp → VK → Prop}
theorem pe_bm (pa : PlainAttrs T) (slot : Slot T name id) (hty : typeOf (.builtin id) = pure (.type "method_descriptor")) (hm : MtR X id r) (ho : PE X o to) (ha : PA X (e :: es) t)
    (hbase : attributeBase o name X.env (eval o X.env) = eval o X.env := by rfl)
    (hfew : ((backTo cpos (starEach (e :: es) X.env)).all (fun x => !x.1) && (backToKw cpos (keywordEach [] X.env)).all (fun x => x.1.isSome)
      && decide ((e :: es).length + ([] : List Keyword).length + (if ([] : List Keyword).isEmpty then 0 else 1) < 30)) = true := by rfl)
    (hline : (apos.endLine == cpos.line) = true := by rfl) (hs : starEach (e :: es) X.env = (false, eval e X.env) :: starEach es X.env := by rfl) (hplain : (backTo cpos (starEach es X.env)).any (·.1) = false := by rfl) :
    PE X (.Call (.Attribute o name apos) (e :: es) [] cpos) (tBM X.K T r to t) := by
  intro pins s σ H Q I h
  refine wpAny_Call_method_late hbase hfew hline rfl (thn (ho pins s σ H _ I h) fun v s1 ⟨x, H1, I1, r1, ty, q1⟩ => ?_)
  obtain ⟨h1, h2⟩ := tyV_is I1 r1 ty
  refine ⟨T, id, pa, slot, hty, h1, h2, ?_⟩
  have hA := ha cpos pins s1 σ H1 _ I1 q1
  rw [hs] at hA ⊢
  refine Calls.callWith_builtin (by show (false || (backTo cpos (starEach es X.env)).any (·.1)) = false; rw [hplain] <;> rfl) (Calls.evalArgs_plain ?_)
  exact thn hA fun us s2 ⟨vs, H2, I2, r2, q2⟩ => hm pins s2 σ H2 x vs v us Q I2 r1 r2 q2
/- xs.append(e), list.index on a module's tuple .. are MtR facts of 06m -/
end
end L2
namespace L2
open PySem PySem.Spec PyProof.Rows
def MtM (X : Cx) (id : String) (r : V → List V → Hp → VK → Prop) : Prop :=
  ∀ (pins : List (Addr × Obj)) (s : Shared) (σ : St) (H : Hp) (x : V) (xs : List V) (v : Value) (us : List Value) (Q : VK), Inv X pins σ H s → RelV x v → Vals xs us → r x xs H Q →
    wpAny (model X.prog X.w) X.A (call (.builtin id) (v :: us)) (EP X pins σ Q) X.xe s
theorem Vals.one : ∀ {x : V} {us : List Value}, Vals [x] us → ∃ u, us = [u] ∧ RelV x u
  | _, _, .cons r .nil => ⟨_, rfl, r⟩
theorem Vals.two : ∀ {x y : V} {us : List Value}, Vals [x, y] us → ∃ u v, us = [u, v] ∧ RelV x u ∧ RelV y v
  | _, _, _, .cons r (.cons q .nil) => ⟨_, _, rfl, r, q⟩
theorem Vals.zero : ∀ {us : List Value}, Vals [] us → us = []
  | _, .nil => rfl
theorem Vals.reverse {xs : List V} {us : List Value} (h : Vals xs us) : Vals xs.reverse us.reverse := by
  induction h with
  | nil => exact .nil
  | cons r t ih => rw [List.reverse_cons, List.reverse_cons]; exact Vals.append ih (.cons r .nil)
theorem Vals.rep {xs : List V} {us : List Value} (h : Vals xs us) : ∀ k : Nat, Vals (List.replicate k xs).flatten (List.replicate k us).flatten
  | 0 => .nil
  | k + 1 => by
    rw [List.replicate_succ, List.replicate_succ, List.flatten_cons, List.flatten_cons]
    exact Vals.append h (Vals.rep h k)
theorem foldl_rep (its : List Value) : ∀ (k : Nat) (acc : List Value),
    List.foldl (fun x1 x2 => x1 ++ x2) acc.toArray (List.replicate k its.toArray) = (acc ++ (List.replicate k its).flatten).toArray
  | 0, acc => by simp
  | k + 1, acc => by
    have e : acc.toArray ++ its.toArray = (acc ++ its).toArray := by simp
    have e2 : (acc ++ its) ++ (List.replicate k its).flatten = acc ++ (List.replicate (k + 1) its).flatten := by
      rw [List.replicate_succ, List.flatten_cons, List.append_assoc]
    rw [← e2, ← foldl_rep its k (acc ++ its), ← e, List.replicate_succ, List.foldl_cons]
section
variable {X : Cx} {pins : List (Addr × Obj)} {σ : St} {H : Hp} {s : Shared} {l b : Addr} {xs ys zs : List V}
theorem Inv.lset {its its' : List Value} {n : Nat} {f : Array Value → Array Value} {t' : Nat} (I : Inv X pins σ H s) (hH : H l = some (.lst xs))
    (e : s.heap.get? l = some { cls := .type "list", data := .seq its.toArray n }) (hf : f its.toArray = its'.toArray) (hv : Vals ys its') (hz : ys.length ≤ sizeLine) :
    Inv X pins σ (upd H l (.lst ys)) { s with heap := s.heap.update l (Obj.mapSeq f), toks := t' } := by
  have q := PySem.IsL.update e f
  rw [hf] at q
  refine I.write (x := l) (e := l) (by rw [hH]; exact trivial) (.inl rfl) (fun b' u hb hu => (Heap.get?_update_other s.heap (Obj.mapSeq f) (Ne.symm hb)).trans hu) ⟨_, q⟩ ?_
  exact ⟨hz, its', _, hv, q⟩
theorem Inv.lnew {its : List Value} {t' : Nat} (I : Inv X pins σ H s) (hv : Vals ys its) (hz : ys.length ≤ sizeLine) :
    Inv X pins σ (upd H s.heap.objs.size (.lst ys)) { s with heap := s.heap.push { cls := .type "list", data := .seq its.toArray }, toks := t' } :=
  I.laid (fun _ _ q => Heap.get?_push_of_some _ q) (Nat.le_refl _) ⟨hz, its, 0, hv, Heap.get?_push_size _ rfl⟩
theorem Inv.fresh (I : Inv X pins σ H s) : H s.heap.objs.size = none := I.hok.fresh (Nat.le_refl _)
theorem Inv.lstM (I : Inv X pins σ H s) (hH : H l = some (.lst xs)) : xs.length ≤ sizeLine ∧ ∃ (its : List Value) (n : Nat), Vals xs its ∧ xs.length = its.length ∧ s.heap.get? l = some { cls := .type "list", data := .seq its.toArray n } := by
  obtain ⟨z, its, n, r, e⟩ := I.hok l _ hH
  exact ⟨z, its, n, r, r.length, e⟩
theorem notLongL {n : Nat} (h : n ≤ sizeLine) : Builtin.List.listTooLong n = false := by
  unfold Builtin.List.listTooLong
  exact decide_eq_false (by omega)
end
section
variable {X : Cx}
def rAppend : V → List V → Hp → VK → Prop := fun x vs H Q => ∃ l xs y, x = .ref l ∧ vs = [y] ∧ H l = some (.lst xs) ∧ xs.length < sizeLine ∧ Q .non (upd H l (.lst (xs ++ [y])))
theorem mt_append : MtM X "list.append" rAppend := by
  intro pins s σ H x vs v us Q I rx rv h
  obtain ⟨l, xs, y, rfl, rfl, hH, hz, q⟩ := h
  cases rx
  obtain ⟨u, rfl, ru⟩ := rv.one
  obtain ⟨z, its, n, r, hl, e⟩ := I.lstM hH
  refine call_meets F.slot_list_append ⟨_, e, rfl⟩ F.entry_list_append (F.args_list_append_2 _ _) (PySem.list_append l its.toArray n u (by rw [List.size_toArray]; omega)) ⟨e, ?_⟩
  refine ⟨.non, _, I.lset (its' := its ++ [u]) hH e (by simp) (r.append (.cons ru .nil)) ?_, rfl, q⟩
  rw [List.length_append, List.length_singleton]
  omega
def rRep : R2 := fun x y H Q => ∃ l k xs, x = .ref l ∧ y = .int k ∧ H l = some (.lst xs) ∧ -(2 ^ 63) ≤ k ∧ k < 2 ^ 63 ∧ xs.length * k.toNat ≤ sizeLine ∧
  ∀ p, H p = none → Q (.ref p) (upd H p (.lst (List.replicate k.toNat xs).flatten))
theorem len_rep {α : Type} (xs : List α) (k : Nat) : (List.replicate k xs).flatten.length = k * xs.length := by
  induction k with
  | zero => simp
  | succ k ih => rw [List.replicate_succ, List.flatten_cons, List.length_append, ih, Nat.succ_mul, Nat.add_comm]
theorem op_rep : OpR X (binaryOp .Mult) rRep := by
  intro pins s σ H x y v u Q I rx ry h
  obtain ⟨l, k, xs, rfl, rfl, hH, h1, h2, hz, q⟩ := h
  cases rx
  obtain ⟨t, rfl⟩ := ry
  obtain ⟨z, its, n, r, hl, e⟩ := I.lstM hH
  have hlen : its.toArray.size * k.toNat ≤ sizeLine := by rw [List.size_toArray, ← hl]; exact hz
  have hcap : ¬ its.toArray.size * k.toNat > (2 ^ 63 - 1) / 8 := by
    have : (sizeLine : Nat) ≤ (2 ^ 63 - 1) / 8 := by decide
    omega
  have hfit : ¬ (!Builtin.List.listFitsIndex k) = true := by
    rw [fitsIndex_both h1 h2]
    exact Bool.false_ne_true
  have hlong : ¬ Builtin.List.listTooLong (its.toArray.size * k.toNat) = true := by
    rw [notLongL hlen]
    exact Bool.false_ne_true
  have hnew : List.foldl (fun x1 x2 => x1 ++ x2) #[] (List.replicate (if its.toArray.isEmpty = true then 0 else k.toNat) its.toArray) = (List.replicate k.toNat its).flatten.toArray := by
    have f0 : ∀ m : Nat, List.foldl (fun x1 x2 => x1 ++ x2) #[] (List.replicate m its.toArray) = (List.replicate m its).flatten.toArray := fun m => by
      have := foldl_rep its m []
      rw [List.nil_append] at this
      exact this
    rw [f0]
    cases its with
    | nil => simp
    | cons a r' => rw [if_neg (by simp)]
  refine wpAny_binaryOp_repeat_ref (T := "list") (U := "int") (by decide) ⟨_, e, rfl⟩ (fun s' => typeIs_int s' k t) noFill_list_mul F.fills_int_mul F.slot_int_rmul repeat_list F.slot_int_index.lookup
    (call_meets F.slot_int_rmul (typeIs_int s k t) F.entry_int_rmul (F.args_int_rmul_2 _ _) (int___rmul___int_list k t l its.toArray n)
      ⟨e, rfl, ⟨_, e, rfl⟩, call_meets F.slot_list_mul ⟨_, e, rfl⟩ F.entry_list_mul (F.args_list_mul_2 _ _) (AutoListH.list___mul___list_int_3 l its.toArray n k t hfit hcap hlong) ⟨e, ?_⟩⟩)
  rw [hnew]
  exact ⟨.ref _, _, I.lnew (t' := s.toks) (r.rep k.toNat) (by rw [len_rep, Nat.mul_comm]; exact hz), rfl, q _ I.fresh⟩
end
section
variable {prog : Program} {w : World} {A : Around} {E : Value → Shared → Prop} {s : Shared}
end
section
variable {X : Cx}
end
end L2
namespace Att
open PySem PySem.W PySem.Calls PyProof.Rows
theorem ints_of_wellAll {P : Params} {h : Heap} : ∀ (ns : List Int) (vs : List Value), WellAll P h vs (ns.map WData.int) → IntsAre vs ns := by
  intro ns
  induction ns with
  | nil =>
    intro vs w
    rw [List.map_nil] at w
    cases w
    exact .nil
  | cons n ns ih =>
    intro vs w
    rw [List.map_cons] at w
    cases w with
    | cons a b =>
      cases a
      exact .cons _ _ (ih _ b)
theorem script_of {l : OpenLaw} {n : Nat} (hn : l.most = some n) {P : Params} {h : Heap} {args : List WData} {vals : List Value}
    (hpre : l.row.toRowW.claim.pre args = true) (hwl : WellAll P h vals args) :
    ∃ a vs ns, vals = [Value.ref a] ∧ args = [WData.list (ns.map WData.int)] ∧ h.get? a = some { cls := .type "list", data := .seq vs.toArray } ∧ IntsAre vs ns ∧ ns.length ≤ n := by
  have hsh : WShape.hasAll [] args [.list .int] = true := (pre_splitW hpre).1
  have hc : l.pre.holds [] { args := args } = true := (pre_splitW hpre).2
  obtain ⟨d, r, rfl, h1, h2⟩ := hasAllW_cons hsh
  obtain rfl := hasAllW_nil h2
  obtain ⟨xs, rfl, h3⟩ := hasW_list h1
  obtain ⟨ns, rfl⟩ := items_int h3
  have hlen : ns.length ≤ n := by
    unfold OpenLaw.pre at hc
    have h4 : (WTm.not (.lt (.lit (.int (n : Int))) (.len (.arg 0)))).holds [] { args := [.list (ns.map .int)] } = true := by
      have h4 := (holds_andW hc).1
      rw [hn] at h4
      exact h4
    have h5 := condW_of h4 (w_not (w_lt w_lit (w_len_list (w_arg rfl))))
    rw [List.length_map] at h5
    refine Nat.le_of_not_lt fun q => ?_
    have q' : (n : Int) < ((ns.length : Nat) : Int) := by omega
    first
      | (rw [decide_eq_true q'] at h5; exact absurd h5 (by decide))
      | (simp at h5; omega)
  cases hwl with
  | cons w1 w2 =>
    cases w2
    cases w1 with
    | list ho hall => exact ⟨_, _, ns, rfl, rfl, ho, ints_of_wellAll ns _ hall, hlen⟩
theorem post_true (l : OpenLaw) (args : List WData) : l.row.toRowW.claim.post args (.bool true) args = true :=
  postW_of (r := l.row.toRowW) (X := (true == true))
    (show WShape.has [] (.bool true) .bool = true by first | rfl | decide | simp [WShape.has, WShape.arms, WShape.armsAll])
    (show (WTm.eq .res (.lit (.bool true))).value [] { args := args, res := some (.bool true), after := args } = some (.bool (true == true)) from w_eq_bool (w_res rfl) w_lit) rfl
theorem attach_call {l : OpenLaw} {n : Nat} {q : Program} {loose : List Str} {XP : (Str → Option Value) → Heap → Prop} {YP : World → Heap → Prop} {d : DefRec}
    (hn : l.most = some n) (hdf : d.params.defaults = [])
    (call : ∀ (w : World) (s₀ s₁ : Shared) (mg mb : Str → Option Value) (fa : Addr) (o : Obj) (pm cd doc : Value) (a : Addr) (vs : List Value) (ns : List Int),
      Ground q loose [] XP w s₀ mg mb s₁.heap → YP w s₁.heap →
      s₁.heap.get? fa = some o → o.data = .func (docDef d.name d.params d.body d.scope pm cd doc) → s₁.heap.CodeRec cd d.name → mg d.name = some (.ref fa) →
      s₁.heap.get? a = some { cls := .type "list", data := .seq vs.toArray } → IntsAre vs ns → ns.length ≤ n → s₁.gens = #[] →
      codeAny (model l.prog w) callerA (.call (.ref fa) ⟨[.ref a], []⟩) (fun r s' => r = .ok (.ret (.bool true)) ∧ OldK s₁.heap s'.heap ∧ s'.os = s₁.os ∧ AllBare s'.gens) s₁) :
    WalkO q loose XP YP l.row.toRowW d [] (fun f vs => PySem.call f vs) := by
  intro w s₀ s₁ mg mb G Y fa o pm cd doc dV kV ho hd hcd hD hmg hg args vals as hpre hlay hrd hwl hlo
  obtain rfl : dV = .none := Dflts.none hD hdf
  obtain rfl : kV = .none := Dflts.noKw hD
  obtain ⟨a, vs, ns, rfl, rfl, hobj, hints, hlen⟩ := script_of hn hpre hwl
  refine enter_call (codeAny_mono (call w s₀ s₁ mg mb fa o pm cd doc a vs ns G Y ho (fd_plain hd) hcd hmg hobj hints hlen hg) fun r s' hq => ?_)
  obtain ⟨rfl, h2, h3, h4⟩ := hq
  exact ⟨.inl ⟨.bool true, .bool true, [], rfl, fun _ => rfl, .bool true, post_true l _, fun _ => ⟨List.Pairwise.nil, fun _ hm => (nomatch hm)⟩⟩, h2, h3, h4⟩
section
variable {prog : Program} {w : World} {A : Around} {E : Value → Shared → Prop} {s : Shared} {K : Frag}
end
end Att
namespace L2
open PySem PySem.Spec PyProof.Rows
theorem vals_ints : ∀ {vs : List Value} {ns : List Int}, IntsAre vs ns → Vals (ns.map V.int) vs
  | _, _, .nil => .nil
  | _, _, .cons n t h => .cons ⟨t, rfl⟩ (vals_ints h)
def Only (H : Hp) : Prop := ∀ b, H b = none ∨ ∃ o xs, H b = some (.frz o (.lst xs))
theorem law_call {P : Program} {w : World} {K : PySem.W.Frag} {mg mb : Str → Option Value} {CX : CXT} {k : Nat} {fa a : Addr} {fd : FuncData} {x : Str} {sp : Sp} {s₁ : Shared} {vs : List Value} {ns : List Int}
    (KX : K.In s₁.heap) (hns : s₁.heap.Ns mainGlobals mg) (hb : s₁.heap.Ns builtinsNs mb) (hbb : ∀ x : Str, x ≠ "__name__" → mb x = bootBuiltins x) (hlim : s₁.heap.NoLimit) (hg : s₁.gens = #[])
    (ha : s₁.heap.get? a = some { cls := .type "list", data := .seq vs.toArray }) (hi : IntsAre vs ns) (hl : ns.length ≤ sizeLine) (hr : Room k callerA)
    (F : ∀ base : Heap, K.In base → base.Ns mainGlobals mg → FnOk P w K mg base CX k fa fd [x] sp) (hbind : ∀ (s : Shared) (u : Value), BindsTo s fd ⟨[u], []⟩ [(x, u)])
    (hsp : ∀ H : Hp, Only H → SqL K H a (ns.map V.int) → sp [.ref a] H (fun v _ => v = .bl true) fun _ _ _ => False)
    (hCX : ∀ H e s', CX [] H s₁ (fun _ _ _ => False) e s' → False) :
    codeAny (model P w) callerA (.call (.ref fa) ⟨[.ref a], []⟩) (fun r s' => r = .ok (.ret (.bool true)) ∧ OldK s₁.heap s'.heap ∧ s'.os = s₁.os ∧ AllBare s'.gens) s₁ := by
  have rv := vals_ints hi
  have lenV := hi.length
  have core : ∀ H : Hp, Only H → SqL K H a (ns.map V.int) → HOk P w H s₁.heap → (∀ b, H b ≠ none → b = a) → (H a ≠ none → K.lookup a = none) →
      codeAny (model P w) callerA (.call (.ref fa) ⟨[.ref a], []⟩) (fun r s' => r = .ok (.ret (.bool true)) ∧ OldK s₁.heap s'.heap ∧ s'.os = s₁.os ∧ AllBare s'.gens) s₁ := by
    intro H hO hS hok hA hK
    have base_of : ∀ {b : Addr} {o : Obj}, s₁.heap.get? b = some o → H b = none → (hidT s₁.heap H).get? b = some o := fun e n => hidT_get e n
    have noA : ∀ {b : Addr} {o : Obj} {es : Array DictEntry} {ep : Nat}, s₁.heap.get? b = some o → o.data = .dict es ep → H b = none := fun {b o es ep} e d => by
      cases q : H b with
      | none => rfl
      | some u =>
        have e' : b = a := hA b (by rw [q]; simp)
        subst e'
        rw [ha] at e; cases e
        have d' : Data.seq vs.toArray _ = Data.dict es ep := d
        cases d'
    have nsK : ∀ {b : Addr} {m : Str → Option Value}, s₁.heap.Ns b m → (hidT s₁.heap H).Ns b m := fun {b m} ⟨o, es, ep, e, d, r⟩ => ⟨o, es, ep, base_of e (noA e d), d, r⟩
    have hKb : K.In (hidT s₁.heap H) := fun b o e => base_of (KX b o e) (by
      cases q : H b with
      | none => rfl
      | some u =>
        have e' : b = a := hA b (by rw [q]; simp)
        subst e'
        rw [hK (by rw [q]; simp)] at e; cases e)
    have hM : Mod K mg (hidT s₁.heap H) := ⟨hKb, nsK hns, ⟨mb, nsK hb, hbb⟩, let ⟨mc, h1, h2⟩ := hlim; ⟨mc, nsK h1, h2⟩⟩
    have e0 : Env0 P w K mg (hidT s₁.heap H) callerA [] s₁ H := ⟨rfl, hM, fun b o e => of_hidT e, Nat.le_of_eq (hidT_size _ _), trivial, fun b hb => absurd (show b ∈ ([] : List Addr) from hb) (by simp), hok, .of_eq hg⟩
    refine codeAny_mono ((F _ hKb (nsK hns)).run callerA [] s₁ H ⟨[.ref a], []⟩ [.ref a] [.ref a] _ _ hr e0 (hbind s₁ (.ref a)) (.cons rfl .nil) (hsp H hO hS)) fun r s' h => ?_
    cases r with
    | error e => exact (hCX H e s' h).elim
    | ok fl =>
      cases fl with
      | next => exact False.elim h
      | brk => exact False.elim h
      | cont => exact False.elim h
      | ret u =>
        obtain ⟨v, H', os, bare, un, hok', r', q⟩ := h
        have q' : v = .bl true := q
        subst q'
        obtain rfl : u = Value.bool true := r'
        refine ⟨rfl, OldK.of_keep fun b o e => ?_, os, bare⟩
        cases q : H b with
        | none => exact un.keep b o e q (by intro z; exact absurd (show b ∈ ([] : List Addr) from z) (by simp)) (by simp)
        | some u =>
          rcases hO b with z | ⟨ob, xs, z⟩
          · rw [q] at z; cases z
          · have z2 := un.frzs b ob _ z
            obtain ⟨e1, _⟩ := hok b _ z
            obtain ⟨e2, _⟩ := hok' b _ z2
            rw [e] at e1; cases e1
            exact e2
  cases hk : K.lookup a with
  | some o =>
    have e := KX a o hk
    rw [ha] at e
    cases e
    refine core (fun _ => none) (fun _ => .inl rfl) (.inr ⟨_, vs.toArray, _, hk, rfl, rfl, rfl, by rw [List.size_toArray, lenV]; exact hl, by simpa using rv⟩) (fun b u z => by have z' : (none : Option HO) = some u := z; cases z') (fun b z => absurd rfl z) fun z => absurd rfl z
  | none =>
    refine core (fun b => if b = a then some (.frz { cls := .type "list", data := .seq vs.toArray } (.lst (ns.map V.int))) else none) (fun b => ?_) (.inl (.inr ⟨{ cls := .type "list", data := .seq vs.toArray }, if_pos rfl⟩)) (fun b u z => ?_) (fun b z => ?_) fun _ => hk
    · by_cases hb : b = a
      · exact .inr ⟨_, _, if_pos hb⟩
      · exact .inl (if_neg hb)
    · by_cases hb : b = a
      · have z' := (if_pos hb).symm.trans z
        cases z'
        subst hb
        exact ⟨ha, by rw [List.length_map]; exact hl, vs, _, rv, ha⟩
      · have z' := (if_neg hb).symm.trans z
        cases z'
    · by_cases hb : b = a
      · exact hb
      · exact absurd (if_neg hb) z
end L2
namespace L2
open PySem PySem.Spec PyProof.Rows
theorem walk_of {l : PySem.W.OpenLaw} {n k : Nat} {q : Program} {loose : List Str} {XP : (Str → Option Value) → Heap → Prop} {YP : World → Heap → Prop} {d : DefRec} {K : Params → PySem.W.Frag} {CX : World → CXT} {sp : World → Sp} {x : Str}
    (hn : l.most = some n) (hn2 : n ≤ sizeLine) (hdf : d.params.defaults = []) (hr : Room k callerA)
    (hY : ∀ (w : World) (h : Heap), YP w h → (K w.params).In h)
    (F : ∀ (w : World) (mg : Str → Option Value) (fa : Addr) (h : Heap), (K w.params).In h → h.Ns mainGlobals mg → mg d.name = some (.ref fa) →
      ∃ fd : FuncData, (∀ (s : Shared) (u : Value), BindsTo s fd ⟨[u], []⟩ [(x, u)]) ∧
        ∀ base : Heap, (K w.params).In base → base.Ns mainGlobals mg → FnOk l.prog w (K w.params) mg base (CX w) k fa fd [x] (sp w))
    (hsp : ∀ (w : World) (H : Hp) (a : Addr) (ns : List Int), ns.length ≤ n → Only H → SqL (K w.params) H a (ns.map V.int) → sp w [.ref a] H (fun v _ => v = .bl true) fun _ _ _ => False)
    (hCX : ∀ (w : World) (H : Hp) (s : Shared) (e : Value) (s' : Shared), CX w [] H s (fun _ _ _ => False) e s' → False) :
    PySem.W.WalkO q loose XP YP l.row.toRowW d [] (fun f vs => PySem.call f vs) := by
  refine Att.attach_call hn hdf fun w s₀ s₁ mg mb fa o pm cd doc a vs ns G Y ho hd hcd hmg hobj hints hlen hg => ?_
  have KX := hY w _ Y
  obtain ⟨fd, hb, hF⟩ := F w mg fa _ KX G.T.g hmg
  exact law_call KX G.T.g G.T.b G.T.builtins G.T.nolimit hg hobj hints (Nat.le_trans hlen hn2) hr hF hb (fun H hO hS => hsp w H a ns hlen hO hS) fun H e s' => hCX w H s₁ e s'
end L2
namespace L2
open PySem PySem.Spec PyProof.Rows
def defArgs (s : Stmt) : Arguments := match s with
  | .FunctionDef _ a _ _ _ _ _ _ _ _ => a
  | _ => { posonlyargs := [], args := [], vararg := none, kwonlyargs := [], kw_defaults := [], kwarg := none, defaults := [] }
def defBody (s : Stmt) : List Stmt := match s with
  | .FunctionDef _ _ b _ _ _ _ _ _ _ => b
  | _ => []
def defScope (s : Stmt) : Scope := match s with
  | .FunctionDef _ _ _ _ _ _ sc _ _ _ => sc
  | _ => { kind := .function, names := [], isGenerator := false, isCoroutine := false }
abbrev CX0 : CXT := fun _ _ _ _ _ _ => False
abbrev E0 : XK := fun _ _ _ => False
theorem pass0 {X : Cx} : Passes CX0 X E0 := fun _ _ _ _ _ _ _ h => h.elim
structure Fun (K : PySem.W.Frag) (x qual : Str) (st : Stmt) (f : Addr) (fd : FuncData) : Prop where
  ex : ∃ (oc : Value) (od : Option Addr) (kV doc pm : Value) (an : Option Addr) (cdv ct : Value) (osl : Array (Option Value)),
    fd = PySem.W.fnOf x qual (defArgs st) (defBody st) (defScope st) .none kV doc pm an cdv ct ∧ K.lookup f = some ⟨oc, od, .func fd, osl⟩ ∧ PySem.W.codeIn K cdv qual = true
  kp : PySem.W.keepIn K (.ref f) = true
section
variable {P : Program} {w : World} {K : PySem.W.Frag} {mg : Str → Option Value} {base : Heap}
theorem Fun.ok {x qual : Str} {st : Stmt} {f : Addr} {fd : FuncData} {N ps : List Str} {k : Nat} {sp : Sp} (F : Fun K x qual st f fd) (S : FnScope N ps (defScope st)) (len : ∀ vs H Q E, sp vs H Q E → vs.length = ps.length)
    (hbody : ∀ (cdv : Value) (A : Around) (outer : List Env) (s : Shared) (H : Hp) (vs : List V) (Q : VK) (E : XK), Room k (A.deeper (envOfC qual (defScope st) s.heap.objs.size f cdv)) → sp vs H Q E →
      ∃ t, PSs (cxOf CX0 P w K mg base N qual (defScope st) f cdv A outer s H E).nox (defBody st) t ∧ t { nx := fun _ H' => Q .non H', rt := Q } (start N vs) H) : FnOk P w K mg base CX0 (k + 1) f fd ps sp := by
  obtain ⟨oc, od, kV, doc, pm, an, cdv, ct, osl, rfl, lk, hcd⟩ := F.ex
  refine fn_of lk hcd S len fun A outer s H vs Q E hr hsp => ?_
  obtain ⟨t, h, q⟩ := hbody cdv A outer s H vs Q E hr hsp
  exact ⟨t, h.nox, q⟩
theorem Fun.binds {x qual : Str} {st : Stmt} {f : Addr} {fd : FuncData} {ps : List Str} (F : Fun K x qual st f fd)
    (h : ∀ (kV doc pm : Value) (an : Option Addr) (cdv ct : Value) (us : List Value), us.length = ps.length → bindArgs (PySem.W.fnOf x qual (defArgs st) (defBody st) (defScope st) .none kV doc pm an cdv ct) ⟨us, []⟩ = pure (ps.zip us)) : Binds K fd ps [] := by
  obtain ⟨oc, od, kV, doc, pm, an, cdv, ct, osl, rfl, lk, hcd⟩ := F.ex
  exact .all (h kV doc pm an cdv ct)
theorem fun_mk {x qual : Str} {st : Stmt} {f : Addr} {oc : Value} {od an : Option Addr} {osl : Array (Option Value)} {kV doc pm cdv ct : Value} (l : K.lookup f = some ⟨oc, od, .func (PySem.W.fnOf x qual (defArgs st) (defBody st) (defScope st) .none kV doc pm an cdv ct), osl⟩)
    (c : PySem.W.codeIn K cdv qual = true) (k : PySem.W.keepIn K (.ref f) = true) : Fun K x qual st f (PySem.W.fnOf x qual (defArgs st) (defBody st) (defScope st) .none kV doc pm an cdv ct) := ⟨⟨oc, od, kV, doc, pm, an, cdv, ct, osl, rfl, l, c⟩, k⟩
end
theorem hu_of {A : Around} {k : Nat} (hr : Room k A) : A.units + 1 < cLine := Nat.lt_of_le_of_lt (Nat.add_le_add_left (by decide : 1 ≤ 64) _) hr.units
theorem small1000 {n : Nat} (h : n ≤ 1000) : n < sizeLine := Nat.lt_of_le_of_lt h (by decide)
section
variable {X : Cx}
theorem pv (i : Nat) {x : Str} {pos : Pos} (hN : X.N[i]? = some x := by rfl) (hv : Vis X.env.scope x := by first | exact Or.inl rfl | exact Or.inr (Or.inl rfl) | exact Or.inr (Or.inr rfl)) (hd : (x == ("__debug__" : Str)) = false := by decide)
    (hcd : (x == ("__classdict__" : Str)) = false := by decide) : PE X (.Name x pos) (tVar i) := pe_var hN hv hd hcd
end
theorem iteF {A B : Prop} (h : B) : if false = true then A else B := by
  rw [if_neg Bool.false_ne_true]
  exact h
theorem iteT {A B : Prop} (h : A) : if true = true then A else B := by
  rw [if_pos rfl]
  exact h
theorem ite2 {c A B : Prop} [Decidable c] (h1 : c → A) (h2 : ¬ c → B) : if c then A else B := by
  by_cases h : c
  · rw [if_pos h]
    exact h1 h
  · rw [if_neg h]
    exact h2 h
theorem iteNS {c A B : Prop} [Decidable c] (hc : c) (h : B) : if (!decide c) = true then A else B := by
  rw [decide_eq_true hc]
  exact iteF h
def Same (H H' : Hp) : Prop := ∀ b o, H b = some o → H' b = some o
theorem Same.refl (H : Hp) : Same H H := fun _ _ h => h
theorem Same.trans {H H1 H2 : Hp} (a : Same H H1) (b : Same H1 H2) : Same H H2 := fun c o h => b c o (a c o h)
theorem Same.free {H H' : Hp} (e : Same H H') {l : Addr} (h : H' l = Option.none) : H l = Option.none := by
  cases q : H l with
  | none => rfl
  | some o =>
    rw [e l o q] at h
    cases h
theorem Same.seq {K : PySem.W.Frag} {H H' : Hp} {a : Addr} {xs : List V} (e : Same H H') (h : SqL K H a xs) : SqL K H' a xs := by
  rcases h with (h | ⟨o, h⟩) | h
  · exact .inl (.inl (e _ _ h))
  · exact .inl (.inr ⟨o, e _ _ h⟩)
  · exact .inr h
end L2
namespace L2
open PySem PySem.Spec PyProof.Rows
section
variable {κ : Type} [DecidableEq κ]
def valV (kvs : List (κ × V)) (k : κ) : Option V := (kvs.find? fun kv => decide (kv.1 = k)).map (·.2)
def putK (kvs : List (κ × V)) (k : κ) (v : V) : List (κ × V) :=
  if (kvs.any fun kv => decide (kv.1 = k)) = true then kvs.map (fun kv => if kv.1 = k then (kv.1, v) else kv) else kvs ++ [(k, v)]
def dropK (kvs : List (κ × V)) (k : κ) : List (κ × V) := kvs.filter fun kv => decide (kv.1 ≠ k)
theorem valV_pos {p : κ × V} {r : List (κ × V)} {k : κ} (e : p.1 = k) : valV (p :: r) k = some p.2 := by simp [valV, List.find?_cons, e]
theorem valV_neg {p : κ × V} {r : List (κ × V)} {k : κ} (e : ¬ p.1 = k) : valV (p :: r) k = valV r k := by simp [valV, List.find?_cons, e]
theorem valV_any (k : κ) : ∀ kvs : List (κ × V), (kvs.any fun kv => decide (kv.1 = k)) = (valV kvs k).isSome
  | [] => rfl
  | p :: r => by
    rw [List.any_cons]
    by_cases e : p.1 = k
    · simp only [valV_pos e, decide_eq_true e, Bool.true_or, Option.isSome_some]
    · rw [valV_neg e, decide_eq_false e, Bool.false_or]; exact valV_any k r
theorem valV_map (k j : κ) (y : V) : ∀ kvs : List (κ × V), valV (kvs.map fun kv => if kv.1 = k then (kv.1, y) else kv) j = (valV kvs j).map fun x => if j = k then y else x
  | [] => rfl
  | p :: r => by
    have ih := valV_map k j y r
    rw [List.map_cons]
    by_cases h : p.1 = k
    · rw [if_pos h]
      by_cases e : p.1 = j
      · rw [valV_pos (p := (p.1, y)) e, valV_pos e, Option.map_some, if_pos (e.symm.trans h)]
      · rw [valV_neg (p := (p.1, y)) e, valV_neg e, ih]
    · rw [if_neg h]
      by_cases e : p.1 = j
      · rw [valV_pos (p := p) e, valV_pos e, Option.map_some, if_neg (fun z => h (e.trans z))]
      · rw [valV_neg (p := p) e, valV_neg e, ih]
theorem valV_snoc (k j : κ) (y : V) : ∀ kvs : List (κ × V), valV kvs k = none → valV (kvs ++ [(k, y)]) j = if j = k then some y else valV kvs j
  | [], _ => by
    by_cases e : k = j
    · rw [if_pos e.symm]; exact valV_pos (p := (k, y)) e
    · rw [if_neg (fun z => e z.symm)]; exact valV_neg (p := (k, y)) e
  | p :: r, hn => by
    rw [List.cons_append]
    have hk : ¬ p.1 = k := fun z => by rw [valV_pos z] at hn; cases hn
    rw [valV_neg hk] at hn
    have ih := valV_snoc k j y r hn
    by_cases e : p.1 = j
    · rw [valV_pos e, valV_pos e, if_neg (fun z => hk (e.trans z))]
    · rw [valV_neg e, valV_neg e, ih]
theorem valV_put (kvs : List (κ × V)) (k j : κ) (y : V) : valV (putK kvs k y) j = if j = k then some y else valV kvs j := by
  unfold putK
  by_cases a : (kvs.any fun kv => decide (kv.1 = k)) = true
  · rw [if_pos a, valV_map]
    rw [valV_any] at a
    by_cases e : j = k
    · obtain ⟨x, hx⟩ := Option.isSome_iff_exists.mp a
      rw [if_pos e, e, hx, Option.map_some, if_pos rfl]
    · rw [if_neg e]
      cases valV kvs j with
      | none => rfl
      | some x => rw [Option.map_some, if_neg e]
  · rw [if_neg a]
    refine valV_snoc k j y kvs ?_
    rw [valV_any] at a
    cases q : valV kvs k with
    | none => rfl
    | some x => rw [q] at a; exact (a rfl).elim
theorem length_putK (kvs : List (κ × V)) (k : κ) (v : V) : (putK kvs k v).length ≤ kvs.length + 1 := by
  unfold putK
  split
  · rw [List.length_map]; omega
  · rw [List.length_append, List.length_cons, List.length_nil]; omega
theorem RelO.isSome_eq {o : Option V} {u : Option Value} (r : RelO o u) : o.isSome = u.isSome := by
  cases o with
  | none => cases u with
    | none => rfl
    | some _ => exact (show False from r).elim
  | some _ => cases u with
    | none => exact (show False from r).elim
    | some _ => rfl
theorem RelO.getD {o : Option V} {u : Option Value} {d : V} {d' : Value} (r : RelO o u) (rd : RelV d d') : RelV (o.getD d) (u.getD d') := by
  cases o with
  | none => cases u with
    | none => exact rd
    | some _ => exact (show False from r).elim
  | some _ => cases u with
    | none => exact (show False from r).elim
    | some _ => exact r
theorem KV.val {kvs : List (κ × V)} {vs : List (κ × Value)} (r : KV kvs vs) (k : κ) : RelO (valV kvs k) (valueAt vs k) := by
  unfold KV at r
  induction r with
  | nil => exact True.intro
  | @cons p q ps qs h t ih =>
    obtain ⟨h1, h2⟩ := h
    by_cases e : p.1 = k
    · have e' : q.1 = k := h1.symm.trans e
      have b : valueAt (q :: qs) k = some q.2 := by simp [valueAt, List.find?_cons, e']
      rw [valV_pos e, b]; exact h2
    · have e' : ¬ q.1 = k := fun z => e (h1.trans z)
      have b : valueAt (q :: qs) k = valueAt qs k := by simp [valueAt, List.find?_cons, e']
      rw [valV_neg e, b]; exact ih
theorem KV.any {kvs : List (κ × V)} {vs : List (κ × Value)} (r : KV kvs vs) (k : κ) : (kvs.any fun kv => decide (kv.1 = k)) = vs.any fun kv => decide (kv.1 = k) := by
  unfold KV at r
  induction r with
  | nil => rfl
  | cons h t ih => rw [List.any_cons, List.any_cons, ih, h.1]
theorem KV.repl {kvs : List (κ × V)} {vs : List (κ × Value)} (r : KV kvs vs) (k : κ) {y : V} {u : Value} (ry : RelV y u) :
    KV (kvs.map fun kv => if kv.1 = k then (kv.1, y) else kv) (vs.map fun kv => if kv.1 = k then (kv.1, u) else kv) := by
  unfold KV at r ⊢
  induction r with
  | nil => exact .nil
  | @cons p q ps qs h t ih =>
    rw [List.map_cons, List.map_cons]
    refine .cons ?_ ih
    obtain ⟨h1, h2⟩ := h
    by_cases e : p.1 = k
    · rw [if_pos e, if_pos (h1.symm.trans e)]; exact ⟨h1, ry⟩
    · rw [if_neg e, if_neg (fun z => e (h1.trans z))]; exact ⟨h1, h2⟩
theorem KV.put {kvs : List (κ × V)} {vs : List (κ × Value)} (r : KV kvs vs) (k : κ) {y : V} {u : Value} (ry : RelV y u) : KV (putK kvs k y) (stored vs k u) := by
  unfold putK stored
  rw [r.any k]
  by_cases e : (vs.any fun kv => decide (kv.1 = k)) = true
  · rw [if_pos e, if_pos e]; exact r.repl k ry
  · rw [if_neg e, if_neg e]; exact Paired.snoc r ⟨rfl, ry⟩
theorem KV.drop {kvs : List (κ × V)} {vs : List (κ × Value)} (r : KV kvs vs) (k : κ) : KV (dropK kvs k) (without vs k) := by
  unfold KV at r ⊢
  unfold dropK without
  induction r with
  | nil => exact .nil
  | @cons p q ps qs h t ih =>
    obtain ⟨h1, h2⟩ := h
    rw [List.filter_cons, List.filter_cons]
    by_cases e : p.1 = k
    · have a : ¬ decide (p.1 ≠ k) = true := by simp [e]
      have b : ¬ decide (q.1 ≠ k) = true := by simp [h1.symm.trans e]
      rw [if_neg a, if_neg b]; exact ih
    · have e' : ¬ q.1 = k := fun z => e (h1.trans z)
      have a : decide (p.1 ≠ k) = true := by simp [e]
      have b : decide (q.1 ≠ k) = true := by simp [e']
      rw [if_pos a, if_pos b]; exact .cons ⟨h1, h2⟩ ih
theorem KV.keys {kvs : List (κ × V)} {vs : List (κ × Value)} (r : KV kvs vs) : kvs.map (·.1) = vs.map (·.1) := by
  unfold KV at r
  induction r with
  | nil => rfl
  | cons h t ih => rw [List.map_cons, List.map_cons, ih, h.1]
theorem KV.length {kvs : List (κ × V)} {vs : List (κ × Value)} (r : KV kvs vs) : kvs.length = vs.length := Paired.length r
end
abbrev KT (H : Hp) : List (List Key × V) → List (List Key × Addr × Value) → Prop := Paired fun p q => p.1 = q.1 ∧ H q.2.1 = some (.tup (p.1.map kV)) ∧ RelV p.2 q.2.2
theorem KT.val {H : Hp} {kvs : List (List Key × V)} {xs : List (List Key × Addr × Value)} (r : KT H kvs xs) (k : List Key) : RelO (valV kvs k) ((atKey xs k).map (·.2)) := by
  induction r with
  | nil => exact True.intro
  | @cons p q ps qs h t ih =>
    obtain ⟨h1, _, h2⟩ := h
    by_cases e : p.1 = k
    · have e' : q.1 = k := h1.symm.trans e
      have b : atKey (q :: qs) k = some q.2 := by simp [atKey, List.find?_cons, e']
      rw [valV_pos e, b]; exact h2
    · have e' : ¬ q.1 = k := fun z => e (h1.trans z)
      have b : atKey (q :: qs) k = atKey qs k := by simp [atKey, List.find?_cons, e']
      rw [valV_neg e, b]; exact ih
theorem KT.repl {H : Hp} {kvs : List (List Key × V)} {xs : List (List Key × Addr × Value)} (r : KT H kvs xs) (k : List Key) {y : V} {u : Value} (ry : RelV y u) :
    KT H (kvs.map fun kv => if kv.1 = k then (kv.1, y) else kv) (xs.map (putAt k u)) := by
  induction r with
  | nil => exact .nil
  | @cons p q ps qs h t ih =>
    rw [List.map_cons, List.map_cons]
    refine .cons ?_ ih
    obtain ⟨h1, h2, h3⟩ := h
    unfold putAt
    by_cases e : p.1 = k
    · rw [if_pos e, if_pos (h1.symm.trans e)]; exact ⟨h1, h2, ry⟩
    · rw [if_neg e, if_neg (fun z => e (h1.trans z))]; exact ⟨h1, h2, h3⟩
theorem KT.put {H : Hp} {kvs : List (List Key × V)} {xs : List (List Key × Addr × Value)} (r : KT H kvs xs) (k : List Key) {b : Addr} {y : V} {u : Value} (hb : H b = some (.tup (k.map kV))) (ry : RelV y u) :
    KT H (putK kvs k y) (storedH xs k b u) := by
  have e : (kvs.any fun kv => decide (kv.1 = k)) = (atKey xs k).isSome := by
    rw [valV_any, (r.val k).isSome_eq, Option.isSome_map]
  unfold putK storedH
  rw [e]
  by_cases q : (atKey xs k).isSome = true
  · rw [if_pos q, if_pos q]; exact r.repl k ry
  · rw [if_neg q, if_neg q]; exact Paired.snoc r ⟨rfl, hb, ry⟩
theorem KT.keeps {H H' : Hp} {kvs : List (List Key × V)} {xs : List (List Key × Addr × Value)} (r : KT H kvs xs) (ht : ∀ b ys, H b = some (.tup ys) → H' b = some (.tup ys)) : KT H' kvs xs :=
  Paired.mapP r fun _ _ z => ⟨z.1, ht _ _ z.2.1, z.2.2⟩
section
variable {P : Program} {w : World} {H : Hp} {h : Heap} {a : Addr}
end
def DGet (H : Hp) (a : Addr) (y : V) (r : Option V) : Prop :=
  (∃ kvs k, Rd H a (.dK kvs) ∧ y = kV k ∧ r = valV kvs k) ∨ ∃ kvs k b, Rd H a (.dT kvs) ∧ y = .ref b ∧ H b = some (.tup (k.map kV)) ∧ r = valV kvs k
def DPut (H : Hp) (a : Addr) (y v : V) (H' : Hp) : Prop :=
  (∃ kvs k, H a = some (.dK kvs) ∧ y = kV k ∧ kvs.length < sizeLine ∧ H' = upd H a (.dK (putK kvs k v))) ∨
  ∃ kvs k b, H a = some (.dT kvs) ∧ y = .ref b ∧ H b = some (.tup (k.map kV)) ∧ kvs.length < sizeLine ∧ H' = upd H a (.dT (putK kvs k v))
theorem DGet.k {H : Hp} {a : Addr} {kvs : List (Key × V)} {k : Key} (e : H a = some (.dK kvs)) : DGet H a (kV k) (valV kvs k) := .inl ⟨kvs, k, .inl e, rfl, rfl⟩
theorem DGet.t {H : Hp} {a b : Addr} {kvs : List (List Key × V)} {k : List Key} (e : H a = some (.dT kvs)) (eb : H b = some (.tup (k.map kV))) : DGet H a (.ref b) (valV kvs k) := .inr ⟨kvs, k, b, .inl e, rfl, eb, rfl⟩
theorem DPut.k {H : Hp} {a : Addr} {kvs : List (Key × V)} {k : Key} {v : V} (e : H a = some (.dK kvs)) (hl : kvs.length < sizeLine) : DPut H a (kV k) v (upd H a (.dK (putK kvs k v))) := .inl ⟨kvs, k, e, rfl, hl, rfl⟩
theorem DPut.t {H : Hp} {a b : Addr} {kvs : List (List Key × V)} {k : List Key} {v : V} (e : H a = some (.dT kvs)) (eb : H b = some (.tup (k.map kV))) (hl : kvs.length < sizeLine) :
    DPut H a (.ref b) v (upd H a (.dT (putK kvs k v))) := .inr ⟨kvs, k, b, e, rfl, eb, hl, rfl⟩
section
variable {X : Cx} {pins : List (Addr × Obj)} {σ : St} {H : Hp} {s : Shared} {a : Addr} {y v : V} {u r : Value} {o : Option V} {A : Around} {E : Value → Shared → Prop}
theorem Inv.big (I : Inv X pins σ H s) : sysModules < s.heap.objs.size := by
  have h : mainGlobals < s.heap.objs.size := (I.mod.glob.keeps I.bk).lt
  exact Nat.lt_trans (by decide) h
end
section
variable {X : Cx} {pins : List (Addr × Obj)} {σ : St} {H : Hp} {s : Shared} {a : Addr} {kvs : List (Key × V)} {k : Key} {u : Value} {A : Around} {E : Value → Shared → Prop}
end
section
variable {X : Cx} {o i e value : Expr} {pos pos' tpos : Pos} {td ty tv : TE}
end
section
variable {X : Cx} {pos : Pos}
end
section
variable {X : Cx} {pins : List (Addr × Obj)} {σ : St} {H : Hp} {s : Shared} {a : Addr} {y d : V} {u r : Value} {o : Option V} {A : Around} {E : Value → Shared → Prop}
end
section
variable {X : Cx} {o e f : Expr} {apos cpos : Pos} {td ty tx : TE}
end
section
variable {X : Cx} {pins : List (Addr × Obj)} {σ : St} {H : Hp} {s : Shared} {a : Addr} {kvs : List (Key × V)} {A : Around} {E : Value → Shared → Prop}
end
section
variable {X : Cx} {pins : List (Addr × Obj)} {σ : St} {H : Hp} {s : Shared} {a : Addr} {y : V} {u : Value} {A : Around} {E : Value → Shared → Prop}
end
end L2
namespace L2
open PySem PySem.Spec PyProof.Rows
section
variable {X : Cx}
end
section
variable {κ : Type} [DecidableEq κ]
end
end L2
namespace L2
open PySem PySem.Spec PyProof.Rows
section
variable {X : Cx}
def rIsi (K : PySem.W.Frag) : List V → Hp → VK → Prop := fun xs H Q => ∃ x n t b, xs = [x, .ty n] ∧ TyOf K H x t ∧ PySem.W.kitOne K t (.type n) = some b ∧ Q (.bl b) H
theorem call_isi : CallR X (.builtin "isinstance") (rIsi X.K) := by
  intro pins s σ H xs us Q I r h
  obtain ⟨x, n, t, b, rfl, ty, e, q⟩ := h
  obtain ⟨u, v, rfl, ru, rv⟩ := vals2 r
  cases (show v = Value.type n from rv)
  exact isinst_ok I ru ty e fun tk => ⟨.bl b, H, I.tok tk, rfl, q⟩
end
mutual
inductive RdD (H : Hp) : V → PyData → Prop
  | non : RdD H .non .none
  | bl (b : Bool) : RdD H (.bl b) (.bool b)
  | int (i : Int) : RdD H (.int i) (.int i)
  | str (x : Str) : RdD H (.str x) (.str x)
  | lst {a : Addr} {xs : List V} {ds : List PyData} : H a = some (.lst xs) → RdDs H xs ds → RdD H (.ref a) (.list ds)
  | tup {a : Addr} {xs : List V} {ds : List PyData} : H a = some (.tup xs) → RdDs H xs ds → RdD H (.ref a) (.tuple ds)
inductive RdDs (H : Hp) : List V → List PyData → Prop
  | nil : RdDs H [] []
  | cons {x : V} {xs : List V} {d : PyData} {ds : List PyData} : RdD H x d → RdDs H xs ds → RdDs H (x :: xs) (d :: ds)
end
mutual
theorem RdD.reads {P : Program} {w : World} {H : Hp} {h : Heap} (ok : HOk P w H h) : ∀ {x : V} {d : PyData} {u : Value}, RdD H x d → RelV x u → ∃ as, Reads h u d as
  | _, _, _, .non, r => by cases (show _ = Value.none from r); exact ⟨_, .none⟩
  | _, _, _, .bl b, r => by cases (show _ = Value.bool b from r); exact ⟨_, .bool b⟩
  | _, _, _, .int i, r => by obtain ⟨t, rfl⟩ := r; exact ⟨_, .int i t⟩
  | _, _, _, .str x, r => by obtain ⟨t, rfl⟩ := r; exact ⟨_, .str x t⟩
  | _, _, _, .lst (a := a) (xs := xs) e l, r => by
    cases (show _ = Value.ref a from r)
    obtain ⟨_, its, n, rv, g⟩ := (show ObjOk P w H h a (.lst xs) from ok a _ e)
    obtain ⟨as, q⟩ := RdDs.reads ok l rv
    exact ⟨_, .list g rfl rfl (by simpa using q)⟩
  | _, _, _, .tup (a := a) (xs := xs) e l, r => by
    cases (show _ = Value.ref a from r)
    obtain ⟨_, its, rv, g⟩ := (show ObjOk P w H h a (.tup xs) from ok a _ e)
    obtain ⟨as, q⟩ := RdDs.reads ok l rv
    obtain ⟨o, g1, g2, n, g3⟩ := g
    exact ⟨_, .tuple g1 g2 g3 (by simpa using q)⟩
theorem RdDs.reads {P : Program} {w : World} {H : Hp} {h : Heap} (ok : HOk P w H h) : ∀ {xs : List V} {ds : List PyData} {us : List Value}, RdDs H xs ds → Vals xs us → ∃ as, ReadsAll h us ds as
  | _, _, _, .nil, .nil => ⟨_, .nil⟩
  | _, _, _, .cons a l, .cons r t => by
    obtain ⟨as, q⟩ := RdD.reads ok a r
    obtain ⟨bs, p⟩ := RdDs.reads ok l t
    exact ⟨_, .cons q p⟩
end
section
variable {X : Cx}
def rEqD (neg : Bool) : R2 := fun x y H Q => ∃ d e, RdD H x d ∧ RdD H y e ∧ SeqAt.shaped d = true ∧ SeqAt.shaped e = true ∧ Q (.bl (if neg then !PyData.eqv d e else PyData.eqv d e)) H
theorem op_eqD (hu : X.A.units + 64 < cLine) : OpR X (compareOp .Eq) (rEqD false) := by
  intro pins s σ H x y v u Q I rx ry h
  obtain ⟨d, e, a, b, s1, s2, q⟩ := h
  obtain ⟨as, ra⟩ := a.reads I.hok rx
  obtain ⟨bs, rb⟩ := b.reads I.hok ry
  exact eq_dataH ra rb s1 s2 hu ⟨.bl (PyData.eqv d e), H, I, rfl, q⟩
end
section
variable {X : Cx}
end
section
variable {X : Cx}
end
end L2
namespace L2
open PySem PySem.Spec PyProof.Rows
structure CompOk (X : Cx) (scope : Scope) (cl : List (Str × Addr)) : Prop where
  clos : closureFor scope X.env = pure cl
  kind : scope.kind = .function
  nocell : ∀ y ∈ scope.names, y.2 ≠ .cell
  names : ∀ y ∈ scope.names, y.2 = .local → scope.names.lookup y.1 = some .local
  sub : ∀ p ∈ cl, X.env.cells.lookup p.1 = some p.2
  has : (scope.names.all fun p => p.2 != .free || (cl.lookup p.1).isSome) = true
theorem lookup_mem {α β : Type} [BEq α] [LawfulBEq α] : ∀ {l : List (α × β)} {x : α} {c : β}, l.lookup x = some c → (x, c) ∈ l
  | [], _, _, h => by simp at h
  | (n, k) :: r, x, c, h => by
    cases hx : x == n with
    | true =>
      simp only [List.lookup_cons, hx] at h
      cases h
      rw [eq_of_beq hx]
      exact List.mem_cons_self
    | false =>
      simp only [List.lookup_cons, hx] at h
      exact List.mem_cons_of_mem _ (lookup_mem h)
section
variable {X : Cx} {scope : Scope} {cl : List (Str × Addr)} {N' : List Str} {mv : List (Option Nat)}
theorem CompOk.look (S : CompOk X scope cl) {x : Str} {c : Addr} (h : cl.lookup x = some c) : X.env.cells.lookup x = some c := S.sub _ (lookup_mem h)
theorem CompOk.get (S : CompOk X scope cl) {x : Str} (h : scope.names.lookup x = some .free) : ∃ c, cl.lookup x = some c := by
  have q := List.all_eq_true.mp S.has _ (lookup_mem h)
  have q' : (cl.lookup x).isSome = true := by simpa using q
  exact Option.isSome_iff_exists.mp q'
end
end L2
namespace EB
abbrev Say := Int × Int
def Lit (n : Nat) (x : Int) : Prop := 1 ≤ x.natAbs ∧ x.natAbs ≤ n
theorem Lit.neg {n : Nat} {x : Int} (h : Lit n x) : Lit n (-x) := by unfold Lit at *; omega
theorem Lit.cases {n : Nat} {x : Int} (h : Lit n x) : ∃ v : Nat, 1 ≤ v ∧ v ≤ n ∧ (x = (v : Int) ∨ x = -(v : Int)) := ⟨x.natAbs, h.1, h.2, by omega⟩
def PileOk (n : Nat) (pile : List Say) : Prop := ∀ c ∈ pile, Lit n c.1 ∧ Lit n c.2
def tru (s : List Bool) (x : Int) : Bool := s.getD (x.natAbs - 1) false == decide (0 < x)
def tsay (s : List Bool) (c : Say) : Bool := tru s c.1 || tru s c.2
def goodB (pile : List Say) (s : List Bool) : Bool := pile.all (tsay s)
def Step (pile : List Say) (a b : Int) : Prop := ∃ c ∈ pile, (c.1 = -a ∧ c.2 = b) ∨ (c.2 = -a ∧ c.1 = b)
inductive Reach (pile : List Say) (a : Int) : Int → Prop
  | refl : Reach pile a a
  | tail {b c : Int} : Reach pile a b → Step pile b c → Reach pile a c
theorem Reach.trans {pile : List Say} {a b c : Int} (r : Reach pile a b) (q : Reach pile b c) : Reach pile a c := by
  induction q with
  | refl => exact r
  | tail _ s ih => exact .tail ih s
theorem Step.lit {n : Nat} {pile : List Say} (ok : PileOk n pile) {a b : Int} (h : Step pile a b) : Lit n a ∧ Lit n b := by
  obtain ⟨c, hc, ⟨h1, h2⟩ | ⟨h1, h2⟩⟩ := h
  · obtain ⟨l1, l2⟩ := ok c hc
    exact ⟨by have := l1.neg; rw [h1, Int.neg_neg] at this; exact this, h2 ▸ l2⟩
  · obtain ⟨l1, l2⟩ := ok c hc
    exact ⟨by have := l2.neg; rw [h1, Int.neg_neg] at this; exact this, h2 ▸ l1⟩
theorem Reach.lit {n : Nat} {pile : List Say} (ok : PileOk n pile) {a b : Int} (h : Reach pile a b) (ha : Lit n a) : Lit n b := by
  cases h with
  | refl => exact ha
  | tail _ s => exact (s.lit ok).2
def addNew (l : List Int) (x : Int) : List Int := if x ∈ l then l else l ++ [x]
def dueStep (lit : Int) (d : List Int) (c : Say) : List Int :=
  let d1 := if c.1 = -lit then addNew d c.2 else d
  if c.2 = -lit then addNew d1 c.1 else d1
def due (pile : List Say) (lit : Int) : List Int := pile.foldl (dueStep lit) []
theorem nodup_le : ∀ {l u : List Int}, l.Nodup → (∀ x ∈ l, x ∈ u) → l.length ≤ u.length
  | [], _, _, _ => Nat.zero_le _
  | a :: r, u, h, s => by
    have ha : a ∈ u := s a List.mem_cons_self
    have hr : r.Nodup := (List.nodup_cons.mp h).2
    have hn : a ∉ r := (List.nodup_cons.mp h).1
    have hs : ∀ x ∈ r, x ∈ u.erase a := fun x hx => by
      have hne : x ≠ a := fun e => hn (e ▸ hx)
      exact (List.mem_erase_of_ne hne).mpr (s x (List.mem_cons_of_mem _ hx))
    have := nodup_le hr hs
    rw [List.length_erase_of_mem ha] at this
    have : 0 < u.length := List.length_pos_of_mem ha
    simp only [List.length_cons]
    omega
def allLits (n : Nat) : List Int := (List.range n).map (fun (k : Nat) => ((k : Int) + 1)) ++ (List.range n).map (fun (k : Nat) => -((k : Int) + 1))
theorem allLits_len (n : Nat) : (allLits n).length = 2 * n := by
  unfold allLits
  simp
  omega
theorem mem_allLits {n : Nat} {x : Int} (h : Lit n x) : x ∈ allLits n := by
  unfold allLits
  unfold Lit at h
  rw [List.mem_append, List.mem_map, List.mem_map]
  by_cases hx : 0 < x
  · exact .inl ⟨x.natAbs - 1, by rw [List.mem_range]; omega, by omega⟩
  · exact .inr ⟨x.natAbs - 1, by rw [List.mem_range]; omega, by omega⟩
theorem lits_le {n : Nat} {l : List Int} (h : l.Nodup) (hl : ∀ x ∈ l, Lit n x) : l.length ≤ 2 * n := by
  rw [← allLits_len n]
  exact nodup_le h fun x hx => mem_allLits (hl x hx)
end EB
namespace EB
def RS (pile : List Say) (S : Int → Prop) (x : Int) : Prop := ∃ l, S l ∧ Reach pile l x
def Torn (pile : List Say) (S : Int → Prop) : Prop := ∃ x, RS pile S x ∧ RS pile S (-x)
theorem RS.of {pile : List Say} {S : Int → Prop} {x : Int} (h : S x) : RS pile S x := ⟨x, h, .refl⟩
theorem RS.mono {pile : List Say} {S T : Int → Prop} (h : ∀ x, S x → T x) {x : Int} (r : RS pile S x) : RS pile T x := let ⟨l, a, b⟩ := r; ⟨l, h l a, b⟩
theorem RS.bind {pile : List Say} {S T : Int → Prop} (h : ∀ x, S x → RS pile T x) {x : Int} (r : RS pile S x) : RS pile T x := by
  obtain ⟨l, a, b⟩ := r
  obtain ⟨k, c, d⟩ := h l a
  exact ⟨k, c, d.trans b⟩
theorem RS.step {pile : List Say} {S : Int → Prop} {x y : Int} (r : RS pile S x) (s : Step pile x y) : RS pile S y := let ⟨l, a, b⟩ := r; ⟨l, a, .tail b s⟩
theorem Torn.mono {pile : List Say} {S T : Int → Prop} (h : ∀ x, S x → T x) (t : Torn pile S) : Torn pile T := let ⟨x, a, b⟩ := t; ⟨x, a.mono h, b.mono h⟩
theorem Torn.bind {pile : List Say} {S T : Int → Prop} (h : ∀ x, S x → RS pile T x) (t : Torn pile S) : Torn pile T := let ⟨x, a, b⟩ := t; ⟨x, a.bind h, b.bind h⟩
theorem RS.lit {n : Nat} {pile : List Say} (ok : PileOk n pile) {S : Int → Prop} (hS : ∀ x, S x → Lit n x) {x : Int} (r : RS pile S x) : Lit n x := let ⟨l, a, b⟩ := r; b.lit ok (hS l a)
structure Closed (pile : List Say) (K : List Int) : Prop where
  cl : ∀ x ∈ K, ∀ y, Step pile x y → y ∈ K
  co : ∀ x ∈ K, -x ∉ K
  nd : K.Nodup
structure GInv (n : Nat) (pile : List Say) (known lits F W : List Int) : Prop where
  sub : ∀ x ∈ known, x ∈ F
  lit : ∀ x ∈ lits, x ∈ F ∨ x ∈ W
  cl : ∀ x ∈ F, ∀ y, Step pile x y → y ∈ F ∨ y ∈ W
  fr : ∀ x ∈ F, x ∈ known ∨ RS pile (· ∈ lits) x
  fw : ∀ x ∈ W, RS pile (· ∈ lits) x
  co : ∀ x ∈ F, -x ∉ F
  nd : F.Nodup
  lf : ∀ x ∈ F, Lit n x
  lw : ∀ x ∈ W, Lit n x
  bd : (2 * n - F.length) * (2 * n + 1) + W.length ≤ 2 * n * (2 * n + 1) + lits.length
theorem GInv.start {n : Nat} {pile : List Say} {known lits : List Int} (c : Closed pile known) (lk : ∀ x ∈ known, Lit n x) (ll : ∀ x ∈ lits, Lit n x) : GInv n pile known lits known lits where
  sub := fun _ h => h
  lit := fun _ h => .inr h
  cl := fun x h y s => .inl (c.cl x h y s)
  fr := fun _ h => .inl h
  fw := fun _ h => RS.of h
  co := c.co
  nd := c.nd
  lf := lk
  lw := ll
  bd := Nat.add_le_add_right (Nat.mul_le_mul_right _ (Nat.sub_le _ _)) _
structure Grown (n : Nat) (pile : List Say) (known lits F : List Int) : Prop where
  sub : ∀ x ∈ known, x ∈ F
  lit : ∀ x ∈ lits, x ∈ F
  fr : ∀ x ∈ F, x ∈ known ∨ RS pile (· ∈ lits) x
  cl : Closed pile F
  lf : ∀ x ∈ F, Lit n x
theorem GInv.done {n : Nat} {pile : List Say} {known lits F : List Int} (g : GInv n pile known lits F []) : Grown n pile known lits F where
  sub := g.sub
  lit := fun x h => (g.lit x h).elim id (fun h => nomatch h)
  fr := g.fr
  cl := ⟨fun x h y s => (g.cl x h y s).elim id (fun h => nomatch h), g.co, g.nd⟩
  lf := g.lf
def NoGrow (pile : List Say) (known lits : List Int) : Prop := Torn pile (fun x => x ∈ known ∨ x ∈ lits)
theorem GInv.none {n : Nat} {pile : List Say} {known lits F W : List Int} {x : Int} (g : GInv n pile known lits F (W ++ [x])) (h : -x ∈ F) : NoGrow pile known lits := by
  refine ⟨x, (g.fw x (List.mem_append_right _ (List.mem_singleton.mpr rfl))).mono fun y hy => .inr hy, ?_⟩
  rcases g.fr _ h with h1 | h1
  · exact RS.of (.inl h1)
  · exact h1.mono fun y hy => .inr hy
structure FInv (n : Nat) (pile : List Say) (wishes : List Int) (i : Nat) (K : List Int) : Prop where
  cl : Closed pile K
  lk : ∀ x ∈ K, Lit n x
  wi : ∀ x ∈ wishes, x ∈ K
  de : ∀ v : Nat, 1 ≤ v → v ≤ i → (v : Int) ∈ K ∨ -(v : Int) ∈ K
  fr : ∀ x ∈ K, RS pile (fun l => l ∈ wishes ∨ (l ∈ K ∧ l.natAbs ≤ i)) x
  on : ∀ v : Nat, 1 ≤ v → v ≤ i → (v : Int) ∈ K → Torn pile (fun l => l ∈ wishes ∨ (l ∈ K ∧ l.natAbs < v) ∨ l = -(v : Int))
theorem FInv.start {n : Nat} {pile : List Say} {wishes F : List Int} (g : Grown n pile [] wishes F) : FInv n pile wishes 0 F where
  cl := g.cl
  lk := g.lf
  wi := g.lit
  de := fun v h1 h2 => by omega
  fr := fun x h => by
    rcases g.fr x h with h1 | h1
    · cases h1
    · exact h1.mono fun y hy => .inl hy
  on := fun v h1 h2 => by omega
theorem FInv.keep {n : Nat} {pile : List Say} {wishes K : List Int} {i : Nat} (f : FInv n pile wishes i K) (h : ((i + 1 : Nat) : Int) ∈ K ∨ -((i + 1 : Nat) : Int) ∈ K) : FInv n pile wishes (i + 1) K where
  cl := f.cl
  lk := f.lk
  wi := f.wi
  de := fun v h1 h2 => by
    by_cases e : v = i + 1
    · subst e; exact h
    · exact f.de v h1 (by omega)
  fr := fun x hx => (f.fr x hx).mono fun l hl => hl.imp id fun hl => ⟨hl.1, by omega⟩
  on := fun v h1 h2 hv => by
    by_cases e : v = i + 1
    · subst e
      refine ⟨((i + 1 : Nat) : Int), (f.fr _ hv).mono fun l hl => hl.imp id fun hl => .inl ⟨hl.1, by omega⟩, RS.of (.inr (.inr rfl))⟩
    · exact f.on v h1 (by omega) hv
end EB
namespace EB
open PySem L2
theorem at_map {α : Type} {f : α → V} {xs : List α} {k : Int} {d : α} (hk : 0 ≤ k) (h : k < (xs.length : Int)) : atI (xs.map f) k = some (f (xs.getD k.toNat d)) := by
  obtain ⟨j, rfl⟩ : ∃ j : Nat, k = (j : Int) := ⟨k.toNat, by omega⟩
  have hj : j < xs.length := by omega
  refine atI_nat ?_
  rw [List.getElem?_map, Int.toNat_natCast, List.getD_eq_getElem?_getD, List.getElem?_eq_getElem hj]
  rfl
theorem at_int {ns : List Int} {k : Int} (hk : 0 ≤ k) (h : k < ((ns.map V.int).length : Int)) : atI (ns.map V.int) k = some (V.int (ns.getD k.toNat 0)) := at_map hk (by rw [List.length_map] at h; exact h)
theorem cell_out {ns : List Int} {k : Int} (hk : 0 ≤ k) (e : ¬ decide (k < ((ns.map V.int).length : Int)) = true) : ns.getD k.toNat 0 = 0 := by
  have e' : ¬ k < ((ns.map V.int).length : Int) := fun z => e (decide_eq_true z)
  rw [List.length_map] at e'
  rw [List.getD_eq_getElem?_getD, List.getElem?_eq_none (by omega)]
  rfl
theorem same_new {H : Hp} {l : Addr} {o : HO} (hl : H l = none) : Same H (upd H l o) := fun b o' e => by rw [upd_ne (ne_of_none e hl)]; exact e
theorem same_upd {H H2 : Hp} {l : Addr} {o : HO} (s : Same H H2) (hl : H l = none) : Same H (upd H2 l o) := fun b o' e => by rw [upd_ne (ne_of_none e hl)]; exact s b o' e
theorem asV {Q : VK} {H : Hp} {v w : V} (e : w = v) (q : Q v H) : Q w H := e ▸ q
theorem rd_bools {H : Hp} : ∀ bs : List Bool, RdDs H (bs.map V.bl) (bs.map PyData.bool)
  | [] => .nil
  | b :: r => .cons (.bl b) (rd_bools r)
theorem shaped_of {d : PyData} (h1 : d.canLay0 = true) (h2 : d.depth ≤ 64) : SeqAt.shaped d = true := by
  unfold SeqAt.shaped
  rw [h1, decide_eq_true h2]
  rfl
def dBools (bs : List Bool) : PyData := .list (bs.map PyData.bool)
theorem canLay_bools : ∀ bs : List Bool, PyData.canLayAll0 (bs.map PyData.bool) = true
  | [] => by simp only [List.map_nil, PyData.canLayAll0]
  | b :: r => by simp only [List.map_cons, PyData.canLayAll0, PyData.canLay0, canLay_bools r, Bool.and_self]
theorem depth_bools : ∀ bs : List Bool, PyData.depthAll (bs.map PyData.bool) ≤ 1
  | [] => by simp [PyData.depthAll]
  | b :: r => by have := depth_bools r; simp [PyData.depthAll, PyData.depth]; omega
theorem shaped_bools (bs : List Bool) : SeqAt.shaped (dBools bs) = true := by
  refine shaped_of ?_ ?_
  · unfold dBools; simp only [PyData.canLay0]; exact canLay_bools bs
  · unfold dBools; have := depth_bools bs; simp only [PyData.depth]; omega
abbrev TupsAt (H : Hp) : List Addr → List Say → Prop := Paired fun (a : Addr) (c : Say) => H a = some (.tup [.int c.1, .int c.2])
def PileAt (H : Hp) (l : Addr) (pile : List Say) : Prop := ∃ as : List Addr, H l = some (.lst (as.map V.ref)) ∧ TupsAt H as pile
theorem TupsAt.same {H H' : Hp} (s : Same H H') : ∀ {as : List Addr} {pile : List Say}, TupsAt H as pile → TupsAt H' as pile
  | _, _, .nil => .nil
  | _, _, .cons r t => .cons (s _ _ r) (TupsAt.same s t)
theorem PileAt.same {H H' : Hp} {l : Addr} {pile : List Say} (p : PileAt H l pile) (s : Same H H') : PileAt H' l pile := let ⟨as, h, t⟩ := p; ⟨as, s _ _ h, t.same s⟩
theorem TupsAt.length {H : Hp} {as : List Addr} {pile : List Say} (t : TupsAt H as pile) : as.length = pile.length := Paired.length t
theorem TupsAt.get {H : Hp} : ∀ {as : List Addr} {pile : List Say} {i : Nat} {x : V}, TupsAt H as pile → (as.map V.ref)[i]? = some x → ∃ a c, x = .ref a ∧ as[i]? = some a ∧ pile[i]? = some c ∧ H a = some (.tup [.int c.1, .int c.2])
  | _, _, _, _, .nil, h => by simp at h
  | _, _, 0, _, .cons (a := a) (b := c) r _, h => by
    simp at h
    exact ⟨a, c, h.symm, rfl, rfl, r⟩
  | _, _, i + 1, x, .cons _ t, h => by
    obtain ⟨a, c, e1, e2, e3, e4⟩ := TupsAt.get (i := i) (x := x) t (by simpa using h)
    exact ⟨a, c, e1, by simpa using e2, by simpa using e3, e4⟩
theorem TupsAt.snoc {H : Hp} {a : Addr} {c : Say} : ∀ {as : List Addr} {pile : List Say}, TupsAt H as pile → H a = some (.tup [.int c.1, .int c.2]) → TupsAt H (as ++ [a]) (pile ++ [c])
  | _, _, .nil, h => .cons h .nil
  | _, _, .cons r t, h => .cons r (TupsAt.snoc t h)
theorem TupsAt.append {H : Hp} {bs : List Addr} {q : List Say} : ∀ {as : List Addr} {pile : List Say}, TupsAt H as pile → TupsAt H bs q → TupsAt H (as ++ bs) (pile ++ q)
  | _, _, .nil, h => h
  | _, _, .cons r t, h => .cons r (TupsAt.append t h)
theorem TupsAt.take {H : Hp} : ∀ {as : List Addr} {pile : List Say} (n : Nat), TupsAt H as pile → TupsAt H (as.take n) (pile.take n)
  | _, _, 0, _ => .nil
  | _, _, _ + 1, .nil => .nil
  | _, _, n + 1, .cons r t => .cons r (TupsAt.take n t)
theorem TupsAt.drop {H : Hp} : ∀ {as : List Addr} {pile : List Say} (n : Nat), TupsAt H as pile → TupsAt H (as.drop n) (pile.drop n)
  | _, _, 0, t => t
  | _, _, _ + 1, .nil => .nil
  | _, _, n + 1, .cons _ t => TupsAt.drop n t
theorem TupsAt.set {H : Hp} {a : Addr} {c : Say} (h : H a = some (.tup [.int c.1, .int c.2])) : ∀ {as : List Addr} {pile : List Say} (n : Nat), TupsAt H as pile → TupsAt H (as.set n a) (pile.set n c)
  | _, _, _, .nil => .nil
  | _, _, 0, .cons _ t => .cons h t
  | _, _, n + 1, .cons r t => .cons r (TupsAt.set h n t)
theorem TupsAt.upd {H : Hp} {l : Addr} {xs : List V} {o : HO} (hl : H l = some (.lst xs)) : ∀ {as : List Addr} {pile : List Say}, TupsAt H as pile → TupsAt (L2.upd H l o) as pile
  | _, _, .nil => .nil
  | _, _, .cons (a := a) r t => .cons (by rw [upd_ne (ne_of r hl (fun z => nomatch z))]; exact r) (TupsAt.upd hl t)
def dSay (c : Say) : PyData := .tuple [.int c.1, .int c.2]
def dPile (pile : List Say) : PyData := .list (pile.map dSay)
theorem TupsAt.rd {H : Hp} : ∀ {as : List Addr} {pile : List Say}, TupsAt H as pile → RdDs H (as.map V.ref) (pile.map dSay)
  | _, _, .nil => .nil
  | _, _, .cons r t => .cons (.tup r (.cons (.int _) (.cons (.int _) .nil))) (TupsAt.rd t)
theorem PileAt.rd {H : Hp} {l : Addr} {pile : List Say} (p : PileAt H l pile) : RdD H (.ref l) (dPile pile) := let ⟨_, h, t⟩ := p; .lst h t.rd
theorem canLay_says : ∀ pile : List Say, PyData.canLayAll0 (pile.map dSay) = true
  | [] => by simp only [List.map_nil, PyData.canLayAll0]
  | c :: r => by simp only [List.map_cons, PyData.canLayAll0, PyData.canLay0, canLay_says r, dSay, Bool.and_self]
theorem depth_says : ∀ pile : List Say, PyData.depthAll (pile.map dSay) ≤ 1
  | [] => by simp [PyData.depthAll]
  | c :: r => by have := depth_says r; simp [PyData.depthAll, PyData.depth, dSay]; omega
theorem shaped_pile (pile : List Say) : SeqAt.shaped (dPile pile) = true := by
  refine shaped_of ?_ ?_
  · unfold dPile; simp only [PyData.canLay0]; exact canLay_says pile
  · unfold dPile; have := depth_says pile; simp only [PyData.depth]; omega
theorem seq_join {t u : TS} {D : Ends} {σ : St} {H : Hp} (J : St → Hp → Prop) (ht : ∀ N : St → Hp → Prop, (∀ σ' H', J σ' H' → N σ' H') → t { D with nx := N } σ H) (hu : ∀ σ' H', J σ' H' → u D σ' H') : tSeq t u D σ H := ht (u D) hu
theorem take_snoc {α : Type} {l : List α} {i : Nat} {c : α} (h : l[i]? = some c) : l.take (i + 1) = l.take i ++ [c] := by rw [List.take_succ, h]; rfl
theorem rest_of (c : Int) {m : Nat} (hm : 1 ≤ m) : ∃ n : Nat, n < m ∧ c % (m : Int) = (n : Int) := by
  have h1 := Int.emod_nonneg c (b := (m : Int)) (by omega)
  have h2 := Int.emod_lt_of_pos c (b := (m : Int)) (by omega)
  exact ⟨(c % (m : Int)).toNat, by omega, by omega⟩
theorem PileAt.to {H : Hp} {l : Addr} {pile : List Say} {as : List Addr} (h : H l = some (.lst (as.map V.ref))) (t : TupsAt H as pile) : PileAt H l pile := ⟨as, h, t⟩
end EB
namespace EB
open PySem L2
theorem addNew_out {l : List Int} {x : Int} (h : x ∉ l) : addNew l x = l ++ [x] := by unfold addNew; rw [if_neg h]
structure TabAt (H0 H : Hp) (t : Addr) (T : Int → List Int) (m : Nat) : Prop where
  same : Same H0 H
  new : H0 t = none
  dict : ∃ kvs : List (Key × V), H t = some (.dK kvs) ∧ kvs.length ≤ m ∧ (∀ k : Int, (valV kvs (Sum.inl k : Key) = none ∧ T k = []) ∨ ∃ l, valV kvs (Sum.inl k : Key) = some (.ref l) ∧ H l = some (.lst ((T k).map V.int)) ∧ H0 l = none) ∧
    (∀ (k k' : Int) (l : Addr), valV kvs (Sum.inl k : Key) = some (.ref l) → valV kvs (Sum.inl k' : Key) = some (.ref l) → k = k')
def addT (T : Int → List Int) (x y : Int) : Int → List Int := fun k => if k = x then addNew (T x) y else T k
theorem addT_same {T : Int → List Int} {x y : Int} : addT T x y x = addNew (T x) y := by unfold addT; rw [if_pos rfl]
theorem addT_ne {T : Int → List Int} {x y k : Int} (h : k ≠ x) : addT T x y k = T k := by unfold addT; rw [if_neg h]
theorem key_ne {a b : Int} (h : a ≠ b) : (Sum.inl a : Key) ≠ Sum.inl b := fun z => h (Sum.inl.inj z)
theorem TabAt.start {H : Hp} {t : Addr} (ht : H t = none) : TabAt H (upd H t (.dK [])) t (fun _ => []) 0 := by
  refine ⟨same_new ht, ht, [], upd_same, Nat.le_refl _, fun k => .inl ⟨rfl, rfl⟩, fun k k' l h => ?_⟩
  cases h
theorem TabAt.more {H0 H : Hp} {t l0 l : Addr} {T : Int → List Int} {m : Nat} {x y : Int} {kvs : List (Key × V)} {o : HO} (tb : TabAt H0 H t T m) (hk : H t = some (.dK kvs)) (h0 : H l0 = none) (hl : valV kvs (Sum.inl x : Key) = some (.ref l)) (hy : y ∉ T x) :
    TabAt H0 (upd (upd H l0 o) l (.lst ((T x).map V.int ++ [.int y]))) t (addT T x y) (m + 1) := by
  obtain ⟨s, n, kvs', hd, hm, hT, inj⟩ := tb
  rw [hk] at hd
  cases hd
  have s' := same_new (o := o) h0
  have hx : H l = some (.lst ((T x).map V.int)) ∧ H0 l = none := by
    rcases hT x with ⟨z, _⟩ | ⟨l', a, b, c⟩
    · rw [hl] at z; cases z
    · rw [hl] at a; cases a; exact ⟨b, c⟩
  have ntl : t ≠ l := ne_of hk hx.1 (fun z => nomatch z)
  refine ⟨same_upd (s.trans s') hx.2, n, kvs, by rw [upd_ne ntl]; exact s' _ _ hk, Nat.le_succ_of_le hm, fun k => ?_, inj⟩
  by_cases h : k = x
  · subst h
    refine .inr ⟨l, hl, ?_, hx.2⟩
    rw [upd_same, addT_same, addNew_out hy, List.map_append]
    rfl
  · rw [addT_ne h]
    rcases hT k with z | ⟨l', a, b, c⟩
    · exact .inl z
    · refine .inr ⟨l', a, ?_, c⟩
      have : l' ≠ l := fun z => h (inj k x l (z ▸ a) hl)
      rw [upd_ne this]
      exact s' _ _ b
theorem TabAt.key {H0 H : Hp} {t l0 : Addr} {T : Int → List Int} {m : Nat} {x y : Int} {kvs : List (Key × V)} (tb : TabAt H0 H t T m) (hk : H t = some (.dK kvs)) (h0 : H l0 = none) (hl : valV kvs (Sum.inl x : Key) = none) :
    TabAt H0 (upd (upd (upd H l0 (.lst [])) t (.dK (putK kvs (Sum.inl x) (.ref l0)))) l0 (.lst [.int y])) t (addT T x y) (m + 1) := by
  obtain ⟨s, n, kvs', hd, hm, hT, inj⟩ := tb
  rw [hk] at hd
  cases hd
  have s' := same_new (o := .lst []) h0
  have n0 : H0 l0 = none := s.free h0
  have ntl : t ≠ l0 := ne_of_none hk h0
  have hx : T x = [] := by
    rcases hT x with ⟨_, z⟩ | ⟨l', a, _⟩
    · exact z
    · rw [hl] at a; cases a
  have old : ∀ (k : Int) (l' : Addr), valV kvs (Sum.inl k : Key) = some (.ref l') → l' ≠ l0 := fun k l' a z => by
    rcases hT k with ⟨w, _⟩ | ⟨l2, b, c, _⟩
    · rw [a] at w; cases w
    · rw [a] at b; cases b; rw [z, h0] at c; cases c
  refine ⟨same_upd (same_upd (s.trans s') n) n0, n, putK kvs (Sum.inl x) (.ref l0), by rw [upd_ne ntl]; exact upd_same, Nat.le_trans (length_putK _ _ _) (Nat.succ_le_succ hm), fun k => ?_, fun k k' l a b => ?_⟩
  · by_cases h : k = x
    · subst h
      refine .inr ⟨l0, by rw [valV_put, if_pos rfl], ?_, n0⟩
      rw [upd_same, addT_same, hx]
      rfl
    · rw [addT_ne h, valV_put, if_neg (key_ne h)]
      rcases hT k with z | ⟨l', a, b, c⟩
      · exact .inl z
      · refine .inr ⟨l', a, ?_, c⟩
        rw [upd_ne (old k l' a), upd_ne (ne_of b hk (fun z => nomatch z) : l' ≠ t)]
        exact s' _ _ b
  · rw [valV_put] at a b
    by_cases h : k = x
    · by_cases h' : k' = x
      · rw [h, h']
      · rw [if_neg (key_ne h')] at b
        rw [if_pos (by rw [h])] at a
        cases a
        exact absurd rfl (old k' _ b)
    · rw [if_neg (key_ne h)] at a
      by_cases h' : k' = x
      · rw [if_pos (by rw [h'])] at b
        cases b
        exact absurd rfl (old k _ a)
      · rw [if_neg (key_ne h')] at b
        exact inj k k' l a b
theorem TabAt.look {H0 H : Hp} {t : Addr} {T : Int → List Int} {m : Nat} (tb : TabAt H0 H t T m) : ∃ kvs, H t = some (.dK kvs) ∧ kvs.length ≤ m ∧ ∀ x, (valV kvs (Sum.inl x : Key) = none ∧ T x = []) ∨ ∃ l, valV kvs (Sum.inl x : Key) = some (.ref l) ∧ H l = some (.lst ((T x).map V.int)) ∧ H0 l = none :=
  let ⟨kvs, a, b, c, _⟩ := tb.dict
  ⟨kvs, a, b, c⟩
theorem TabAt.keep {H0 H H' : Hp} {t : Addr} {T : Int → List Int} {m : Nat} (tb : TabAt H0 H t T m) (s : Same H H') : TabAt H0 H' t T m := by
  obtain ⟨s0, n, kvs, hd, hm, hT, inj⟩ := tb
  exact ⟨s0.trans s, n, kvs, s _ _ hd, hm, fun k => (hT k).imp id fun ⟨l, a, b, c⟩ => ⟨l, a, s _ _ b, c⟩, inj⟩
end EB
namespace PySem
open Sem (wp)
open AutoSeq1 (wpAny_loadPart')
namespace Rv
end Rv
end PySem
namespace PySem
open Sem (wp)
open AutoSeq1 (wpAny_loadPart')
namespace Rv
def IsRev (h : Heap) (it l : Addr) (j : Nat) : Prop := ∃ o, h.get? it = some o ∧ o.cls = .type "list_reverseiterator" ∧ o.data = .fields #[.ref l, rawInt ((j : Int) - 1)]
theorem IsRev.typeIs {s : Shared} {it l : Addr} {j : Nat} (h : IsRev s.heap it l j) : s.TypeIs (.ref it) "list_reverseiterator" := let ⟨o, e, c, _⟩ := h; ⟨o, e, c⟩
section
variable {prog : Program} {w : World} {A : Around} {E : Value → Shared → Prop} {s : Shared}
end
end Rv
end PySem
namespace PySem
open Sem (wp)
open AutoSeq1 (wpAny_loadPart')
namespace Rv
section
variable {prog : Program} {w : World} {A : Around} {E : Value → Shared → Prop} {s : Shared}
end
section
variable {prog : Program} {w : World} {A : Around} {E : Value → Shared → Prop} {s : Shared}
end
end Rv
end PySem
namespace PySem
open Sem (wp)
open AutoSeq1 (wpAny_loadPart')
namespace Rv
section
variable {prog : Program} {w : World} {A : Around} {E : Value → Shared → Prop} {s : Shared}
end
end Rv
end PySem
namespace L2
open PySem PySem.Spec PyProof.Rows
section
variable {X : Cx} {e : Expr} {te : TE} {p1 p2 pos1 pos2 : Pos}
end
end L2
namespace EB
inductive Walk (pile : List Say) (a : Int) : Int → Nat → Prop
  | zero : Walk pile a a 0
  | succ {b c : Int} {n : Nat} : Walk pile a b n → Step pile b c → Walk pile a c (n + 1)
theorem Reach.walk {pile : List Say} {a b : Int} (r : Reach pile a b) : ∃ n, Walk pile a b n := by
  induction r with
  | refl => exact ⟨0, .zero⟩
  | tail _ s ih => obtain ⟨n, w⟩ := ih; exact ⟨n + 1, .succ w s⟩
def Dst (pile : List Say) (a b : Int) (n : Nat) : Prop := Walk pile a b n ∧ ∀ m, Walk pile a b m → n ≤ m
theorem walk_least {pile : List Say} {a b : Int} : ∀ n, Walk pile a b n → ∃ d, d ≤ n ∧ Dst pile a b d := by
  intro n
  induction n using Nat.strongRecOn with
  | ind n ih =>
    intro w
    by_cases h : ∃ m, m < n ∧ Walk pile a b m
    · obtain ⟨m, hm, wm⟩ := h
      obtain ⟨d, h1, h2⟩ := ih m hm wm
      exact ⟨d, by omega, h2⟩
    · refine ⟨n, Nat.le_refl _, w, fun m wm => ?_⟩
      by_cases hm : m < n
      · exact absurd ⟨m, hm, wm⟩ h
      · omega
theorem Dst.uniq {pile : List Say} {a b : Int} {m n : Nat} (x : Dst pile a b m) (y : Dst pile a b n) : m = n := Nat.le_antisymm (x.2 n y.1) (y.2 m x.1)
theorem Dst.pred {pile : List Say} {a c : Int} {n : Nat} (x : Dst pile a c (n + 1)) : ∃ b, Dst pile a b n ∧ Step pile b c := by
  obtain ⟨w, l⟩ := x
  cases w with
  | succ w s => exact ⟨_, ⟨w, fun m wm => by have := l (m + 1) (.succ wm s); omega⟩, s⟩
theorem Dst.zero {pile : List Say} {a : Int} : Dst pile a a 0 := ⟨.zero, fun _ _ => Nat.zero_le _⟩
theorem Dst.zero_eq {pile : List Say} {a b : Int} (x : Dst pile a b 0) : b = a := by
  obtain ⟨w, _⟩ := x
  cases w
  rfl
theorem Dst.back {pile : List Say} {a x : Int} {n : Nat} : ∀ k, Dst pile a x (n + k) → ∃ y, Dst pile a y n
  | 0, h => ⟨x, h⟩
  | k + 1, h => by
    obtain ⟨b, hb, _⟩ := Dst.pred (n := n + k) h
    induction k generalizing x b with
    | zero => exact ⟨b, hb⟩
    | succ k ih =>
      obtain ⟨c, hc, _⟩ := Dst.pred (n := n + k) hb
      exact ih (x := b) hb c hc ‹_›
structure LInv (pile : List Say) (a : Int) (n : Nat) (C : Int → Prop) (L : List Int) : Prop where
  seen : ∀ x, C x ↔ ∃ m, m ≤ n ∧ Walk pile a x m
  lay : ∀ x, x ∈ L ↔ Dst pile a x n
theorem LInv.start {pile : List Say} {a : Int} {C : Int → Prop} (h : ∀ x, C x ↔ x = a) : LInv pile a 0 C [a] where
  seen := fun x => by
    rw [h]
    constructor
    · rintro rfl; exact ⟨0, Nat.le_refl _, .zero⟩
    · rintro ⟨m, hm, w⟩
      obtain rfl : m = 0 := by omega
      cases w
      rfl
  lay := fun x => by
    rw [List.mem_singleton]
    constructor
    · rintro rfl; exact .zero
    · exact Dst.zero_eq
theorem LInv.next {pile : List Say} {a : Int} {n : Nat} {C C' : Int → Prop} {L L' : List Int} (i : LInv pile a n C L) (hC : ∀ x, C' x ↔ C x ∨ ∃ p ∈ L, Step pile p x) (hL : ∀ x, x ∈ L' ↔ ¬ C x ∧ ∃ p ∈ L, Step pile p x) : LInv pile a (n + 1) C' L' := by
  have key : ∀ x, ¬ C x → Walk pile a x (n + 1) → Dst pile a x (n + 1) ∧ ∃ p ∈ L, Step pile p x := fun x nc w => by
    have d : Dst pile a x (n + 1) := ⟨w, fun m wm => by
      by_cases hm : m ≤ n
      · exact absurd ((i.seen x).mpr ⟨m, hm, wm⟩) nc
      · omega⟩
    obtain ⟨b, hb, s⟩ := d.pred
    exact ⟨d, b, (i.lay b).mpr hb, s⟩
  constructor
  · intro x
    rw [hC]
    constructor
    · rintro (h | ⟨p, hp, s⟩)
      · obtain ⟨m, hm, w⟩ := (i.seen x).mp h
        exact ⟨m, by omega, w⟩
      · exact ⟨n + 1, Nat.le_refl _, .succ ((i.lay p).mp hp).1 s⟩
    · rintro ⟨m, hm, w⟩
      by_cases hc : C x
      · exact .inl hc
      · by_cases h : m ≤ n
        · exact .inl ((i.seen x).mpr ⟨m, h, w⟩)
        · obtain rfl : m = n + 1 := by omega
          exact .inr (key x hc w).2
  · intro x
    rw [hL]
    constructor
    · rintro ⟨nc, p, hp, s⟩
      exact (key x nc (.succ ((i.lay p).mp hp).1 s)).1
    · intro d
      have nc : ¬ C x := fun h => by
        obtain ⟨m, hm, w⟩ := (i.seen x).mp h
        have := d.2 m w
        omega
      exact ⟨nc, (key x nc d.1).2⟩
theorem LInv.all {pile : List Say} {a : Int} {n : Nat} {C : Int → Prop} (i : LInv pile a n C []) {x : Int} (r : Reach pile a x) : C x := by
  obtain ⟨m, w⟩ := r.walk
  obtain ⟨d, _, hd⟩ := walk_least m w
  by_cases h : d ≤ n
  · exact (i.seen x).mpr ⟨d, h, hd.1⟩
  · obtain ⟨k, rfl⟩ : ∃ k, d = n + k := ⟨d - n, by omega⟩
    obtain ⟨y, hy⟩ := Dst.back k hd
    exact absurd ((i.lay y).mpr hy) (by simp)
def Chain (pile : List Say) : List Int → Prop
  | [] => True
  | [_] => True
  | x :: y :: r => Step pile x y ∧ Chain pile (y :: r)
end EB
namespace EB
def LexLt (a b : List Bool) : Prop := ∃ k, k < a.length ∧ a.getD k false = false ∧ b.getD k false = true ∧ ∀ j, j < k → a.getD j false = b.getD j false
theorem LexLt.asymm {a b : List Bool} (h : LexLt a b) (h' : LexLt b a) : False := by
  obtain ⟨k, _, a1, b1, e⟩ := h
  obtain ⟨j, _, b2, a2, e'⟩ := h'
  rcases Nat.lt_trichotomy k j with l | l | l
  · have := e' k l; rw [a1, b1] at this; cases this
  · subst l; rw [a1] at a2; cases a2
  · have := e j l; rw [a2, b2] at this; cases this
theorem LexLt.trans {a b c : List Bool} (hl : a.length = b.length) (h : LexLt a b) (h' : LexLt b c) : LexLt a c := by
  obtain ⟨k, hk, a1, b1, e⟩ := h
  obtain ⟨j, hj, b2, c2, e'⟩ := h'
  rcases Nat.lt_trichotomy k j with l | l | l
  · exact ⟨k, hk, a1, by rw [← e' k l]; exact b1, fun i hi => (e i hi).trans (e' i (by omega))⟩
  · subst l; rw [b1] at b2; cases b2
  · exact ⟨j, by omega, by rw [e j l]; exact b2, c2, fun i hi => (e i (by omega)).trans (e' i hi)⟩
end EB
namespace EB
open PySem L2
abbrev CF := List (Int × Option Int)
def keys (C : CF) : List Int := C.map (·.1)
theorem keys_app (C E : CF) : keys (C ++ E) = keys C ++ keys E := by unfold keys; rw [List.map_append]
structure NInv (n : Nat) (pile : List Say) (C : CF) (L : List Int) (done : Int → Prop) (E : CF) : Prop where
  nd : (keys (C ++ E)).Nodup
  lit : ∀ x ∈ keys (C ++ E), Lit n x
  new : ∀ y o, (y, o) ∈ E → ∃ p ∈ L, o = some p ∧ Step pile p y
  all : ∀ p y, done p → Step pile p y → y ∈ keys (C ++ E)
theorem NInv.start {n : Nat} {pile : List Say} {C : CF} {L : List Int} (nd : (keys C).Nodup) (lit : ∀ x ∈ keys C, Lit n x) : NInv n pile C L (fun _ => False) [] := by
  refine ⟨by rw [List.append_nil]; exact nd, by rw [List.append_nil]; exact lit, (fun y o h => nomatch h), fun p y h => False.elim h⟩
theorem NInv.mono {n : Nat} {pile : List Say} {C E : CF} {L : List Int} {done done' : Int → Prop} (i : NInv n pile C L done E) (h : ∀ p, done' p → done p ∨ ∀ y, Step pile p y → y ∈ keys (C ++ E)) : NInv n pile C L done' E :=
  ⟨i.nd, i.lit, i.new, fun p y hp s => (h p hp).elim (fun z => i.all p y z s) fun z => z y s⟩
theorem NInv.len {n : Nat} {pile : List Say} {C E : CF} {L : List Int} {done : Int → Prop} (i : NInv n pile C L done E) : (C ++ E).length ≤ 2 * n := by
  have := lits_le i.nd i.lit
  rw [keys, List.length_map] at this
  exact this
structure SInv (n : Nat) (pile : List Say) (a : Int) (k : Nat) (C : CF) (L : List Int) : Prop where
  li : LInv pile a k (· ∈ keys C) L
  nd : (keys C).Nodup
  lit : ∀ x ∈ keys C, Lit n x
  par : ∀ x o, (x, o) ∈ C → (o = none ∧ x = a) ∨ ∃ p d, o = some p ∧ Step pile p x ∧ Dst pile a p d ∧ Dst pile a x (d + 1)
theorem SInv.start {n : Nat} {pile : List Say} {a : Int} (h : Lit n a) : SInv n pile a 0 [(a, none)] [a] where
  li := LInv.start fun x => by simp [keys]
  nd := by simp [keys]
  lit := fun x hx => by
    have : x = a := by simpa [keys] using hx
    subst this; exact h
  par := fun x o hx => by
    rw [List.mem_singleton] at hx
    cases hx
    exact .inl ⟨rfl, rfl⟩
theorem SInv.next {n : Nat} {pile : List Say} {a : Int} {k : Nat} {C E : CF} {L : List Int} (s : SInv n pile a k C L) (i : NInv n pile C L (· ∈ L) E) : SInv n pile a (k + 1) (C ++ E) (keys E) := by
  have disj : ∀ y, y ∈ keys E → y ∉ keys C := fun y h1 h2 => by
    have := i.nd
    rw [keys_app, List.nodup_append] at this
    exact this.2.2 y h2 y h1 rfl
  have hL : ∀ x, x ∈ keys E ↔ ¬ x ∈ keys C ∧ ∃ p ∈ L, Step pile p x := fun x => by
    constructor
    · intro h
      obtain ⟨⟨y, o⟩, hm, rfl⟩ := List.mem_map.mp h
      obtain ⟨p, hp, _, st⟩ := i.new y o hm
      exact ⟨disj _ h, p, hp, st⟩
    · rintro ⟨h1, p, hp, st⟩
      have := i.all p x hp st
      rw [keys_app] at this
      exact (List.mem_append.mp this).resolve_left h1
  have hC : ∀ x, x ∈ keys (C ++ E) ↔ x ∈ keys C ∨ ∃ p ∈ L, Step pile p x := fun x => by
    constructor
    · intro h
      rw [keys_app] at h
      rcases List.mem_append.mp h with h | h
      · exact .inl h
      · exact .inr ((hL x).mp h).2
    · rintro (h | ⟨p, hp, st⟩)
      · rw [keys_app]; exact List.mem_append_left _ h
      · exact i.all p x hp st
  have li := s.li.next hC hL
  refine ⟨li, i.nd, i.lit, fun x o hx => ?_⟩
  rcases List.mem_append.mp hx with hx | hx
  · exact s.par x o hx
  · obtain ⟨p, hp, e, st⟩ := i.new x o hx
    exact .inr ⟨p, k, e, st, (s.li.lay p).mp hp, (li.lay x).mp (List.mem_map.mpr ⟨(x, o), hx, rfl⟩)⟩
structure RoadOf (pile : List Say) (a b : Int) (P : List Int) : Prop where
  ch : Chain pile P
  hd : P.head? = some a
  lt : P.getLast? = some b
  di : ∃ d, Dst pile a b d ∧ P.length = d + 1
structure TInv (pile : List Say) (a b : Int) (d : Nat) (T : List Int) (x : Int) (k : Nat) : Prop where
  dx : Dst pile a x k
  len : T.length + k = d
  ch : Chain pile (x :: T.reverse)
  lt : (x :: T.reverse).getLast? = some b
theorem TInv.start {pile : List Say} {a b : Int} {d : Nat} (h : Dst pile a b d) : TInv pile a b d [] b d := ⟨h, by simp, trivial, rfl⟩
theorem TInv.step {pile : List Say} {a b p x : Int} {d k : Nat} {T : List Int} (t : TInv pile a b d T x (k + 1)) (s : Step pile p x) (dp : Dst pile a p k) : TInv pile a b d (T ++ [x]) p k where
  dx := dp
  len := by rw [List.length_append, List.length_singleton]; have := t.len; omega
  ch := by rw [List.reverse_append]; exact ⟨s, t.ch⟩
  lt := by
    rw [List.reverse_append]
    show (p :: x :: T.reverse).getLast? = some b
    rw [List.getLast?_cons_cons]
    exact t.lt
theorem TInv.done {pile : List Say} {a b x : Int} {d : Nat} {T : List Int} (t : TInv pile a b d T x 0) (h : Dst pile a b d) : RoadOf pile a b (T ++ [x]).reverse := by
  have e : (T ++ [x]).reverse = x :: T.reverse := by rw [List.reverse_append]; rfl
  rw [e]
  refine ⟨t.ch, ?_, t.lt, d, h, ?_⟩
  · rw [t.dx.zero_eq]; rfl
  · rw [List.length_cons, List.length_reverse]; have := t.len; omega
end EB
namespace EB
open PySem L2
end EB
namespace EB
open PySem L2
end EB
namespace EB
open PySem L2
end EB
namespace EB
open PySem L2
end EB
namespace L2
open PySem PySem.Spec PyProof.Rows
end L2
namespace EB
open PySem L2
end EB
namespace EB
open PySem L2
abbrev RowsAt (H : Hp) : List Addr → List (List Bool) → Prop := Paired fun (a : Addr) (S : List Bool) => H a = some (.lst (S.map V.bl))
theorem RowsAt.same {H H' : Hp} (s : Same H H') : ∀ {as : List Addr} {rs : List (List Bool)}, RowsAt H as rs → RowsAt H' as rs
  | _, _, .nil => .nil
  | _, _, .cons r t => .cons (s _ _ r) (RowsAt.same s t)
theorem RowsAt.length {H : Hp} {as : List Addr} {rs : List (List Bool)} (t : RowsAt H as rs) : as.length = rs.length := Paired.length t
theorem RowsAt.get {H : Hp} : ∀ {as : List Addr} {rs : List (List Bool)} {i : Nat} {x : V}, RowsAt H as rs → (as.map V.ref)[i]? = some x → ∃ a S, x = .ref a ∧ as[i]? = some a ∧ rs[i]? = some S ∧ H a = some (.lst (S.map V.bl))
  | _, _, _, _, .nil, h => by simp at h
  | _, _, 0, _, .cons (a := a) (b := c) r _, h => by
    simp at h
    exact ⟨a, c, h.symm, rfl, rfl, r⟩
  | _, _, i + 1, x, .cons _ t, h => by
    obtain ⟨a, c, e1, e2, e3, e4⟩ := RowsAt.get (i := i) (x := x) t (by simpa using h)
    exact ⟨a, c, e1, by simpa using e2, by simpa using e3, e4⟩
theorem RowsAt.snoc {H : Hp} {a : Addr} {S : List Bool} : ∀ {as : List Addr} {rs : List (List Bool)}, RowsAt H as rs → H a = some (.lst (S.map V.bl)) → RowsAt H (as ++ [a]) (rs ++ [S])
  | _, _, .nil, h => .cons h .nil
  | _, _, .cons r t, h => .cons r (RowsAt.snoc t h)
theorem RowsAt.keep {H H' : Hp} : ∀ {as : List Addr} {rs : List (List Bool)}, RowsAt H as rs → (∀ a ∈ as, ∀ o, H a = some o → H' a = some o) → RowsAt H' as rs
  | _, _, .nil, _ => .nil
  | _, _, .cons (a := a) r t, k => .cons (k a List.mem_cons_self _ r) (RowsAt.keep t fun b hb => k b (List.mem_cons_of_mem _ hb))
end EB
namespace EB
open PySem L2
mutual
theorem eqv_self : ∀ d : PyData, d.canLay0 = true → PyData.eqv d d = true
  | .none, _ => by simp [PyData.eqv]
  | .bool b, _ => by simp [PyData.eqv]
  | .int i, _ => by simp [PyData.eqv]
  | .str x, _ => by simp [PyData.eqv]
  | .list xs, h => by simp only [PyData.eqv]; exact eqvAll_self xs (by simpa [PyData.canLay0] using h)
  | .tuple xs, h => by simp only [PyData.eqv]; exact eqvAll_self xs (by simpa [PyData.canLay0] using h)
  | .dict _, h => by simp [PyData.canLay0] at h
theorem eqvAll_self : ∀ xs : List PyData, PyData.canLayAll0 xs = true → PyData.eqvAll xs xs = true
  | [], _ => by simp [PyData.eqvAll]
  | x :: r, h => by
    have h' : x.canLay0 = true ∧ PyData.canLayAll0 r = true := by simpa [PyData.canLayAll0] using h
    simp only [PyData.eqvAll, eqv_self x h'.1, eqvAll_self r h'.2, Bool.and_self]
end
theorem ne_self {d : PyData} (h : SeqAt.shaped d = true) : (if true = true then !PyData.eqv d d else PyData.eqv d d) = false := by
  rw [eqv_self d (SeqAt.canLay_of_shaped h)]
  rfl
end EB
namespace EB
open PySem L2
end EB
namespace EB
open PySem L2
def b2 (b : Bool) : Int := if b then 1 else 0
end EB
namespace L2
open PySem PySem.Spec PyProof.Rows
end L2
namespace EB
open PySem L2
theorem cut_take (xs : List V) (k : Nat) : cutV xs none (some (k : Int)) = xs.take k := by
  have e1 : HT.sIx xs.length 0 none = 0 := rfl
  have e2 : HT.sIx xs.length xs.length (some (k : Int)) = min k xs.length := HT.sIx_nat _ _ _
  unfold cutV
  rw [e1, e2, List.drop_zero, Nat.sub_zero]
  by_cases h : k ≤ xs.length
  · rw [Nat.min_eq_left h]
  · rw [Nat.min_eq_right (by omega), List.take_of_length_le (Nat.le_refl _), List.take_of_length_le (by omega)]
theorem cut_drop (xs : List V) (k : Nat) : cutV xs (some (k : Int)) none = xs.drop k := by
  have e1 : HT.sIx xs.length 0 (some (k : Int)) = min k xs.length := HT.sIx_nat _ _ _
  have e2 : HT.sIx xs.length xs.length none = xs.length := rfl
  unfold cutV
  rw [e1, e2]
  by_cases h : k ≤ xs.length
  · rw [Nat.min_eq_left h, List.take_of_length_le (by rw [List.length_drop]; exact Nat.le_refl _)]
  · rw [Nat.min_eq_right (by omega), List.drop_of_length_le (Nat.le_refl _), List.drop_of_length_le (by omega)]
    simp
end EB
namespace EB
open PySem L2
structure CInv (n : Nat) (pile : List Say) (W F : List Int) (k : Nat) : Prop where
  ex : ∃ E, F = W ++ E ∧ E.Nodup ∧ ∀ x ∈ E, Lit n x
  fr : ∀ x ∈ F, RS pile (· ∈ W) x
  dn : ∀ p ∈ F.take k, ∀ z, Step pile p z → z ∈ F
theorem CInv.start (n : Nat) (pile : List Say) (W : List Int) : CInv n pile W W 0 where
  ex := ⟨[], by simp, List.nodup_nil, (fun x h => nomatch h)⟩
  fr := fun x h => RS.of h
  dn := fun p h => by simp at h
theorem CInv.len {n : Nat} {pile : List Say} {W F : List Int} {k : Nat} (c : CInv n pile W F k) : F.length ≤ W.length + 2 * n := by
  obtain ⟨E, rfl, nd, lt⟩ := c.ex
  have := lits_le nd lt
  rw [List.length_append]
  omega
theorem CInv.next {n : Nat} {pile : List Say} {W F : List Int} {k : Nat} {p : Int} (c : CInv n pile W F k) (hp : F[k]? = some p) (h : ∀ z, Step pile p z → z ∈ F) : CInv n pile W F (k + 1) where
  ex := c.ex
  fr := c.fr
  dn := fun q hq y hy => by
    rw [take_snoc hp] at hq
    rcases List.mem_append.mp hq with hq | hq
    · exact c.dn q hq y hy
    · rw [List.mem_singleton] at hq; subst hq; exact h y hy
theorem CInv.done {n : Nat} {pile : List Say} {W F : List Int} {k : Nat} (c : CInv n pile W F k) (hk : F.length ≤ k) (x : Int) : x ∈ F ↔ RS pile (· ∈ W) x := by
  refine ⟨c.fr x, fun ⟨l, hl, r⟩ => ?_⟩
  obtain ⟨E, e, _, _⟩ := c.ex
  have d := c.dn
  rw [List.take_of_length_le hk] at d
  induction r with
  | refl => rw [e]; exact List.mem_append_left _ hl
  | tail r s ih => exact d _ (ih ⟨l, hl, r⟩) _ s
end EB
namespace L2
open PySem PySem.Spec PyProof.Rows
section
variable {X : Cx} {tg : Expr}
end
end L2
namespace PySem
open Sem (wp)
open AutoSeq1 (wpAny_loadPart')
namespace F
end F
section
variable {prog : Program} {w : World} {A : Around} {E : Value → Shared → Prop} {s : Shared}
end
end PySem
namespace L2
open PySem PySem.Spec PyProof.Rows
section
variable {X : Cx} {pins : List (Addr × Obj)} {σ : List (Option V)} {H H' : Hp} {s : Shared} {h' : Heap}
end
section
variable {X : Cx}
end
end L2
namespace EB
open PySem L2
end EB
namespace L2
open PySem PySem.Spec PyProof.Rows PySem.SeqAt
variable {X : Cx}
end L2
namespace EB
open PySem L2
def NextIs (n : Nat) (pile : List Say) (S : List Bool) : Option (List Bool) → Prop
  | none => ∀ s : List Bool, s.length = n → goodB pile s = true → ¬ LexLt S s
  | some R => R.length = n ∧ goodB pile R = true ∧ LexLt S R ∧ ∀ s : List Bool, s.length = n → goodB pile s = true → LexLt S s → s = R ∨ LexLt R s
theorem NextIs.uniq {n : Nat} {pile : List Say} {S : List Bool} : ∀ {r q : Option (List Bool)}, NextIs n pile S r → NextIs n pile S q → r = q
  | none, none, _, _ => rfl
  | none, some R, h, ⟨a, b, c, _⟩ => absurd c (h R a b)
  | some R, none, ⟨a, b, c, _⟩, h => absurd c (h R a b)
  | some R, some T, ⟨a, b, c, d⟩, ⟨a', b', c', d'⟩ => by
    rcases d T a' b' c' with e | e
    · rw [e]
    · rcases d' R a b c with e' | e'
      · rw [e']
      · exact (e.asymm e').elim
theorem eq_self_bl {d : PyData} (h : SeqAt.shaped d = true) : V.bl (if false = true then !PyData.eqv d d else PyData.eqv d d) = .bl true := by
  have := ne_self h
  rw [if_pos rfl] at this
  rw [if_neg (by decide)]
  cases e : PyData.eqv d d with
  | true => rfl
  | false => rw [e] at this; cases this
end EB
namespace L2
open PySem PySem.Spec PyProof.Rows
section
variable {X : Cx} {scope : Scope} {cl : List (Str × Addr)} {N' : List Str} {mv : List (Option Nat)} {pos : Pos}
end
end L2
namespace EB
open PySem L2
end EB
namespace L2
open PySem PySem.Spec PyProof.Rows
section
variable {X : Cx}
end
end L2
namespace EB
open PySem L2
end EB
namespace EB
open PySem L2
end EB
namespace L2
open PySem PySem.Spec PyProof.Rows
section
variable {X : Cx} {e v1 v2 : Expr} {es : List Expr} {te : TE} {pos : Pos}
def PJ (X : Cx) (es : List Expr) (t : Str → TE) : Prop :=
  ∀ (out : Str) (pins : List (Addr × Obj)) (s : Shared) (σ : St) (H : Hp) (Q : VK), Inv X pins σ H s → t out σ H Q → wpAny (model X.prog X.w) X.A (joinParts out (evalEach es X.env)) (EP X pins σ Q) X.xe s
def jNil : Str → TE := fun out _ H Q => out.length ≤ sizeLine ∧ Q (.str out) H
def jCons (te : TE) (t : Str → TE) : Str → TE := fun out σ H Q => te σ H fun x H1 => ∃ y, x = .str y ∧ (out ++ y).length ≤ sizeLine ∧ t (out ++ y) σ H1 Q
theorem pj_nil : PJ X [] jNil := fun out pins s σ H Q I h => joinParts_nil ⟨.str out, H, I.tok _, ⟨_, rfl⟩, h.2⟩ h.1
theorem pj_cons {t : Str → TE} (he : PE X e te) (hr : PJ X es t) (hs : evalEach (e :: es) X.env = eval e X.env :: evalEach es X.env := by rfl) : PJ X (e :: es) (jCons te t) := by
  intro out pins s σ H Q I h
  rw [hs]
  refine joinParts_cons (thn (he pins s σ H _ I h) fun u s1 ⟨x, H1, I1, r, y, ex, hz, q⟩ => ?_)
  subst ex
  obtain ⟨tk, rfl⟩ := r
  exact ⟨hz, hr _ pins s1 σ H1 Q I1 q⟩
theorem pe_text {t : Str → TE} (h : PJ X (v1 :: v2 :: es) t) (hs : evalEach (v1 :: v2 :: es) X.env = eval v1 X.env :: eval v2 X.env :: evalEach es X.env := by rfl) : PE X (.JoinedStr (v1 :: v2 :: es) pos) (t Str.empty) := by
  intro pins s σ H Q I hq
  refine JoinedStr_many ?_
  rw [← hs]
  exact h _ pins s σ H Q I hq
theorem vals_strs : ∀ (l : List (Str × Tok)), Vals ((l.map (·.1)).map V.str) (strValues l)
  | [] => .nil
  | p :: r => .cons ⟨p.2, rfl⟩ (vals_strs r)
def rSplit : V → List V → Hp → VK → Prop := fun x vs H Q => ∃ z y, x = .str z ∧ vs = [.str y] ∧ (y.length == 0) = false ∧ z.length + 2 ≤ sizeLine ∧ (Txt.split z y).length ≤ sizeLine ∧ ∀ l, H l = none → Q (.ref l) (upd H l (.lst ((Txt.split z y).map V.str)))
theorem mt_split : MtM X "str.split" rSplit := by
  intro pins s σ H x vs v us Q I rx rv h
  obtain ⟨z, y, rfl, rfl, hy, hz, hn, q⟩ := h
  obtain ⟨t, rfl⟩ := rx
  obtain ⟨u, rfl, ru⟩ := rv.one
  obtain ⟨t', rfl⟩ := ru
  have hf := I.hok.fresh (Nat.le_refl s.heap.objs.size)
  have put : ∀ (l : List (Str × Tok)) (k : Nat), l.map (·.1) = Txt.split z y → EP X pins σ Q (.ref s.heap.objs.size) { s with heap := s.heap.push { cls := .type "list", data := .seq (strValues l).toArray }, toks := k } := fun l k el => by
    refine ⟨.ref s.heap.objs.size, upd H s.heap.objs.size (.lst ((Txt.split z y).map V.str)), I.laid (t' := k) (fun b o q => Heap.get?_push_of_some _ q) (Nat.le_refl _) ?_, rfl, q _ hf⟩
    refine ⟨by rw [List.length_map]; exact hn, strValues l, 0, ?_, Heap.get?_push_size _ rfl⟩
    rw [← el]
    exact vals_strs l
  have hlen : (Builtin.Str.partsBetween z (Builtin.Str.occurrences z y 0 z.length (z.length + 1)) y.length).length ≤ sizeLine := by
    have e1 := StrLaws.occ_length_le z y 0 z.length (z.length + 1)
    rw [length_partsBetween]
    omega
  by_cases c1 : (decide (z.length < y.length) || decide (Builtin.Str.strKind z < Builtin.Str.strKind y)) = true
  · exact call_meets F.slot_str_split (typeIs_str _ _ _) F.entry_str_split (F.args_str_split_2 _ _) (meets_str_split_cannot_occur z y t t' c1) (put [(z, t)] s.toks (by unfold Txt.split; rw [if_pos c1]; rfl))
  · have c1' := (Bool.not_eq_true _).mp c1
    by_cases c2 : (Builtin.Str.occurrences z y 0 z.length (z.length + 1)).isEmpty = true
    · exact call_meets F.slot_str_split (typeIs_str _ _ _) F.entry_str_split (F.args_str_split_2 _ _) (meets_str_split_not_found z y t t' c1' hy c2) (put [(z, t)] s.toks (by unfold Txt.split; rw [if_neg c1, if_pos c2]; rfl))
    · have c2' := (Bool.not_eq_true _).mp c2
      refine call_meets F.slot_str_split (typeIs_str _ _ _) F.entry_str_split (F.args_str_split_2 _ _) (meets_str_split_sep z y t t' c1' hy c2' (by omega) hlen) ?_
      have := put (numbered s.toks (Builtin.Str.partsBetween z (Builtin.Str.occurrences z y 0 z.length (z.length + 1)) y.length)) (s.toks + (Builtin.Str.partsBetween z (Builtin.Str.occurrences z y 0 z.length (z.length + 1)) y.length).length) (by unfold Txt.split; rw [if_neg c1, if_neg c2]; exact numbered_texts _ _)
      rw [← strsFrom_eq] at this
      exact this
end
end L2
namespace EB
open PySem L2
def bl : Str := ⟨#[32]⟩
theorem split_ne (x y : Str) : Txt.split x y ≠ [] := by
  intro h
  have := StrLaws.join_split x y
  unfold Txt.split at h
  split at h
  · cases h
  · split at h
    · cases h
    · rw [StrLaws.partsBetween_eq] at h
      obtain ⟨p, r, e⟩ := StrLaws.partsFrom_ne x y.length 0 (Builtin.Str.occurrences x y 0 x.length (x.length + 1))
      rw [e] at h
      cases h
theorem split_len (x : Str) : (Txt.split x bl).length ≤ x.length + 2 := by
  unfold Txt.split
  split
  · simp
  · split
    · simp
    · have e1 := StrLaws.occ_length_le x bl 0 x.length (x.length + 1)
      rw [length_partsBetween]
      omega
def iS (i : Int) : Str := toString i
def numB (s : Str) : Int := s.cps.toList.foldl (fun (a : Int) (c : Nat) => 10 * a + ((c : Int) - 48)) 0
theorem num_all : ∀ n : Fin 61, numB (iS (n.val : Int)) = (n.val : Int) ∧ 32 ∉ (iS (n.val : Int)).cps.toList ∧ (iS (n.val : Int)).length ≤ 2 ∧ iS (n.val : Int) ≠ "not" := by decide +kernel
theorem num_back {n : Nat} (h : n ≤ 60) : numB (iS (n : Int)) = (n : Int) := (num_all ⟨n, by omega⟩).1
theorem num_len {n : Nat} (h : n ≤ 60) : (iS (n : Int)).length ≤ 2 := (num_all ⟨n, by omega⟩).2.2.1
theorem num_not {n : Nat} (h : n ≤ 60) : iS (n : Int) ≠ "not" := (num_all ⟨n, by omega⟩).2.2.2
theorem num_inj {m n : Nat} (hm : m ≤ 60) (hn : n ≤ 60) (e : iS (m : Int) = iS (n : Int)) : m = n := by
  have h1 := num_back hm
  have h2 := num_back hn
  rw [e] at h1
  omega
end EB
namespace EB
open PySem L2
theorem bl_eq : (" " : Str) = bl := by decide +kernel
def numW (w : Str) : Option Int := ((List.range 60).find? fun i => w == iS ((i + 1 : Nat) : Int)).map fun i => ((i + 1 : Nat) : Int)
def litR : List Str → Option Int
  | [w] => numW w
  | [n, w] => if n = "not" then (numW w).map fun x => -x else none
  | _ => none
def joinR (a : Int) (w : Str) (b : Int) : Option (List Say) :=
  if w = "or" then some [(a, b)] else if w = "then" then some [(-a, b)] else if w = "as" then some [(-a, b), (a, -b)] else if w = "unlike" then some [(a, b), (-a, -b)] else none
def endR (ws : List Str) : Nat := if ws.getD 0 bl = "not" then 2 else 1
def readR (ws : List Str) : Option (List Say) :=
  match litR (ws.take (endR ws)) with
  | none => none
  | some a => if ws.length = endR ws then some [(a, a)] else match litR (ws.drop (endR ws + 1)) with
    | none => none
    | some b => joinR a (ws.getD (endR ws) bl) b
theorem find_range {p : Nat → Bool} {n i : Nat} (hi : i < n) (no : ∀ j, j < i → p j = false) (h : p i = true) : (List.range n).find? p = some i := by
  rw [List.find?_eq_some_iff_getElem]
  refine ⟨h, i, by simpa using hi, by simp, fun j hj => ?_⟩
  simp only [List.getElem_range, no j hj]
  rfl
theorem numW_at {w : Str} {i : Nat} (hi : i < 60) (no : ∀ j, j < i → w ≠ iS ((j + 1 : Nat) : Int)) (h : w = iS ((i + 1 : Nat) : Int)) : numW w = some ((i + 1 : Nat) : Int) := by
  unfold numW
  rw [find_range hi (fun j hj => by rw [beq_eq_false_iff_ne]; exact no j hj) (by rw [beq_iff_eq]; exact h)]
  rfl
theorem numW_none {w : Str} (no : ∀ j, j < 60 → w ≠ iS ((j + 1 : Nat) : Int)) : numW w = none := by
  unfold numW
  rw [List.find?_eq_none.mpr]
  · rfl
  · intro j hj
    rw [beq_iff_eq]
    exact no j (List.mem_range.mp hj)
theorem numW_num {n : Nat} (h1 : 1 ≤ n) (h2 : n ≤ 60) : numW (iS (n : Int)) = some (n : Int) := by
  obtain ⟨i, rfl⟩ : ∃ i, n = i + 1 := ⟨n - 1, by omega⟩
  refine numW_at (by omega) (fun j hj e => ?_) rfl
  have := num_inj h2 (by omega) e
  omega
end EB
namespace EB
open PySem L2
end EB
namespace PySem.W
open PySem PySem.Spec PySem.Calls PyProof.Rows
section
variable {prog : Program} {w : World} {A : Around} {E : Value → Shared → Prop} {s : Shared} {K : Frag} {x C : Addr} {ox : Obj}
def OfCls (h : Heap) (x C : Addr) : Prop := ∃ o, h.get? x = some o ∧ o.cls = .ref C
theorem OfCls.type {M : Model} {h : Heap} (I : OfCls h x C) : Looks M h (typeOf (.ref x)) (.ref C) := by
  obtain ⟨o, e, c⟩ := I
  exact c ▸ (Looks.ld e).andThen .now
theorem xc_find {M : Model} {h : Heap} (X : K.In h) (ha : findIn K (.ref C) "__class__" = some (some (.builtin "object.__class__"))) (hn : specialIn K (.builtin "object.__class__") "__get__" = some (some (.builtin "getset_descriptor.__get__"))) (htk : takesIn K (.builtin "object.__class__") = some true) :
    Looks M h (Builtin.ObjectAttr.find (.ref x) (.ref C) "__class__") (.bind (.builtin "getset_descriptor.__get__") (.builtin "object.__class__")) := by
  refine (looks_findIn X ha).andThen ((looks_specialIn X hn).andThen ?_)
  have L3 := looks_takesIn (M := M) X htk
  refine Looks.andThen (show Looks M h (Builtin.ObjectAttr.dataDescriptor? (some (.builtin "object.__class__")) (some (.builtin "getset_descriptor.__get__"))) (some (.builtin "getset_descriptor.__get__", .builtin "object.__class__")) from L3.andThen .now) ?_
  exact Looks.tag .now
theorem xc_get {R : Result → Shared → Prop} {tp : Value} (X : K.In s.heap) (I : OfCls s.heap x C) (hm : mroIn K C (.type "object") = some true) (h : R (.ok (.ret (.ref C))) s) :
    codeAny (model prog w) A (.call (.builtin "getset_descriptor.__get__") ⟨[.builtin "object.__class__", .ref x, tp], []⟩) R s := by
  obtain ⟨hp, gs, dw, tk, o5⟩ := s
  have L0 := I.type (M := model prog w)
  have L1 := looks_mroIn (M := model prog w) X hm
  refine codeAny_call_builtin KF.slot_gs.plain KF.entry_gs ?_
  refine KF.slot_gs.check _ _ _ _ _ _ _ _ KF.type_class (KF.args_gs _ _ _) ?_
  unfold Builtin.«getset_descriptor.__get__» Builtin.Getset_descriptor.descrGet
  rw [dga_obj]
  refine wpAny_bind (wpAny_pure ?_)
  unfold Builtin.Getset_descriptor.descrGetter Builtin.Getset_descriptor.descrCheckInstance Builtin.Getset_descriptor.descrNameAndClass isInstance; simp only [KF.owner_class]
  repeat lk
  refine ⟨Code.quiet_builtin _ (by decide +kernel), ?_⟩
  refine codeAny_builtin KF.entry_class ?_
  unfold Builtin.«object.__class__» shownTypeOf
  repeat lk
  exact h
theorem xc_class {Q : Option Value → Shared → Prop} (X : K.In s.heap) (I : OfCls s.heap x C) (hga : findIn K (.ref C) "__getattribute__" = some (some (.builtin "BaseException.__getattribute__"))) (hgt : findIn K (.ref C) "__getattr__" = some none)
    (ha : findIn K (.ref C) "__class__" = some (some (.builtin "object.__class__"))) (hn : specialIn K (.builtin "object.__class__") "__get__" = some (some (.builtin "getset_descriptor.__get__"))) (htk : takesIn K (.builtin "object.__class__") = some true)
    (hm : mroIn K C (.type "object") = some true) (hb : mroIn K C (.type "BaseException") = some true)
    (h : Q (some (.ref C)) { s with toks := s.toks + 1 }) : wpAny (model prog w) A (getAttr? (.ref x) "__class__") Q E s := by
  obtain ⟨hh, g, d, t, os⟩ := s
  have L0 := I.type (M := model prog w)
  have L1 := looks_findIn (M := model prog w) X hga
  have L2 := looks_hook (M := model prog w) (mc := .ref C) X (r := none) hgt
  have L3 := xc_find (M := model prog w) (x := x) X ha hn htk
  have L4 := looks_mroIn (M := model prog w) X hb
  unfold getAttr? getAttrBy? getAttrBy
  refine wpAny_bind (wpAny_mkText (wpAny_bind (wpAny_attempt (wpAny_holding (wpAny_bind (L0.at (wpAny_bind (L1.at ?_))))))))
  dsimp only
  rw [show (onTheHeap (Value.ref C) && Value.builtin "BaseException.__getattribute__" == Value.builtin "object.__getattribute__") = false by rw [show (Value.builtin "BaseException.__getattribute__" == Value.builtin "object.__getattribute__") = false by decide +kernel]; rfl]
  show wpAny _ _ (getAttrByItsOwn _ _ _ _ _ _) _ _ _
  unfold getAttrByItsOwn
  refine wpAny_bind (L2.at (wpAny_bind (wpAny_attempt (wpAny_holding ?_))))
  have hbd := F.excAttr_ValueError.ga.bind (.ref x)
  unfold callGetattribute boundAndCalled
  rw [show (false && onTheHeap (Value.builtin "BaseException.__getattribute__")) = false from rfl]
  dsimp only [Bool.false_eq_true, if_false]
  refine wpAny_bind (wpAny_of_eq hbd ?_)
  refine wpAny_call (codeAny_call_builtin F.excAttr_ValueError.ga.plain F.entry_bexc_ga ?_)
  have hk : builtinKind "BaseException.__getattribute__" = some .slot := by kernel_rfl
  have hsp : splitId "BaseException.__getattribute__" = some ("BaseException", "__getattribute__") := by kernel_rfl
  have hargs := F.args_bexc_ga (.ref x) (.str "__class__" t)
  simp only [checkBuiltinCall, hk, hsp]
  refine wpAny_bind ?_
  unfold isInstance
  refine wpAny_bind (L0.at (L4.at ?_))
  rw [if_neg (by decide)]
  refine wpAny_of_eq hargs ?_
  show wpAny _ _ (Builtin.«object.__getattribute__» ⟨[.ref x, .str "__class__" t], []⟩) _ _ _
  unfold Builtin.«object.__getattribute__»
  refine wpAny_bind (wpAny_pure (wpAny_bind (wpAny_pure (wpAny_bind (L0.at (wpAny_bind (L3.at ?_)))))))
  show wpAny _ _ (do ret (← holding [Value.builtin "object.__class__"] (call (.builtin "getset_descriptor.__get__") [.builtin "object.__class__", .ref x, .ref C]))) _ _ _
  refine wpAny_bind (wpAny_holding (wpAny_call (xc_get (s := ⟨hh, g, d, t + 1, os⟩) X I hm ?_)))
  refine wpAny_pure ?_
  exact handed_on rfl (wpAny_pure h)
theorem kitx_exc (hc : hasDictIn K C = true) (hga : findIn K (.ref C) "__getattribute__" = some (some (.builtin "BaseException.__getattribute__"))) (hgt : findIn K (.ref C) "__getattr__" = some none)
    (ha : findIn K (.ref C) "__class__" = some (some (.builtin "object.__class__"))) (hn : specialIn K (.builtin "object.__class__") "__get__" = some (some (.builtin "getset_descriptor.__get__"))) (htk : takesIn K (.builtin "object.__class__") = some true)
    (hm : mroIn K C (.type "object") = some true) (hb : mroIn K C (.type "BaseException") = some true) :
    KitX K (.ref x) (.ref C) (fun h => OfCls h x C) where
  ty := fun _ _ _ I => I.type
  it := fun M h X _ => by
    obtain ⟨cd, e, _⟩ := any_some hc
    unfold clsIn at e
    split at e
    · rename_i ho
      intro A' Q' E' s' kk qq
      unfold isType loadHead
      exact wpAny_bind (wpAny_loadPart (kk _ _ (X _ _ ho)) (wpAny_pure qq))
    · cases e
  ne := fun h tp dd its n sl X htp => by
    obtain ⟨cd, e, _⟩ := any_some hc
    refine Bool.eq_false_iff.mpr fun qq => ?_
    obtain rfl : C = tp := Value.ref.inj (beq_iff_eq.mp qq)
    unfold clsIn at e
    split at e
    · rename_i ho
      have zz := (X _ _ ho).symm.trans htp
      cases zz
    · cases e
  ca := fun X I kk => xc_class X I hga hgt ha hn htk hm hb kk
def vMro : List Value := [.type "ValueError", .type "Exception", .type "BaseException", .type "object"]
theorem exc_obj {h : Heap} (X : K.In h) (q : excIn K C vMro "ValueError.__new__" = true) : ∃ nm qn N bs bm hd sn sub ab col dd k0 k1 k2 k3 k5 mN, h.get? C = some (excClassObj nm qn C N bs bm hd sn sub ab col dd k0 k1 k2 k3 k5 "ValueError.__new__") ∧ h.Ns N mN ∧ mN "__init__" = none ∧ OwnTail h vMro bm ∧
    ∀ D, mroIn K C (.ref D) = some ((Value.ref C :: bm).contains (.ref D)) := by
  unfold excIn at q
  split at q
  case h_2 => cases q
  case h_1 dd cd sl look =>
    split at q
    case h_2 => cases q
    case h_1 C' bm a0 a1 a2 a3 n a5 mro slots =>
      simp only [Bool.and_eq_true, beq_iff_eq, Bool.not_eq_true'] at q
      obtain ⟨⟨⟨⟨⟨eC, en⟩, del⟩, tl⟩, nok⟩, nin⟩ := q
      subst eC en
      have look' := X _ _ look
      have hsub : ∀ D, mroIn K C' (.ref D) = some ((Value.ref C' :: bm).contains (.ref D)) := fun D => by
        unfold mroIn clsIn
        rw [look]
        show (if cd.mro.isEmpty then none else some (cd.mro.contains (Value.ref D))) = _
        rw [mro]
        rfl
      obtain ⟨c1, c2, c3, c4, c5, c6, c7, c8, c9, c10, c11⟩ := cd
      dsimp only at mro del nok nin look'
      subst mro del
      obtain ⟨ls⟩ := sl
      dsimp only at slots
      subst slots
      exact ⟨c1, c5, c4, c2, bm, c6, c7, c8, c9, c10, dd, a0, a1, a2, a3, a5, _, look', .of_isNs (isNs_of_in X nok), nsMap_none_of_in X nok nin, tail_of_in X tl, hsub⟩
theorem xc_matches {D : Addr} {oe : Obj} {Q : Bool → Shared → Prop} (X : K.In s.heap) (qC : excIn K C vMro "ValueError.__new__" = true) (qD : excIn K D vMro "ValueError.__new__" = true) (hs : mroIn K C (.ref D) = some true) (he : s.heap.get? x = some oe) (hcls : oe.cls = .ref C)
    (hq : Q true s) : wpAny (model prog w) A (excMatches (.ref x) (.ref D)) Q E s := by
  obtain ⟨h, g, d, t, os⟩ := s
  obtain ⟨_, _, _, _, bm, _, _, _, _, _, _, _, _, _, _, _, _, hC, _, _, T, sb⟩ := exc_obj X qC
  obtain ⟨_, _, _, _, bmD, _, _, _, _, _, _, _, _, _, _, _, _, hD, _, _, TD, _⟩ := exc_obj X qD
  have c1 : (Value.ref C :: bm).contains (.ref D) = true := Option.some.inj ((sb D).symm.trans hs)
  have c2 : (Value.ref D :: bmD).contains (.type "BaseException") = true := by rw [List.contains_cons, TD.hasType (b := true) (by decide +kernel), Bool.or_true]
  have f := tc_notTuple
  unfold excMatches
  repeat (first | (with_reducible refine wpAny_loadPart_at he ?_; rw [hcls]) | with_reducible refine wpAny_loadPart_at hD ?_ | (with_reducible refine wpAny_isSubtype_exc hD ?_; rw [c2]) | (with_reducible refine wpAny_isSubtype_exc hC ?_; rw [c1]) | wp_step)
  exact hq
end
end PySem.W
namespace L2
open PySem PySem.Spec PyProof.Rows
structure Flies (P : Program) (w : World) (outer : List Env) (H : Hp) (s : Shared) (x C : Addr) (H' : Hp) (B : Heap) (s' : Shared) : Prop where
  os : s'.os = s.os
  bare : AllBare s'.gens
  fly : ∃ t, Heap.FlyingW B outer x (.ref C) (.ref t) s'.heap
  hok : HOk P w H' B
  un : Un (frs outer) [] H H' s.heap s'.heap
  keepB : ∀ b o, s.heap.get? b = some o → H b = none → b ∉ frs outer → B.get? b = some o
  thereB : ∀ b o, s.heap.get? b = some o → b ∉ frs outer → ∃ o', B.get? b = some o'
def CX1 (P : Program) (w : World) : CXT := fun outer H s E e s' => ∃ x C H' B, e = .ref x ∧ Flies P w outer H s x C H' B s' ∧ E (.ref C) none H'
section
variable {P : Program} {w : World} {K : PySem.W.Frag} {mg : Str → Option Value} {base : Heap} {N : List Str} {qual : Str} {scope : Scope} {f : Addr} {cd : Value} {A : Around} {outer : List Env} {s₀ : Shared} {H₀ : Hp} {E : XK}
theorem hok_hide {h : Heap} {H : Hp} {l : List Addr} (x : HOk P w H h) (hl : ∀ b ∈ l, H b = none) : HOk P w H (PySem.W.hideAll h l) := fun a o e => by
  refine (x a o e).stay (fun b u hb q => PySem.W.hideAll_get l q fun hm => ?_) (fun _ q => q) fun _ _ q => q
  have z := hl b hm
  rcases hb with rfl | hb
  · rw [e] at z; cases z
  · rw [hb] at z; cases z
theorem raise_leaves {pins : List (Addr × Obj)} {σ : St} {H : Hp} {s : Shared} {x C : Addr} {vs : List Value} {h' : Heap} (hk : scope.kind = .function)
    (I : Inv (cxOf (CX1 P w) P w K mg base N qual scope f cd A outer s₀ H₀ E) pins σ H s) (hx : Heap.MadeExcOf s.heap h' x (.ref C) vs) (hE : E (.ref C) none H) :
    (cxOf (CX1 P w) P w K mg base N qual scope f cd A outer s₀ H₀ E).xe (.ref x) { s with heap := h' } := by
  have fr := I.ok.frames
  have ff := I.stack
  have nf := I.stkFree
  have hlt := I.lt
  have hsub := I.stkSub
  have inB : ∀ b o, s.heap.get? b = some o → b ∉ frs (envOfC qual scope s₀.heap.objs.size f cd :: outer) → (PySem.W.hideAll s.heap (frs (envOfC qual scope s₀.heap.objs.size f cd :: outer))).get? b = some o := fun b o e n => PySem.W.hideAll_get _ e n
  have old : ∀ b o, s₀.heap.get? b = some o → b ∉ frs outer → b ∉ frs (envOfC qual scope s₀.heap.objs.size f cd :: outer) := fun b o e n hm => by
    unfold frs at hm
    rw [List.filterMap_cons] at hm
    rcases List.mem_cons.mp hm with z | z
    · have := Heap.lt_size e
      rw [z] at this
      exact absurd this (Nat.lt_irrefl _)
    · exact n z
  show wpAny _ _ (leaving _ (.ref x)) _ _ _
  refine wpAny_leaves_madeW (base := PySem.W.hideAll s.heap (frs (envOfC qual scope s₀.heap.objs.size f cd :: outer))) (h := s.heap) (outer := outer) fr rfl (fun b o e => PySem.W.of_hideAll _ e) (PySem.W.funFrames_hide ff fun env he a ha => List.mem_filterMap.mpr ⟨env, he, ha⟩) hx fun h'' t fl tu tn up => ?_
  have stays := fl.1
  have ups : s.heap.UpToSlots h'' := (Heap.UpToSlots.of_keeps hx.keeps).trans up
  have base' : Un (frs outer) [] H₀ H s₀.heap s.heap := I.base
  refine ⟨x, C, H, _, rfl, ⟨I.os, I.bare, ⟨t, fl⟩, hok_hide I.hok nf, ⟨fun b o e n hb _ => ?_, fun b o e n hb _ => ?_, fun b o e n _ => base'.free b o e n (by simp), fun b o e _ => ?_, base'.tups, base'.frzs, base'.tbls⟩, fun b o e n hb => ?_, fun b o e hb => ?_⟩, hE⟩
  · exact stays b o (inB b o (base'.keep b o e n hb (by simp)) (old b o e hb))
  · obtain ⟨sl, q⟩ := base'.slot b o e n hb (by simp)
    have hm := ff.mem (b := b) (by show b ∈ frs (_ :: outer); unfold frs; rw [List.filterMap_cons]; exact List.mem_cons_of_mem _ hb)
    obtain ⟨_, o2, q2, nd⟩ := hm
    rw [q] at q2
    cases q2
    obtain ⟨sl2, q3⟩ := ups b _ q nd
    exact ⟨sl2, q3⟩
  · obtain ⟨o', q⟩ := base'.there b o e (by simp)
    by_cases hb : b ∈ frs (envOfC qual scope s₀.heap.objs.size f cd :: outer)
    · obtain ⟨_, o2, q2, nd⟩ := ff.mem hb
      obtain ⟨sl2, q3⟩ := ups b _ q2 nd
      exact ⟨_, q3⟩
    · exact ⟨o', stays b o' (inB b o' q hb)⟩
  · exact inB b o (base'.keep b o e n hb (by simp)) (old b o e hb)
  · obtain ⟨o', q⟩ := base'.there b o e (by simp)
    exact ⟨o', inB b o' q (old b o e hb)⟩
theorem pass1 : Passes (CX1 P w) (cxOf (CX1 P w) P w K mg base N qual scope f cd A outer s₀ H₀ E) E := by
  rintro pins σ H s e s' I ⟨x, C, H', B, rfl, F, hE⟩
  obtain ⟨t, fl⟩ := F.fly
  have fr := I.ok.frames
  have old : ∀ b o, s₀.heap.get? b = some o → b ∉ frs outer → b ∉ frs (envOfC qual scope s₀.heap.objs.size f cd :: outer) := fun b o e n hm => by
    unfold frs at hm
    rw [List.filterMap_cons] at hm
    rcases List.mem_cons.mp hm with z | z
    · have := Heap.lt_size e
      rw [z] at this
      exact absurd this (Nat.lt_irrefl _)
    · exact n z
  have base' : Un (frs outer) [] H₀ H s₀.heap s.heap := I.base
  have un' : Un (frs (envOfC qual scope s₀.heap.objs.size f cd :: outer)) [] H H' s.heap s'.heap := F.un
  have ff' := fl.2.2.1
  show wpAny _ _ (leaving _ (.ref x)) _ _ _
  refine wpAny_leaves_onW (outer := outer) fr rfl fl fun h'' fl2 up => ?_
  have stays := fl2.1
  refine ⟨x, C, H', B, rfl, ⟨F.os.trans I.os, F.bare, ⟨t, fl2⟩, F.hok, ⟨fun b o e n hb _ => ?_, fun b o e n hb _ => ?_, fun b o e n _ => ?_, fun b o e _ => ?_, fun b xs q => un'.tups b xs (base'.tups b xs q), fun b o u q => un'.frzs b o u (base'.frzs b o u q), fun b ps q => ?_⟩, fun b o e n hb => ?_, fun b o e hb => ?_⟩, hE⟩
  · exact stays b o (F.keepB b o (base'.keep b o e n hb (by simp)) (base'.free b o e n (by simp)) (old b o e hb))
  · have hb2 : b ∈ frs (envOfC qual scope s₀.heap.objs.size f cd :: outer) := by unfold frs; rw [List.filterMap_cons]; exact List.mem_cons_of_mem _ hb
    obtain ⟨sl, q⟩ := base'.slot b o e n hb (by simp)
    obtain ⟨sl2, q2⟩ := un'.slot b _ q (base'.free b o e n (by simp)) hb2 (by simp)
    obtain ⟨_, o2, q3, nd⟩ := ff'.mem hb2
    rw [q2] at q3
    cases q3
    obtain ⟨sl3, q4⟩ := up b _ q2 nd
    exact ⟨sl3, q4⟩
  · obtain ⟨o', q⟩ := base'.there b o e (by simp)
    exact un'.free b o' q (base'.free b o e n (by simp)) (by simp)
  · obtain ⟨o', q⟩ := base'.there b o e (by simp)
    by_cases hb : b ∈ frs (envOfC qual scope s₀.heap.objs.size f cd :: outer)
    · obtain ⟨_, o2, q2, nd⟩ := ff'.mem hb
      obtain ⟨sl2, q3⟩ := up b _ q2 nd
      exact ⟨_, q3⟩
    · obtain ⟨o2, q2⟩ := F.thereB b o' q hb
      exact ⟨o2, stays b o2 q2⟩
  · obtain ⟨m1, e1⟩ := base'.tbls b ps q
    obtain ⟨m2, e2⟩ := un'.tbls b _ e1
    exact ⟨m1 ++ m2, by rw [e2, Array.append_assoc]⟩
  · exact F.keepB b o (base'.keep b o e n hb (by simp)) (base'.free b o e n (by simp)) (old b o e hb)
  · obtain ⟨o', q⟩ := base'.there b o e (by simp)
    exact F.thereB b o' q (old b o e hb)
end
end L2
namespace L2
open PySem PySem.Spec PyProof.Rows
section
variable {P : Program} {w : World} {K : PySem.W.Frag} {mg : Str → Option Value} {base : Heap} {N : List Str} {qual : Str} {scope : Scope} {f : Addr} {cd : Value} {A : Around} {outer : List Env} {s₀ : Shared} {H₀ : Hp} {E : XK}
def sRaise (E : XK) (C : Addr) (ta : TA) : TS := fun _ σ H => ta σ H fun vs H1 => vs.length ≤ sizeLine ∧ E (.ref C) none H1
theorem ps_raise {x : Str} {C : Addr} {e0 : Expr} {rest : List Expr} {np cpos pos : Pos} {ta : TA} (hk : scope.kind = .function) (hg : Gl (cxOf (CX1 P w) P w K mg base N qual scope f cd A outer s₀ H₀ E) x) (hm : mg x = some (.ref C))
    (qC : PySem.W.excIn K C PySem.W.vMro "ValueError.__new__" = true) (ha : PA (cxOf (CX1 P w) P w K mg base N qual scope f cd A outer s₀ H₀ E) (e0 :: rest) ta) (hd : (x == ("__debug__" : Str)) = false := by decide)
    (he : starEach (e0 :: rest) (envOfC qual scope s₀.heap.objs.size f cd) = (false, eval e0 (envOfC qual scope s₀.heap.objs.size f cd)) :: starEach rest (envOfC qual scope s₀.heap.objs.size f cd) := by rfl)
    (hpl : (backTo cpos (starEach rest (envOfC qual scope s₀.heap.objs.size f cd))).any (·.1) = false := by rfl) :
    PS (cxOf (CX1 P w) P w K mg base N qual scope f cd A outer s₀ H₀ E) (.Raise (some (.Call (.Name x np) (e0 :: rest) [] cpos)) none pos) (sRaise E C ta) := by
  intro pins s σ H D I h
  obtain ⟨nm, qn, NN, bs, bm, hdc, sn, sub, ab, col, dd, k0, k1, k2, k3, k5, mN, hC, hN, hni, T, _⟩ := PySem.W.exc_obj I.ok.mod.kin qC
  have hh := I.ok.hd rfl
  refine wpAny_Raise_call_subT (C := C) (nm := nm) (q := qn) (N := NN) (bs := bs) (bm := bm) (hdct := hdc) (sn := sn) (sub := sub) (ab := ab) (col := col) (dd := dd) (k0 := k0) (k1 := k1) (k2 := k2) (k3 := k3) (k5 := k5) F.excBase_ValueError (mN := mN) (T.hasType (by decide +kernel)) hh ?_ hni (ld_glob I hg hm ⟨rfl, ?_⟩ hd)
  · show (backTo cpos (starEach (e0 :: rest) (envOfC qual scope s₀.heap.objs.size f cd))).any (·.1) = false
    rw [he]
    show (false || (backTo cpos (starEach rest (envOfC qual scope s₀.heap.objs.size f cd))).any (·.1)) = false
    rw [hpl]
    rfl
  · have hA := ha cpos pins s σ H _ I h
    show wpAny _ _ (evalArgs _ _ (backTo cpos (starEach (e0 :: rest) (envOfC qual scope s₀.heap.objs.size f cd))) []) _ _ _
    have hA' : wpAny (model P w) (A.deeper (envOfC qual scope s₀.heap.objs.size f cd)) (spliced (backTo cpos (starEach (e0 :: rest) (envOfC qual scope s₀.heap.objs.size f cd)))) _ _ s := hA
    rw [he] at hA' ⊢
    refine Calls.evalArgs_plain (thn hA' fun us s2 ⟨vs, H2, I2, r, hz, hE⟩ => ⟨rfl, by rw [← r.length]; exact hz, I2.bk _ _ hC, hN.keeps I2.bk, T.keeps I2.bk, fun h' e hm' => ?_⟩)
    exact raise_leaves hk I2 hm' hE
theorem Fun.okX {x : Str} {st : Stmt} {fd : FuncData} {ps : List Str} {k : Nat} {sp : Sp} (F : Fun K x qual st f fd) (S : FnScope N ps (defScope st)) (len : ∀ vs H Q E, sp vs H Q E → vs.length = ps.length)
    (hbody : ∀ (cdv : Value) (A : Around) (outer : List Env) (s : Shared) (H : Hp) (vs : List V) (Q : VK) (E : XK), Room k (A.deeper (envOfC qual (defScope st) s.heap.objs.size f cdv)) → sp vs H Q E →
      ∃ t, PSs (cxOf (CX1 P w) P w K mg base N qual (defScope st) f cdv A outer s H E) (defBody st) t ∧ t { nx := fun _ H' => Q .non H', rt := Q } (start N vs) H) : FnOk P w K mg base (CX1 P w) (k + 1) f fd ps sp := by
  obtain ⟨oc, od, kV, doc, pm, an, cdv, ct, osl, rfl, lk, hcd⟩ := F.ex
  exact fn_of lk hcd S len fun A outer s H vs Q E hr hsp => hbody cdv A outer s H vs Q E hr hsp
theorem own_leaving : PassesOwn (model P w) (cxOf (CX1 P w) P w K mg base N qual scope f cd A outer s₀ H₀ E).A (cxOf (CX1 P w) P w K mg base N qual scope f cd A outer s₀ H₀ E).env (cxOf (CX1 P w) P w K mg base N qual scope f cd A outer s₀ H₀ E).xe :=
  PassesOwn.leaving (Q₁ := fun e s'' => CX1 P w outer H₀ s₀ E e s'')
end
section
variable {X : Cx} {pins : List (Addr × Obj)} {σ : St} {H : Hp} {s : Shared}
theorem unbind_ok {M : Model} {A : Around} {E : Value → Shared → Prop} {i : Nat} {x : Str} {v : V} {Q : Unit → Shared → Prop} (I : Inv X pins σ H s) (hN : X.N.Nodup) (hi : X.N[i]? = some x) (hk : X.env.scope.names.lookup x = some .local) (hv : σ[i]? = some (some v))
    (h : ∀ s', Inv X pins (σ.set i none) H s' → Q () s') : wpAny M A (unbindName X.env x) Q E s := by
  obtain ⟨m, hn, hl⟩ := id I.loc
  have hcls : (X.env.scope.kind == .class || (X.env.scope.kind == .module && X.env.locals != X.env.globals)) = false := by rw [I.ok.kind]; rfl
  have cne := I.cne
  obtain ⟨oL, _, _, hoL, _⟩ := id hn
  obtain ⟨u, _, lk⟩ := hl i x v hi hv (.inl hk)
  have hmx : m x = some u := by
    rcases lk with ⟨_, e⟩ | ⟨k, _⟩
    · exact e
    · have k' : X.env.scope.names.lookup x = some .cell ∨ X.env.scope.names.lookup x = some .free := k
      rw [hk] at k'
      rcases k' with z | z <;> cases z
  refine wpAny_unbindName_local hk hn hmx hcls fun h' u' hn' hs => h _ ?_
  have old : ∀ b o, X.s₀.heap.get? b = some o → b ≠ X.env.locals := fun b o e => Nat.ne_of_lt (Nat.lt_of_lt_of_le (Heap.lt_size e) I.ok.above)
  refine ⟨I.ok, I.os, I.bare, ⟨fun b o e n hb hx => (hs.2 b (old b o e)).trans (I.base.keep b o e n hb hx), fun b o e n hb hx => ?_, I.base.free, fun b o e hx => ?_, I.base.tups, I.base.frzs, I.base.tbls⟩, ⟨_, hn', fun j y v' e1 e2 e3 => ?_⟩, fun y c e => ?_, I.free, I.freeC, fun p hp => ?_, fun b ob e => ?_, by simpa using I.len⟩
  · obtain ⟨sl, e1⟩ := I.base.slot b o e n hb hx
    exact ⟨sl, (hs.2 b (old b o e)).trans e1⟩
  · obtain ⟨o', e1⟩ := I.base.there b o e hx
    exact ⟨o', (hs.2 b (old b o e)).trans e1⟩
  · by_cases hj : j = i
    · subst hj
      rw [List.getElem?_set_self (List.getElem?_eq_some_iff.mp hv).1] at e2
      cases e2
    · rw [List.getElem?_set_ne (Ne.symm hj)] at e2
      obtain ⟨u2, r2, q⟩ := hl j y v' e1 e2 e3
      refine ⟨u2, r2, ?_⟩
      rcases q with ⟨k, e⟩ | ⟨k, c, e, z⟩
      · refine .inl ⟨k, ?_⟩
        have : y ≠ x := fun e => hj (nodup_ix hN e1 (e ▸ hi))
        simp [this, e]
      · exact .inr ⟨k, c, e, z.sameBut hs (cne y c e)⟩
  · obtain ⟨w', z⟩ := I.cell y c e
    exact ⟨w', z.sameBut hs (cne y c e)⟩
  · obtain ⟨e, n, ne, nf, d⟩ := I.pin p hp
    exact ⟨(hs.2 p.1 ne).trans e, n, ne, nf, d⟩
  · refine (I.hok b ob e).stay (fun c w' hc q => (hs.2 c ?_).trans q) (fun _ q => q) fun _ _ q => q
    rintro rfl
    have fr := I.free
    rcases hc with rfl | hc
    · rw [fr] at e; cases e
    · rw [fr] at hc; cases hc
abbrev Cx.caught (X : Cx) (x : Addr) (ox : Obj) (ps : List (Addr × Obj)) : Cx := { X with A := X.A.mark (some (.ref x)), calm := false, pn := X.pn ++ (ps ++ [(x, ox)]), xe := fun _ _ => False }
theorem Inv.caught {x : Addr} {ox : Obj} (I : Inv X pins σ H s) (e : s.heap.get? x = some ox) (n : H x = none) (ne : x ≠ X.env.locals) (nf : x ∉ X.fs) (nd : ∀ v, ox.data ≠ .cell v) : Inv (X.caught x ox pins) [] σ H s :=
  ⟨⟨I.ok.mod, I.ok.kind, I.ok.glob, I.ok.blt, I.ok.above, I.ok.inj, I.ok.has, I.ok.cab, (fun z => by cases z), I.ok.frames, I.ok.stk, I.ok.exf, I.ok.bs, I.ok.bsz, I.ok.noex, I.ok.exfs, I.ok.funs, I.ok.frf⟩,
    I.os, I.bare, I.base, I.loc, I.cell, I.free, I.freeC, fun p hp => by
      rw [List.append_nil] at hp
      rcases List.mem_append.mp hp with z | z
      · exact I.pin p (List.mem_append_left _ z)
      · rcases List.mem_append.mp z with z | z
        · exact I.pin p (List.mem_append_right _ z)
        · rw [List.mem_singleton] at z
          subst z
          exact ⟨e, n, ne, nf, nd⟩, I.hok, I.len⟩
theorem Inv.uncaught {x : Addr} {ox : Obj} (hX : X.calm = true → X.A.handled = none) (I : Inv (X.caught x ox pins) [] σ H s) : Inv X pins σ H s :=
  ⟨⟨I.ok.mod, I.ok.kind, I.ok.glob, I.ok.blt, I.ok.above, I.ok.inj, I.ok.has, I.ok.cab, hX, I.ok.frames, I.ok.stk, I.ok.exf, I.ok.bs, I.ok.bsz, I.ok.noex, I.ok.exfs, I.ok.funs, I.ok.frf⟩,
    I.os, I.bare, I.base, I.loc, I.cell, I.free, I.freeC, fun p hp => I.pin p (by
      rw [List.append_nil]
      rcases List.mem_append.mp hp with z | z
      · exact List.mem_append_left _ z
      · exact List.mem_append_right _ (List.mem_append_left _ z)), I.hok, I.len⟩
def PXE (X : Cx) (CX : CXT) (e : Expr) (te : XK → TE) : Prop :=
  ∀ (E : XK) (pins : List (Addr × Obj)) (s : Shared) (σ : St) (H : Hp) (Q : VK) (XE : Value → Shared → Prop), Inv X pins σ H s → te E σ H Q → (∀ H1 s1 u s', Inv X pins σ H1 s1 → CX X.stack H1 s1 E u s' → XE u s') →
    wpAny (model X.prog X.w) X.A (eval e X.env) (EP X pins σ Q) XE s
def PXS (X : Cx) (CX : CXT) (st : Stmt) (ts : XK → TS) : Prop :=
  ∀ (E : XK) (pins : List (Addr × Obj)) (s : Shared) (σ : St) (H : Hp) (D : Ends) (XE : Value → Shared → Prop), Inv X pins σ H s → ts E D σ H → (∀ H1 s1 u s', Inv X pins σ H1 s1 → CX X.stack H1 s1 E u s' → XE u s') →
    wpAny (model X.prog X.w) X.A (exec st X.env) (SP X pins D) XE s
theorem px_set {CX : CXT} {i : Nat} {x : Str} {e : Expr} {te : XK → TE} {pos pos' : Pos} (hN : X.N.Nodup) (hi : X.N[i]? = some x) (hx : Loc X.env.scope x) (he : PXE X CX e te) (hs : swapsWith e (some (.Name x pos')) pos.line X.env = pure false := by rfl)
    (hf : X.fn x = true ∨ X.env.scope.names.lookup x = some .local := by first | exact .inl rfl | exact .inr rfl | assumption) : PXS X CX (.Assign [.Name x pos'] e pos) (fun E => tAsg (te E) (gName i)) := by
  intro E pins s σ H D XE I h hxe
  refine wpAny_Assign_Name (thn (he E pins s σ H _ XE I h hxe) fun v s1 ⟨y, H1, I1, r1, q1⟩ => ?_) hs
  exact store_ok I1 hN hi hx r1 (fun s2 I2 => ⟨_, H1, I2, q1⟩) hf
theorem run_try {CX : CXT} {k : Nat} {f : Addr} {fd : FuncData} {ps : List Str} {sp : Sp} {dvs : List V} {ds : List Value} {E : XK} {Q : VK} {us : List Value} {vs : List V} {XE : Value → Shared → Prop} (F : FnOk X.prog X.w X.K X.mg X.base CX k f fd ps sp) (hr : Room k X.A) (hb : Binds X.K fd ps ds) (hd : Vals dvs ds)
    (I : Inv X pins σ H s) (r : Vals vs us) (h : sp (vs ++ dvs) H Q E) (hx : ∀ u s', CX X.stack H s E u s' → XE u s') : wpAny (model X.prog X.w) X.A (call (.ref f) us) (EP X pins σ Q) XE s := by
  have r2 : Vals (vs ++ dvs) (us ++ ds) := r.append hd
  have hl : (us ++ ds).length = ps.length := by rw [← r2.length]; exact F.len _ _ _ _ h
  refine wpAny_call (codeAny_mono (F.run X.A X.stack s H ⟨us, []⟩ (us ++ ds) (vs ++ dvs) Q E hr I.env0 (hb s us I.kIn hl) r2 h) fun r s' hq => ?_)
  rcases r with e | fl
  · exact hx e s' hq
  · rcases fl with _ | _ | _ | u
    all_goals first | exact I.after hq | exact False.elim hq
theorem px_call {CX : CXT} {k : Nat} {f : Addr} {fd : FuncData} {ps : List Str} {sp : Sp} {dvs : List V} {ds : List Value} {x : Str} {p pos : Pos} {e : Expr} {es : List Expr} {t : TA} (F : FnOk X.prog X.w X.K X.mg X.base CX k f fd ps sp) (hr : Room k X.A) (hg : Gl X x) (hm : X.mg x = some (.ref f)) (hk : PySem.W.keepIn X.K (.ref f) = true) (hb : Binds X.K fd ps ds) (hd : Vals dvs ds)
    (ha : PA X.nox (e :: es) t) (hdb : (x == ("__debug__" : Str)) = false := by decide) (he : starEach (e :: es) X.env = (false, eval e X.env) :: starEach es X.env := by rfl) (hpl : (backTo pos (starEach es X.env)).any (·.1) = false := by rfl) :
    PXE X CX (.Call (.Name x p) (e :: es) [] pos) (fun E => tCall sp dvs E t) := by
  intro E pins s σ H Q XE I h hx
  refine wpAny_Call_Name_kw (ld_glob I hg hm ?_ hdb)
  refine PySem.W.callWith_K (h₀ := X.base) I.ok.mod.kin hk (wpAny_mono (ha pos pins s σ H _ (I.wish _) h) (fun us s1 ⟨vs, H1, I1, r, q⟩ => ⟨I1.unwish.kIn, ?_⟩) fun _ _ z => z.elim) he hpl
  exact run_try F hr hb hd I1.unwish r q fun u s' hq => hx _ _ u s' I1.unwish hq
def sTry (K : PySem.W.Frag) (Dc : Addr) (i : Nat) (tb : XK → TS) (ts : Addr → Addr → TS) : TS := fun D σ H => ∃ E : XK, tb E D σ H ∧ ∀ C H', E (.ref C) none H' → PySem.W.excIn K C PySem.W.vMro "ValueError.__new__" = true ∧ PySem.W.mroIn K C (.ref Dc) = some true ∧
  ∀ x, H' x = none → ts x C { nx := fun σ' H2 => D.nx (σ'.set i none) H2, rt := D.rt } (σ.set i (some (.ref x))) H'
theorem ObjOk.there {P : Program} {w : World} {H : Hp} {h : Heap} {a : Addr} {o : HO} (x : ObjOk P w H h a o) : ∃ u, h.get? a = some u := by
  cases o with
  | lst xs => obtain ⟨_, _, _, _, e⟩ := x; exact ⟨_, e⟩
  | tup xs => obtain ⟨_, _, _, _, e, _⟩ := x; exact ⟨_, e⟩
  | dK kvs => obtain ⟨_, _, _, _, o, _, _, e, _⟩ := x; exact ⟨_, e⟩
  | dT kvs => obtain ⟨_, _, _, _, o, _, _, e, _⟩ := x; exact ⟨_, e⟩
  | set S n => obtain ⟨o, _, _, _, e, _⟩ := x; exact ⟨_, e⟩
  | ins C dx fs => obtain ⟨_, _, _, e, _⟩ := x; exact ⟨_, e⟩
  | own y => exact x
  | xd fs => obtain ⟨_, ⟨_, _, _, e, _⟩, _⟩ := x; exact ⟨_, e⟩
  | rng lo hi => obtain ⟨_, _, _, e⟩ := x; exact ⟨_, e⟩
  | frz ob u => obtain ⟨e, _⟩ := x; exact ⟨_, e⟩
  | tbl ps => exact ⟨_, (show h.get? a = some _ from x)⟩
  | met f y => exact ⟨_, (show h.get? a = some _ from x)⟩
  | ext φ => obtain ⟨_, ⟨_, e⟩, _⟩ := x; exact ⟨_, e⟩
theorem Inv.landed {x C : Addr} {H1 H' : Hp} {s1 s' : Shared} {B h6 : Heap} {t : Addr} (hst : X.stack = X.env :: X.outer) (I1 : Inv X pins σ H1 s1) (F : Flies X.prog X.w X.stack H1 s1 x C H' B s') (ff : s'.heap.FunFrames B X.stack) (fl6 : Heap.FlyingW B X.stack x (.ref C) (.ref t) h6) (up : s'.heap.UpToSlots h6) :
    Inv X pins σ H' { s' with heap := h6 } := by
  refine I1.call' (s' := { s' with heap := h6 }) (ch := []) F.os ⟨fun b o e n hb _ => fl6.1 b o (F.keepB b o e n hb), fun b o e n hb _ => ?_, F.un.free, fun b o e _ => ?_, F.un.tups, F.un.frzs, F.un.tbls⟩ (F.hok.kept fl6.1) F.bare (fun b z => absurd z (by simp))
  · obtain ⟨sl, q⟩ := F.un.slot b o e n hb (by simp)
    obtain ⟨_, o2, q2, nd⟩ := ff.mem hb
    rw [q] at q2
    cases q2
    obtain ⟨sl2, q3⟩ := up b _ q nd
    exact ⟨sl2, q3⟩
  · by_cases hb : b ∈ frs X.stack
    · obtain ⟨_, o2, q2, nd⟩ := ff.mem hb
      obtain ⟨sl2, q3⟩ := up b _ q2 nd
      exact ⟨_, q3⟩
    · obtain ⟨o2, q2⟩ := F.thereB b o e hb
      exact ⟨o2, fl6.1 b o2 q2⟩
theorem Inv.exc {x C : Addr} {H1 H' : Hp} {s1 s' : Shared} {B h6 : Heap} {t : Addr} (F : Flies X.prog X.w X.stack H1 s1 x C H' B s') (fl6 : Heap.FlyingW B X.stack x (.ref C) (.ref t) h6) (J : Inv X pins σ H' { s' with heap := h6 }) :
    H' x = none ∧ ∃ ox, ox.cls = .ref C ∧ h6.get? x = some ox ∧ Inv (X.caught x ox pins) [] σ H' { s' with heap := h6 } := by
  obtain ⟨oe, vs, T, oT, ts, he, ⟨hc, h0⟩, hd, _⟩ := fl6.2.2.2
  have hxn : H' x = none := by
    cases q : H' x with
    | none => rfl
    | some u =>
      obtain ⟨o, e⟩ := (F.hok x u q).there
      rw [fl6.2.1] at e
      cases e
  refine ⟨hxn, oe, hc, he, J.caught he hxn (fun z => ?_) (fun hm => ?_) fun v z => ?_⟩
  · obtain ⟨m, ⟨o, es, ep, ho, hdd, _⟩, _⟩ := J.loc
    rw [← z] at ho
    have ho' : h6.get? x = some o := ho
    rw [he] at ho'
    cases ho'
    rw [hd] at hdd
    cases hdd
  · obtain ⟨_, o, ho, nd⟩ := J.funs.mem hm
    have ho' : h6.get? x = some o := ho
    rw [he] at ho'
    cases ho'
    exact nd vs hd
  · rw [hd] at z
    cases z
theorem ps_try {st : Stmt} {cls n : Str} {i : Nat} {Dc : Addr} {b₀ : Stmt} {suite : List Stmt} {np hpos pos : Pos} {tb : XK → TS} {ts : Addr → Addr → TS} (hst : X.stack = X.env :: X.outer) (hfr : X.env.frame = some X.env.locals) (hb : PXS X (CX1 X.prog X.w) st tb) (hg : Gl X cls) (hm : X.mg cls = some (.ref Dc)) (qD : PySem.W.excIn X.K Dc PySem.W.vMro "ValueError.__new__" = true)
    (hN : X.N.Nodup) (hi : X.N[i]? = some n) (hk : X.env.scope.names.lookup n = some .local) (hs : ∀ (x C : Addr) (ox : Obj) (ps : List (Addr × Obj)), ox.cls = .ref C → PSs (X.caught x ox ps) (b₀ :: suite) (ts x C)) (hd : (cls == ("__debug__" : Str)) = false := by decide) :
    PS X (.Try [st] [.ExceptHandler (some (.Name cls np)) (some n) (b₀ :: suite) hpos] [] [] pos) (sTry X.K Dc i tb ts) := by
  intro pins s σ H D I h
  obtain ⟨E, hbody, hsuite⟩ := h
  refine wpAny_Try_except (wpAny_execs_cons (wpAny_mono (hb E pins s σ H D _ I hbody (fun H1 s1 u s' I1 hcx => ?_)) (fun f s1 q => ?_) fun _ _ z => z))
  · obtain ⟨x, C, H', B, rfl, F, hE⟩ := hcx
    obtain ⟨qC, sub, hts⟩ := hsuite C H' hE
    obtain ⟨t, fl⟩ := F.fly
    have ff := fl.2.2.1
    have fr := I1.ok.frames
    have fl0 := fl
    rw [hst] at fr fl0
    refine wpAny_looks_onW fr hfr fl0 fun h4 held4 up4 => ?_
    refine wpAny_landsW held4 fun h5 fl5 up5 => ?_
    have fl5' := fl5
    rw [← hst] at fl5'
    have J5 := I1.landed hst F ff fl5' (up4.trans up5)
    obtain ⟨hxn, ox, hcls, hox, I5⟩ := Inv.exc F fl5' J5
    refine wpAny_handleBy_cons (codeAny_handlers_test ?_) (by intro q; cases q)
    refine ld_glob (X := X.caught x ox pins) I5 hg hm ?_ hd
    refine PySem.W.xc_matches J5.kIn qC qD sub hox hcls ?_
    refine codeAny_handlers_suite_as ?_
    refine lands_againW fl5 fun h6 fl6 up6 => ?_
    have fl6' := fl6
    rw [← hst] at fl6'
    have J6 := I1.landed hst F ff fl6' ((up4.trans up5).trans up6)
    obtain ⟨_, ox6, hcls6, hox6, I6⟩ := Inv.exc F fl6' J6
    refine store_ok (X := X.caught x ox6 pins) I6 hN hi (.inl hk) (v := .ref x) rfl (fun s7 I7 => ?_) (.inr hk)
    refine wpAny_mono (hs x C ox6 pins hcls6 [] s7 _ H' _ I7 (hts x hxn)) (fun fw s8 q => ?_) fun _ _ z => z.elim
    have goes : ∀ {σ' : St} {H2 : Hp} {Q : Unit → Shared → Prop}, Inv X pins σ' H2 s8 → (∀ s10, Inv X pins (σ'.set i none) H2 s10 → Q () s10) → wpAny (model X.prog X.w) X.A (do bindName X.env n .none; unbindBehindTheSuite X.env n hpos) Q X.xe s8 := fun {σ' H2 Q} J k => by
      have hlt : i < σ'.length := by rw [J.len]; exact (List.getElem?_eq_some_iff.mp hi).1
      refine wpAny_bind (wpAny_bindName (store_ok J hN hi (.inl hk) (v := .non) rfl (fun s9 J9 => ?_) (.inr hk)))
      unfold unbindBehindTheSuite
      refine wpAny_onRaise (unbind_ok J9 hN hi hk (v := .non) (List.getElem?_set_self hlt) fun s10 J10 => k s10 ?_)
      rw [List.set_set] at J10
      exact J10
    cases fw with
    | next =>
      obtain ⟨σ', H2, J, q⟩ := q
      exact goes (J.uncaught I.ok.hd) fun s10 J10 => ⟨_, H2, J10, q⟩
    | ret u =>
      obtain ⟨v, σ', H2, J, rv, q⟩ := q
      exact goes (J.uncaught I.ok.hd) fun s10 J10 => ⟨v, _, H2, J10, rv, q⟩
    | brk =>
      obtain ⟨_, _, _, q⟩ := q
      exact q.elim
    | cont =>
      obtain ⟨_, _, _, q⟩ := q
      exact q.elim
  · cases f with
    | next => exact wpAny_execs_nil (wpAny_execs_nil q)
    | ret u => exact q
    | brk => exact q
    | cont => exact q
def IsC (K : PySem.W.Frag) (x : Str) (C : Addr) : Prop := PySem.W.nsIn K mainGlobals x = some (some (.ref C))
theorem IsC.uniq {K : PySem.W.Frag} {x : Str} {C D : Addr} (h : IsC K x C) (h' : IsC K x D) : C = D := by
  unfold IsC at h h'
  rw [h] at h'
  injection h' with h'
  injection h' with h'
  injection h' with h'
structure ExK (K : PySem.W.Frag) (C : Addr) : Prop where
  ex : PySem.W.excIn K C PySem.W.vMro "ValueError.__new__" = true
  cls : PySem.W.hasDictIn K C = true
  ga : PySem.W.findIn K (.ref C) "__getattribute__" = some (some (.builtin "BaseException.__getattribute__"))
  gt : PySem.W.findIn K (.ref C) "__getattr__" = some none
  ca : PySem.W.findIn K (.ref C) "__class__" = some (some (.builtin "object.__class__"))
  mo : PySem.W.mroIn K C (.type "object") = some true
  mb : PySem.W.mroIn K C (.type "BaseException") = some true
structure ObK (K : PySem.W.Frag) : Prop where
  gt : PySem.W.specialIn K (.builtin "object.__class__") "__get__" = some (some (.builtin "getset_descriptor.__get__"))
  tk : PySem.W.takesIn K (.builtin "object.__class__") = some true
def clsV : V → Option Value
  | .ref D => some (.ref D)
  | .ty n => some (.type n)
  | _ => none
def rIsx (K : PySem.W.Frag) (x C : Addr) : List V → Hp → VK → Prop := fun xs H Q => ∃ c cv b, xs = [.ref x, c] ∧ clsV c = some cv ∧ ExK K C ∧ ObK K ∧ PySem.W.kitOne K (.ref C) cv = some b ∧ Q (.bl b) H
theorem call_isx {x C : Addr} {ox : Obj} {ps : List (Addr × Obj)} (hc : ox.cls = .ref C) : CallR (X.caught x ox ps) (.builtin "isinstance") (rIsx X.K x C) := by
  intro pins s σ H xs us Q I r h
  obtain ⟨c, cv, b, rfl, hcv, ek, ob, e, q⟩ := h
  obtain ⟨u, v, rfl, ru, rv⟩ := vals2 r
  cases (show u = Value.ref x from ru)
  have hv : v = cv := by
    cases c with
    | ref D => cases (show v = Value.ref D from rv); exact Option.some.inj hcv
    | ty n => cases (show v = Value.type n from rv); exact Option.some.inj hcv
    | _ => cases hcv
  subst hv
  have pin := I.pin (x, ox) (List.mem_append_left _ (List.mem_append_right _ (List.mem_append_right _ (List.mem_singleton.mpr rfl))))
  exact PySem.W.kia_one (PySem.W.kitx_exc ek.cls ek.ga ek.gt ek.ca ob.gt ob.tk ek.mo ek.mb) I.kIn ⟨ox, pin.1, hc⟩ e (fun z => nomatch z) fun tk => ⟨.bl b, H, I.tok tk, rfl, q⟩
end
end L2
namespace L2
open PySem PySem.Spec PyProof.Rows
end L2
namespace EB
open PySem L2
end EB
namespace L2
open PySem PySem.Spec PyProof.Rows
section
variable {X : Cx} {e : Expr} {te : TE} {pos : Pos} {tg : Expr}
def tFmtR (ta : TE) : TE := fun σ H Q => ta σ H fun x H1 => (∃ z, x = .str z ∧ (reprText z).length ≤ sizeLine ∧ Q (.str (reprText z)) H1) ∨ ∃ l d, x = .ref l ∧ RdD H1 (.ref l) d ∧ d.showable = true ∧ d.hasDict = false ∧ d.depth ≤ 60 ∧ d.shown.length ≤ sizeLine ∧ Q (.str d.shown) H1
theorem pe_fmtR (hg : X.A.guards = some []) (hu : X.A.units + 64 < cLine) (ha : PE X e te) : PE X (.FormattedValue e 114 none pos) (tFmtR te) := by
  intro pins s σ H Q I h
  refine wpAny_FormattedValue_repr (thn (ha pins s σ H _ I h) fun u s1 ⟨x, H1, I1, r, q⟩ => ?_)
  rcases q with ⟨z, rfl, hz, q⟩ | ⟨l, d, rfl, rd, sh, nd, dp, hz, q⟩
  · obtain ⟨t, rfl⟩ := r
    refine pyReprObj_str ?_ hz
    exact wpAny_formatField_str ⟨.str _, H1, I1.tok _, ⟨_, rfl⟩, q⟩ ⟨.str _, H1, I1.tok _, ⟨_, rfl⟩, q⟩ hz
  · obtain ⟨as, ra⟩ := rd.reads I1.hok r
    cases r
    refine pyReprObj_of_reads ra sh (fun z => by rw [nd] at z; cases z) hg (by omega) (fun _ _ e => e) (fun h' u tk k => ?_) hz
    exact wpAny_formatField_str ⟨.str _, H1, I1.kept k, ⟨_, rfl⟩, q⟩ ⟨.str _, H1, I1.kept k, ⟨_, rfl⟩, q⟩ hz
theorem strs_vals : ∀ {ws : List Str} {its : List Value}, Vals (ws.map V.str) its → ∃ lt : List (Str × Tok), lt.map (·.1) = ws ∧ its = strValues lt
  | [], _, .nil => ⟨[], rfl, rfl⟩
  | w :: r, _, .cons h t => by
    obtain ⟨tk, rfl⟩ := h
    obtain ⟨lt, e1, e2⟩ := strs_vals t
    exact ⟨(w, tk) :: lt, by rw [List.map_cons, e1], by rw [e2]; rfl⟩
def rJoin : V → List V → Hp → VK → Prop := fun x vs H Q => ∃ z l ws, x = .str z ∧ vs = [.ref l] ∧ H l = some (.lst (ws.map V.str)) ∧ JoinOk z ws = true ∧ Q (.str (Str.join z ws)) H
theorem mt_join : MtM X "str.join" rJoin := by
  intro pins s σ H x vs v us Q I rx rv h
  obtain ⟨z, l, ws, rfl, rfl, hl, ok, q⟩ := h
  obtain ⟨t, rfl⟩ := rx
  obtain ⟨u, rfl, ru⟩ := rv.one
  cases (show u = Value.ref l from ru)
  obtain ⟨_, its, n, r, _, g⟩ := I.lstM hl
  obtain ⟨lt, e1, e2⟩ := strs_vals r
  subst e2
  refine SC.join (l := lt) ⟨_, g, rfl, n, rfl⟩ e1 ok fun t' k => ⟨.str _, H, I.tok _, ⟨_, rfl⟩, ?_⟩
  rw [show Txt.join z ws = Str.join z ws from StrLaws.glued_eq_join z ws]
  exact q
def rSlS : V → Option Int → Option Int → Hp → VK → Prop := fun x lo hi H Q => ∃ z, x = .str z ∧ z.length ≤ sizeLine ∧ Q (.str (Txt.slice z lo hi)) H
theorem part_of {v : Value} {o : Option Int} (h : IsPart v o) : ∃ p : Option (Int × Tok), v = partValue p ∧ p.map (·.1) = o := by
  cases h with
  | none => exact ⟨none, rfl, rfl⟩
  | int i t => exact ⟨some (i, t), rfl, rfl⟩
theorem sl_str : SlR X rSlS := by
  intro pins s σ H x v vl vu lo hi sl Q I rx hs pl pu h
  obtain ⟨z, rfl, hz, q⟩ := h
  obtain ⟨t, rfl⟩ := rx
  obtain ⟨p1, rfl, rfl⟩ := part_of pl
  obtain ⟨p2, rfl, rfl⟩ := part_of pu
  have hl : (Txt.slice z (p1.map (·.1)) (p2.map (·.1))).length ≤ sizeLine := Nat.le_trans (Txt.slice_le z _ _) hz
  have hq : ∀ (t' : Tok) (k : Nat), EP X pins σ Q (.str (Txt.slice z (p1.map (·.1)) (p2.map (·.1))) t') { s with toks := k } := fun t' k => ⟨.str _, H, I.tok _, ⟨_, rfl⟩, q⟩
  have hp : (sliceMade z t p1 p2 none).post (EP X pins σ Q) s := by
    unfold Txt.slice at hl hq
    unfold sliceMade slicePicked
    exact post_val_or_str ⟨hl, hq⟩
  exact ⟨"str", _, F.slot_str_getitem.lookup, typeIs_str _ _ _, wpAny_getItem_str_slice (l := p1) (u := p2) (st := none) hs rfl hp⟩
def Its (z : Str) : It := ⟨fun i _ => i < z.cps.size, fun i H x H' => H' = H ∧ ∃ c, z.cps[i]? = some c ∧ x = .str ⟨#[c]⟩, fun i _ => z.cps.size ≤ i⟩
theorem turn_str {P : Program} {w : World} {K : PySem.W.Frag} (z : Str) (t : Tok) (it : Addr) : Turn P w K tg (Its z) [it] it (fun i h => h.IsStrIter it "str_ascii_iterator" z t i) where
  mem := by simp
  obj := fun i h st b hb => by
    have e : b = it := by simpa using hb
    subst e
    obtain ⟨o, e, c, d⟩ := st
    exact ⟨o, e, fun v z => by rw [d] at z; cases z⟩
  keep := fun i h h' st k => let ⟨o, e, r⟩ := st; ⟨o, k it (by simp) o e, r⟩
  item := by
    intro X hP hw hK hc i pins s σ H E I hf st hg
    subst hP hw hK
    have hg' : i < z.cps.size := hg
    obtain ⟨f0, f1, f2, f3, f4, f5⟩ := hf it (by simp)
    refine wpAny_pyNext_ascii_item st (c := z.cps[i]) (by simp [hg']) fun h' st' sb => ?_
    have I1 : Inv X pins σ H { s with heap := h', toks := s.toks + 1 } := I.turned (t' := s.toks + 1) (fun b o hb e => (sb.2 b hb).trans e) f0 f1 f3 f4 f5
    obtain ⟨o, e, c, d⟩ := id st'
    exact ⟨_, rfl, go_of (s := { s with heap := h', toks := s.toks + 1 }) e c d (by decide) ⟨.str ⟨#[z.cps[i]]⟩, H, I1, ⟨_, rfl⟩, ⟨rfl, _, by simp [hg'], rfl⟩, st', fun b hb => (hf b hb).1⟩⟩
  done := by
    intro X hP hw hK hc i pins s σ H E I hf st hg
    subst hP hw hK
    have hg' : z.cps.size ≤ i := hg
    obtain ⟨f0, f1, f2, f3, f4, f5⟩ := hf it (by simp)
    exact wpAny_pyNext_ascii_end (I.ok.hd hc) st (by simp; omega) fun h' eb => ⟨rfl, I.turned (t' := s.toks) (fun b o hb e => eb b o hb e) f0 f1 f3 f4 f5⟩
  self := fun _ _ _ _ _ st h => wpAny_pyIter_striter_ascii st h
def iStr (tl : TE) : TI := fun σ H R => tl σ H fun x H1 => ∃ z, x = .str z ∧ z.cps.all (· < 128) = true ∧ R (Its z) H1
theorem pi_str {l : Expr} {tl : TE} (hl : PE X l tl) : PI X tg l (iStr tl) := by
  intro pins s σ H R I h
  refine thn (hl pins s σ H _ I h) fun v s1 ⟨x, H1, I1, r1, q1⟩ => ?_
  obtain ⟨z, e, ha, q⟩ := q1
  subst e
  obtain ⟨t, rfl⟩ := r1
  refine wpAny_pyIter_ascii ha ?_
  refine ⟨s1.heap.objs.size, [s1.heap.objs.size], _, _, H1, rfl, I1.kept (t' := s1.toks) fun b o e => Heap.get?_push_of_some _ e, turn_str z t _, ⟨_, Heap.get?_push_size _ rfl, rfl, rfl⟩, fun b hb => ?_, q⟩
  have e : b = s1.heap.objs.size := by simpa using hb
  subst e
  exact I1.fpOk (Nat.le_refl _) (I1.hok.fresh (Nat.le_refl _))
theorem for_str {z : Str} {g : TG} {tb : TS} {D : Ends} {σ : St} {H : Hp} (Pv : Nat → St → Hp → Prop) (h0 : Pv 0 σ H)
    (hs : ∀ i c σ H, z.cps[i]? = some c → Pv i σ H → g (.str ⟨#[c]⟩) σ H fun σ2 H2 => tb { D with nx := Pv (i + 1), ct := Pv (i + 1), bk := D.nx } σ2 H2) (hd : ∀ σ H, Pv z.cps.size σ H → D.nx σ H) :
    ∃ W : Nat → Nat → St → Hp → Prop, (∃ m, W 0 m σ H) ∧ ∀ i m σ H, W i m σ H →
      ((Its z).stop i H ∧ D.nx σ H) ∨ ((Its z).go i H ∧ ∃ N : St → Hp → Prop, (∀ σ' H', N σ' H' → ∃ m', m' < m ∧ W (i + 1) m' σ' H') ∧ ∀ x H', (Its z).yld i H x H' → g x σ H' fun σ2 H2 => tb { D with nx := N, ct := N, bk := D.nx } σ2 H2) := by
  refine ⟨fun i m σ H => m = z.cps.size - i ∧ i ≤ z.cps.size ∧ Pv i σ H, ⟨z.cps.size, by simp, Nat.zero_le _, h0⟩, ?_⟩
  rintro i m σ H ⟨rfl, hi, p⟩
  by_cases hlt : i < z.cps.size
  · refine .inr ⟨hlt, Pv (i + 1), fun σ' H' p' => ⟨z.cps.size - (i + 1), by omega, rfl, hlt, p'⟩, fun x H' y => ?_⟩
    obtain ⟨e, c, hc, rfl⟩ := y
    subst e
    exact hs i c σ _ hc p
  · have e : i = z.cps.size := by omega
    subst e
    exact .inl ⟨Nat.le_refl _, hd σ H p⟩
theorem call_int_str : CallR X (.type "int") (fun xs H Q => ∃ z n, xs = [.str z] ∧ intText? z = some n ∧ z.length ≤ 640 ∧ Q (.int n) H) := by
  intro pins s σ H xs us Q I r h
  obtain ⟨z, n, rfl, hn, hl, q⟩ := h
  obtain ⟨u, rfl, t, rfl⟩ := vals1 r
  exact PySem.W.KIN.call_text hn hl ⟨.int n, H, I.tok _, ⟨_, rfl⟩, q⟩
end
end L2
namespace EB
open PySem L2
def Asc (s : Str) : Prop := ∀ c ∈ s.cps.toList, c < 128
theorem Asc.all {s : Str} (h : Asc s) : s.cps.all (· < 128) = true := by
  rw [← Array.all_toList, List.all_eq_true]
  exact fun c hc => decide_eq_true (h c hc)
theorem asc_of {s : Str} (h : s.cps.all (· < 128) = true) : Asc s := fun c hc => by
  rw [← Array.all_toList, List.all_eq_true] at h
  exact of_decide_eq_true (h c hc)
theorem Asc.strOk {s : Str} (h : Asc s) : PyData.strOk s = true := by
  unfold PyData.strOk
  rw [← Array.all_toList, List.all_eq_true]
  exact fun c hc => decide_eq_true (Nat.lt_trans (h c hc) (by decide))
theorem Asc.append {a b : Str} (ha : Asc a) (hb : Asc b) : Asc (a ++ b) := fun c hc => by
  rw [Str.cps_append, Array.toList_append] at hc
  rcases List.mem_append.mp hc with h | h
  · exact ha c h
  · exact hb c h
theorem asc_join {sep : Str} (hs : Asc sep) : ∀ {ws : List Str}, (∀ w ∈ ws, Asc w) → Asc (Str.join sep ws)
  | [], _ => fun c hc => by cases (show c ∈ ([] : List Nat) from hc)
  | [x], h => h x (by simp)
  | x :: y :: r, h => ((h x (by simp)).append hs).append (asc_join hs (ws := y :: r) fun w hw => h w (List.mem_cons_of_mem _ hw))
theorem mem_app_left {a b : Str} {c : Nat} (h : c ∈ a.cps.toList) : c ∈ (a ++ b).cps.toList := by rw [Str.cps_append, Array.toList_append]; exact List.mem_append_left _ h
theorem mem_app_right {a b : Str} {c : Nat} (h : c ∈ b.cps.toList) : c ∈ (a ++ b).cps.toList := by rw [Str.cps_append, Array.toList_append]; exact List.mem_append_right _ h
theorem mem_join {sep w : Str} : ∀ {ws : List Str}, w ∈ ws → ∀ c ∈ w.cps.toList, c ∈ (Str.join sep ws).cps.toList
  | [], h, _, _ => by cases h
  | [x], h, c, hc => by
    rw [List.mem_singleton] at h
    subst h
    exact hc
  | x :: y :: r, h, c, hc => by
    rcases List.mem_cons.mp h with rfl | h
    · exact mem_app_left (mem_app_left hc)
    · exact mem_app_right (mem_join (ws := y :: r) h c hc)
theorem asc_split {z : Str} (h : Asc z) : ∀ w ∈ Txt.split z bl, Asc w := fun w hw c hc => h c (by
  have := mem_join (sep := bl) hw c hc
  rw [StrLaws.join_split] at this
  exact this)
theorem len_split {z : Str} : ∀ w ∈ Txt.split z bl, w.length ≤ z.length := fun w hw => by
  have := PySem.join_mem_le bl (Txt.split z bl) w hw
  rw [StrLaws.join_split] at this
  exact this
theorem asc_slice {z : Str} (h : Asc z) (lo hi : Option Int) : Asc (Txt.slice z lo hi) := by
  unfold Txt.slice
  split
  · exact h
  · intro c hc
    obtain ⟨i, _, hi⟩ := List.mem_filterMap.mp (show c ∈ List.filterMap (fun x_1 => z.cps[x_1]?) _ from hc)
    exact h c (Array.mem_toList_iff.mpr (Array.mem_of_getElem? hi))
theorem asc_repr {w : Str} (h : Asc w) (hl : w.length ≤ 200) : (reprText w).length ≤ 2002 := Nat.le_trans (StrLaws.reprText_len w (fun c hc => Nat.lt_trans (h c hc) (by decide))) (by omega)
def dStrs (ws : List Str) : PyData := .list (ws.map PyData.str)
theorem rd_strs {H : Hp} : ∀ ws : List Str, RdDs H (ws.map V.str) (ws.map PyData.str)
  | [] => .nil
  | b :: r => .cons (.str b) (rd_strs r)
theorem canLay_strs : ∀ ws : List Str, (∀ w ∈ ws, PyData.strOk w = true) → PyData.canLayAll0 (ws.map PyData.str) = true
  | [], _ => by simp only [List.map_nil, PyData.canLayAll0]
  | b :: r, h => by simp only [List.map_cons, PyData.canLayAll0, PyData.canLay0, canLay_strs r (fun w hw => h w (List.mem_cons_of_mem _ hw)), h b (by simp), Bool.and_self]
theorem depth_strs : ∀ ws : List Str, PyData.depthAll (ws.map PyData.str) ≤ 1
  | [] => by simp [PyData.depthAll]
  | b :: r => by have := depth_strs r; simp [PyData.depthAll, PyData.depth]; omega
theorem shaped_strs (ws : List Str) (h : ∀ w ∈ ws, PyData.strOk w = true) : SeqAt.shaped (dStrs ws) = true := by
  refine shaped_of ?_ ?_
  · unfold dStrs; simp only [PyData.canLay0]; exact canLay_strs ws h
  · unfold dStrs; have := depth_strs ws; simp only [PyData.depth]; omega
theorem eqvAll_strs : ∀ as bs : List Str, PyData.eqvAll (as.map PyData.str) (bs.map PyData.str) = decide (as = bs)
  | [], [] => by simp [PyData.eqvAll]
  | [], _ :: _ => by simp [PyData.eqvAll]
  | _ :: _, [] => by simp [PyData.eqvAll]
  | a :: r, b :: t => by
    simp only [List.map_cons, PyData.eqvAll, PyData.eqv, eqvAll_strs r t]
    by_cases h : a = b <;> by_cases h' : r = t <;> simp [h, h']
theorem eqv_strs (as bs : List Str) : PyData.eqv (dStrs as) (dStrs bs) = decide (as = bs) := by
  unfold dStrs
  simp only [PyData.eqv]
  exact eqvAll_strs as bs
theorem strs_depth (ws : List Str) : (dStrs ws).depth ≤ 60 := by unfold dStrs; have := depth_strs ws; simp only [PyData.depth]; omega
theorem showableAll_strs : ∀ ws : List Str, PyData.showableAll (ws.map PyData.str) = true
  | [] => by simp [PyData.showableAll]
  | b :: r => by simp [PyData.showableAll, PyData.showable, showableAll_strs r]
theorem strs_showable (ws : List Str) : (dStrs ws).showable = true := by unfold dStrs; simp only [PyData.showable]; exact showableAll_strs ws
theorem hasDictAll_strs : ∀ ws : List Str, PyData.hasDictAll (ws.map PyData.str) = false
  | [] => by simp [PyData.hasDictAll]
  | b :: r => by simp [PyData.hasDictAll, PyData.hasDict, hasDictAll_strs r]
theorem strs_noDict (ws : List Str) : (dStrs ws).hasDict = false := by unfold dStrs; simp only [PyData.hasDict]; exact hasDictAll_strs ws
theorem shownAll_strs : ∀ ws : List Str, PyData.shownAll (ws.map PyData.str) = ws.map reprText
  | [] => by simp [PyData.shownAll]
  | b :: r => by simp [PyData.shownAll, PyData.shown, shownAll_strs r]
theorem sum_le {B : Nat} : ∀ l : List Nat, (∀ x ∈ l, x ≤ B) → l.sum ≤ B * l.length
  | [], _ => by simp
  | x :: r, h => by
    have h1 := h x (by simp)
    have h2 := sum_le r fun y hy => h y (List.mem_cons_of_mem _ hy)
    rw [List.sum_cons, List.length_cons, Nat.mul_add]
    omega
theorem strs_shown {ws : List Str} (h : ∀ w ∈ ws, Asc w) (hl : ∀ w ∈ ws, w.length ≤ 200) (hn : ws.length ≤ 300) : (dStrs ws).shown.length ≤ 700000 := by
  unfold dStrs
  simp only [PyData.shown]
  rw [shownAll_strs]
  refine Nat.le_trans (listText_len_le _) ?_
  have := sum_le (B := 2002) ((ws.map reprText).map (·.length)) (fun x hx => by
    rw [List.map_map] at hx
    obtain ⟨w, hw, rfl⟩ := List.mem_map.mp hx
    exact asc_repr (h w hw) (hl w hw))
  rw [List.length_map, List.length_map] at this
  rw [List.length_map]
  have : 2002 * ws.length ≤ 2002 * 300 := Nat.mul_le_mul_left _ hn
  omega
def numOf (w : Str) : Int := (numW w).getD 0
theorem num_dig : ∀ n : Fin 61, (∀ c ∈ (iS (n.val : Int)).cps.toList, 48 ≤ c ∧ c ≤ 57) ∧ 1 ≤ (iS (n.val : Int)).length ∧ (1 ≤ n.val → (iS (n.val : Int)).cps[0]? ≠ some 48) := by decide +kernel
theorem numW_long {w : Str} (h : 2 < w.length) : numW w = none := numW_none fun j hj e => by
  have := num_len (n := j + 1) (by omega)
  rw [← e] at this
  omega
theorem numW_empty {w : Str} (h : w.length = 0) : numW w = none := numW_none fun j hj e => by
  have := (num_dig ⟨j + 1, by omega⟩).2.1
  rw [show iS (((⟨j + 1, by omega⟩ : Fin 61).val : Nat) : Int) = w from e.symm] at this
  omega
theorem numW_char {w : Str} {c : Nat} (hc : c ∈ w.cps.toList) (hd : ¬ (48 ≤ c ∧ c ≤ 57)) : numW w = none := numW_none fun j hj e => by
  have := (num_dig ⟨j + 1, by omega⟩).1 c
  rw [show iS (((⟨j + 1, by omega⟩ : Fin 61).val : Nat) : Int) = w from e.symm] at this
  exact hd (this hc)
theorem numW_zero {w : Str} (h : w.cps[0]? = some 48) : numW w = none := numW_none fun j hj e => by
  have := (num_dig ⟨j + 1, by omega⟩).2.2 (by show 1 ≤ j + 1; omega)
  rw [show iS (((⟨j + 1, by omega⟩ : Fin 61).val : Nat) : Int) = w from e.symm] at this
  exact this h
theorem num_back99 : ∀ n : Fin 100, numB (iS (n.val : Int)) = (n.val : Int) := by decide +kernel
theorem one_dig : ∀ a : Fin 10, iS ((a.val : Nat) : Int) = ⟨#[48 + a.val]⟩ ∧ intText? ⟨#[48 + a.val]⟩ = some (a.val : Int) := by decide +kernel
theorem two_dig : ∀ a b : Fin 10, a.val ≠ 0 → iS ((10 * a.val + b.val : Nat) : Int) = ⟨#[48 + a.val, 48 + b.val]⟩ ∧ intText? ⟨#[48 + a.val, 48 + b.val]⟩ = some ((10 * a.val + b.val : Nat) : Int) := by decide +kernel
theorem num_digits {w : Str} (h1 : w.length ≠ 0) (h2 : ¬ 2 < w.length) (h0 : w.cps[0]? ≠ some 48) (hd : ∀ c ∈ w.cps.toList, 48 ≤ c ∧ c ≤ 57) : ∃ n : Nat, 1 ≤ n ∧ n ≤ 99 ∧ w = iS (n : Int) ∧ intText? w = some (n : Int) := by
  obtain ⟨⟨l⟩⟩ := w
  have h1' : l.length ≠ 0 := h1
  have h2' : ¬ 2 < l.length := h2
  match l, h1', h2', h0, hd with
  | [a], _, _, h0, hd =>
    have ha := hd a (by simp)
    have h0' : a ≠ 48 := fun z => h0 (by rw [z]; rfl)
    obtain ⟨e1, e2⟩ := one_dig ⟨a - 48, by omega⟩
    have ea : 48 + (a - 48) = a := by omega
    refine ⟨a - 48, by omega, by omega, ?_, ?_⟩
    · rw [show iS ((a - 48 : Nat) : Int) = _ from e1]
      show (⟨#[a]⟩ : Str) = ⟨#[48 + (a - 48)]⟩
      rw [ea]
    · have e2' : intText? ⟨#[48 + (a - 48)]⟩ = some ((a - 48 : Nat) : Int) := e2
      rw [ea] at e2'
      exact e2'
  | [a, b], _, _, h0, hd =>
    have ha := hd a (by simp)
    have hb := hd b (by simp)
    have h0' : a ≠ 48 := fun z => h0 (by rw [z]; rfl)
    obtain ⟨e1, e2⟩ := two_dig ⟨a - 48, by omega⟩ ⟨b - 48, by omega⟩ (by show a - 48 ≠ 0; omega)
    have ea : 48 + (a - 48) = a := by omega
    have eb : 48 + (b - 48) = b := by omega
    refine ⟨10 * (a - 48) + (b - 48), by omega, by omega, ?_, ?_⟩
    · rw [show iS ((10 * (a - 48) + (b - 48) : Nat) : Int) = _ from e1]
      show (⟨#[a, b]⟩ : Str) = ⟨#[48 + (a - 48), 48 + (b - 48)]⟩
      rw [ea, eb]
    · have e2' : intText? ⟨#[48 + (a - 48), 48 + (b - 48)]⟩ = some ((10 * (a - 48) + (b - 48) : Nat) : Int) := e2
      rw [ea, eb] at e2'
      exact e2'
  | _ :: _ :: _ :: _, _, h2, _, _ => exact absurd (by simp) h2
theorem numW_big {n : Nat} (h : 60 < n) (h2 : n ≤ 99) : numW (iS (n : Int)) = none := numW_none fun j hj e => by
  have a1 : numB (iS (n : Int)) = (n : Int) := num_back99 ⟨n, by omega⟩
  have a2 : numB (iS ((j + 1 : Nat) : Int)) = ((j + 1 : Nat) : Int) := num_back99 ⟨j + 1, by omega⟩
  rw [e, a2] at a1
  omega
theorem numW_pos {w : Str} {x : Int} (h : numW w = some x) : 1 ≤ x := by
  unfold numW at h
  cases hf : (List.range 60).find? (fun i => w == iS ((i + 1 : Nat) : Int)) with
  | none => rw [hf] at h; cases h
  | some i => rw [hf] at h; cases h; show (1 : Int) ≤ ((i + 1 : Nat) : Int); omega
theorem numOf_zero {w : Str} : numOf w = 0 ↔ numW w = none := by
  unfold numOf
  cases h : numW w with
  | none => simp
  | some x => have := numW_pos h; simp; omega
theorem numW_notw : numW "not" = none := numW_none fun j hj z => num_not (n := j + 1) (by omega) z.symm
def takenR : List Str → Int × List Str
  | [] => (0, [])
  | [w] => (numOf w, [])
  | n :: w :: r => if n = "not" then (-numOf w, r) else (numOf n, w :: r)
theorem lit_taken (rs : List Str) : litR rs = if (takenR rs).1 = 0 ∨ 0 < (takenR rs).2.length then none else some (takenR rs).1 := by
  rcases rs with _ | ⟨n, _ | ⟨w, _ | ⟨v, r⟩⟩⟩
  · rfl
  · show numW n = if numOf n = 0 ∨ 0 < ([] : List Str).length then none else some (numOf n)
    cases h : numW n with
    | none => rw [if_pos (.inl (numOf_zero.mpr h))]
    | some x =>
      have hp := numW_pos h
      have e : numOf n = x := by unfold numOf; rw [h]; rfl
      rw [e, if_neg (by simp; omega)]
  · show (if n = "not" then (numW w).map fun x => -x else none) = if (if n = "not" then (-numOf w, ([] : List Str)) else (numOf n, [w])).1 = 0 ∨ 0 < (if n = "not" then (-numOf w, ([] : List Str)) else (numOf n, [w])).2.length then none else some (if n = "not" then (-numOf w, ([] : List Str)) else (numOf n, [w])).1
    by_cases hn : n = "not"
    · rw [if_pos hn, if_pos hn]
      cases h : numW w with
      | none => rw [if_pos (.inl (by show -numOf w = 0; rw [numOf_zero.mpr h]; rfl))]; rfl
      | some x =>
        have hp := numW_pos h
        have e : numOf w = x := by unfold numOf; rw [h]; rfl
        rw [e, if_neg (by simp; omega)]
        rfl
    · rw [if_neg hn, if_neg hn, if_pos (.inr (by simp))]
  · show (none : Option Int) = if (if n = "not" then (-numOf w, v :: r) else (numOf n, w :: v :: r)).1 = 0 ∨ 0 < (if n = "not" then (-numOf w, v :: r) else (numOf n, w :: v :: r)).2.length then none else some (if n = "not" then (-numOf w, v :: r) else (numOf n, w :: v :: r)).1
    rw [if_pos (.inr (by split <;> simp))]
def dueR (ws : List Str) : Option (List Say) :=
  if (takenR ws).1 = 0 then none else if (takenR ws).2.length = 0 then some [((takenR ws).1, (takenR ws).1)] else
    if (takenR ((takenR ws).2.drop 1)).1 = 0 ∨ 0 < (takenR ((takenR ws).2.drop 1)).2.length then none else joinR (takenR ws).1 ((takenR ws).2.getD 0 bl) (takenR ((takenR ws).2.drop 1)).1
theorem due_aux (a : Int) (rest ws : List Str) (e : Nat) (ha : a ≠ 0) (hl : ws.length = e + rest.length) (hd : ws.drop (e + 1) = rest.drop 1) (hg : ws.getD e bl = rest.getD 0 bl) :
    (if a = 0 then none else if rest.length = 0 then some [(a, a)] else if (takenR (rest.drop 1)).1 = 0 ∨ 0 < (takenR (rest.drop 1)).2.length then none else joinR a (rest.getD 0 bl) (takenR (rest.drop 1)).1) =
      (if ws.length = e then some [(a, a)] else match litR (ws.drop (e + 1)) with
        | none => none
        | some b => joinR a (ws.getD e bl) b : Option (List Say)) := by
  rw [if_neg ha, hd, hg, lit_taken]
  by_cases h0 : rest.length = 0
  · have h3 : ws.length = e := by omega
    rw [if_pos h0, if_pos h3]
  · have h3 : ¬ ws.length = e := by omega
    rw [if_neg h0, if_neg h3]
    by_cases h1 : (takenR (rest.drop 1)).1 = 0 ∨ 0 < (takenR (rest.drop 1)).2.length
    · rw [if_pos h1, if_pos h1]
    · rw [if_neg h1, if_neg h1]
theorem due_read {ws : List Str} (h : ws ≠ []) : dueR ws = readR ws := by
  obtain ⟨w0, r0, rfl⟩ := List.exists_cons_of_ne_nil h
  unfold readR dueR
  by_cases hn : w0 = "not"
  · have he : endR (w0 :: r0) = 2 := by show (if w0 = "not" then 2 else 1) = 2; rw [if_pos hn]
    rw [he]
    subst hn
    rcases r0 with _ | ⟨w, r⟩
    · have el : litR ([("not" : Str)].take 2) = none := numW_notw
      rw [el]
      exact if_pos (numOf_zero.mpr numW_notw)
    · have et : takenR (("not" : Str) :: w :: r) = (-numOf w, r) := by rw [takenR]; exact if_pos rfl
      have el : litR ((("not" : Str) :: w :: r).take 2) = (numW w).map fun x => -x := by show litR [("not" : Str), w] = _; rw [litR]; exact if_pos rfl
      rw [et, el]
      cases hw : numW w with
      | none =>
        show (if -numOf w = 0 then none else _) = none
        rw [if_pos (by rw [numOf_zero.mpr hw]; rfl)]
      | some x =>
        have hp := numW_pos hw
        have e : numOf w = x := by unfold numOf; rw [hw]; rfl
        rw [e]
        exact due_aux (-x) r (("not" : Str) :: w :: r) 2 (by omega) (by simp; omega) (by simp) (by simp [List.getD])
  · have he : endR (w0 :: r0) = 1 := by show (if w0 = "not" then 2 else 1) = 1; rw [if_neg hn]
    rw [he]
    have et : takenR (w0 :: r0) = (numOf w0, r0) := by
      rcases r0 with _ | ⟨w, r⟩
      · rfl
      · show (if w0 = "not" then _ else (numOf w0, w :: r)) = _
        rw [if_neg hn]
    have el : litR ((w0 :: r0).take 1) = numW w0 := rfl
    rw [et, el]
    cases hw : numW w0 with
    | none =>
      show (if numOf w0 = 0 then none else _) = none
      rw [if_pos (numOf_zero.mpr hw)]
    | some x =>
      have hp := numW_pos hw
      have e : numOf w0 = x := by unfold numOf; rw [hw]; rfl
      rw [e]
      exact due_aux x r0 (w0 :: r0) 1 (by omega) (by simp; omega) (by simp) (by simp [List.getD])
theorem asc_num : ∀ n : Fin 100, (iS (n.val : Int)).cps.all (· < 128) = true ∧ (iS (n.val : Int)).length ≤ 2 := by decide +kernel
theorem asc_iS {x : Int} (h0 : 0 ≤ x) (h : x < 100) : Asc (iS x) ∧ (iS x).length ≤ 2 := by
  obtain ⟨n, rfl⟩ := Int.eq_ofNat_of_zero_le h0
  have := asc_num ⟨n, by omega⟩
  exact ⟨asc_of this.1, this.2⟩
end EB
namespace EB
open PySem L2
theorem str_empty {w : Str} (h : w.length = 0) : w = "" := by
  obtain ⟨⟨l⟩⟩ := w
  have h' : l.length = 0 := h
  cases l with
  | nil => rfl
  | cons _ _ => cases h'
theorem one_sign {c : Nat} (h : (⟨#[c]⟩ : Str) = "0") : c = 48 := by
  have : (⟨#[c]⟩ : Str).cps.toList = ("0" : Str).cps.toList := by rw [h]
  have e : ("0" : Str).cps.toList = [48] := by decide +kernel
  rw [e] at this
  have h2 : [c] = [48] := this
  simpa using h2
theorem in_dig : ∀ c : Fin 128, (!(!(Builtin.Str.occurrences ("0123456789" : Str) ⟨#[c.val]⟩ 0 ("0123456789" : Str).length 1).isEmpty)) = !decide (48 ≤ c.val ∧ c.val ≤ 57) := by decide +kernel
theorem taken_sub : ∀ ws : List Str, ∀ w ∈ (takenR ws).2, w ∈ ws
  | [], w, h => by cases h
  | [x], w, h => by cases h
  | n :: x :: r, w, h => by
    rw [takenR] at h
    split at h
    · exact List.mem_cons_of_mem _ (List.mem_cons_of_mem _ h)
    · exact List.mem_cons_of_mem _ h
def dB2 (a b : Bool) : PyData := .tuple [.bool a, .bool b]
theorem rd_b2 {H : Hp} {d : Addr} {a b : Bool} (h : H d = some (.tup [.bl a, .bl b])) : RdD H (.ref d) (dB2 a b) := .tup h (.cons (.bl a) (.cons (.bl b) .nil))
theorem shaped_b2 (a b : Bool) : SeqAt.shaped (dB2 a b) = true := by cases a <;> cases b <;> decide +kernel
end EB
namespace EB
open PySem L2
theorem asc_sign {c : Nat} (h : c < 128) : Asc (⟨#[c]⟩ : Str) := fun d hd => by
  have : d ∈ [c] := hd
  rw [List.mem_singleton] at this
  omega
theorem sign_at {s : Str} {n j : Nat} (h : s.cps.size = n ∧ s.cps.all (· < 128) = true) (hj : j < n) : ∃ c, atI s.cps.toList (j : Int) = some c ∧ c < 128 := by
  have hj' : j < s.cps.toList.length := by rw [Array.length_toList]; omega
  exact ⟨s.cps.toList[j], atI_nat (List.getElem?_eq_getElem hj'), asc_of h.2 _ (List.getElem_mem hj')⟩
end EB
namespace EB
open PySem L2
theorem join_ok {ws : List Str} {sep : Str} (hs : sep.length = 1) (hl : ∀ w ∈ ws, w.length ≤ 10) (hn : ws.length ≤ 6) : JoinOk sep ws = true := by
  unfold JoinOk
  rw [Bool.not_eq_true']
  refine StrLaws.joinFits (B := 10) hl ?_
  rw [hs]
  omega
theorem join_short {ws : List Str} {sep : Str} (hs : sep.length = 1) (hl : ∀ w ∈ ws, w.length ≤ 10) (hn : ws.length ≤ 6) : (Str.join sep ws).length ≤ 66 := by
  refine Nat.le_trans (StrLaws.join_length_le sep ws) ?_
  have := sum_le (B := 10) (ws.map (·.length)) (fun x hx => by
    obtain ⟨w, hw, rfl⟩ := List.mem_map.mp hx
    exact hl w hw)
  rw [List.length_map] at this
  rw [hs]
  omega
end EB
namespace Eb
open PySem L2 EB
def top (i : Nat) : Stmt := PySem.Challenge.pw_eitherbook_k14_lines.main.body.getD i (.Pass ⟨0, 0, 0, 0⟩)
abbrev s_read_number : Stmt := top 9
abbrev s_read_lit : Stmt := top 10
abbrev s_joined : Stmt := top 11
abbrev s_read : Stmt := top 12
abbrev s_law_cell_at : Stmt := top 14
abbrev s_law_whole : Stmt := top 15
abbrev s_law_word_by : Stmt := top 16
abbrev s_law_number : Stmt := top 17
abbrev s_law_taken : Stmt := top 18
abbrev s_law_due : Stmt := top 19
abbrev s_law_read : Stmt := top 20
abbrev s_law_right : Stmt := top 21
abbrev s_law : Stmt := top 22
structure Ad where
  f_read_number : Addr
  d_read_number : FuncData
  f_read_lit : Addr
  d_read_lit : FuncData
  f_joined : Addr
  d_joined : FuncData
  f_read : Addr
  d_read : FuncData
  f_law_cell_at : Addr
  d_law_cell_at : FuncData
  f_law_whole : Addr
  d_law_whole : FuncData
  f_law_word_by : Addr
  d_law_word_by : FuncData
  f_law_number : Addr
  d_law_number : FuncData
  f_law_taken : Addr
  d_law_taken : FuncData
  f_law_due : Addr
  d_law_due : FuncData
  f_law_read : Addr
  d_law_read : FuncData
  f_law_right : Addr
  d_law_right : FuncData
  f_law : Addr
  d_law : FuncData
  c_SayError : Addr
  c_BadSay : Addr
  c_BadLine : Addr
  c_FullBook : Addr
  c_EmptyBook : Addr
  c_NoSetting : Addr
structure Tx (K : PySem.W.Frag) (mg : Str → Option Value) (t : Ad) : Prop where
  F_read_number : Fun K "read_number" "read_number" s_read_number t.f_read_number t.d_read_number
  b_read_number : Binds K t.d_read_number ["word"] []
  m_read_number : mg "read_number" = some (.ref t.f_read_number)
  F_read_lit : Fun K "read_lit" "read_lit" s_read_lit t.f_read_lit t.d_read_lit
  b_read_lit : Binds K t.d_read_lit ["words"] []
  m_read_lit : mg "read_lit" = some (.ref t.f_read_lit)
  F_joined : Fun K "joined" "joined" s_joined t.f_joined t.d_joined
  b_joined : Binds K t.d_joined ["a", "word", "b"] []
  m_joined : mg "joined" = some (.ref t.f_joined)
  F_read : Fun K "read" "read" s_read t.f_read t.d_read
  b_read : Binds K t.d_read ["line"] []
  m_read : mg "read" = some (.ref t.f_read)
  F_law_cell_at : Fun K "_law_cell_at" "_law_cell_at" s_law_cell_at t.f_law_cell_at t.d_law_cell_at
  b_law_cell_at : Binds K t.d_law_cell_at ["script", "k"] []
  m_law_cell_at : mg "_law_cell_at" = some (.ref t.f_law_cell_at)
  F_law_whole : Fun K "_law_whole" "_law_whole" s_law_whole t.f_law_whole t.d_law_whole
  b_law_whole : Binds K t.d_law_whole ["found"] []
  m_law_whole : mg "_law_whole" = some (.ref t.f_law_whole)
  F_law_word_by : Fun K "_law_word_by" "_law_word_by" s_law_word_by t.f_law_word_by t.d_law_word_by
  b_law_word_by : Binds K t.d_law_word_by ["cell"] []
  m_law_word_by : mg "_law_word_by" = some (.ref t.f_law_word_by)
  F_law_number : Fun K "_law_number" "_law_number" s_law_number t.f_law_number t.d_law_number
  b_law_number : Binds K t.d_law_number ["word"] []
  m_law_number : mg "_law_number" = some (.ref t.f_law_number)
  F_law_taken : Fun K "_law_taken" "_law_taken" s_law_taken t.f_law_taken t.d_law_taken
  b_law_taken : Binds K t.d_law_taken ["words"] []
  m_law_taken : mg "_law_taken" = some (.ref t.f_law_taken)
  F_law_due : Fun K "_law_due" "_law_due" s_law_due t.f_law_due t.d_law_due
  b_law_due : Binds K t.d_law_due ["line"] []
  m_law_due : mg "_law_due" = some (.ref t.f_law_due)
  F_law_read : Fun K "_law_read" "_law_read" s_law_read t.f_law_read t.d_law_read
  b_law_read : Binds K t.d_law_read ["line"] []
  m_law_read : mg "_law_read" = some (.ref t.f_law_read)
  F_law_right : Fun K "_law_right" "_law_right" s_law_right t.f_law_right t.d_law_right
  b_law_right : Binds K t.d_law_right ["got", "due"] []
  m_law_right : mg "_law_right" = some (.ref t.f_law_right)
  F_law : Fun K "law" "law" s_law t.f_law t.d_law
  b_law : Binds K t.d_law ["script"] []
  m_law : mg "law" = some (.ref t.f_law)
  z_ValueError : mg "ValueError" = none
  z_bool : mg "bool" = none
  z_int : mg "int" = none
  z_isinstance : mg "isinstance" = none
  z_len : mg "len" = none
  z_list : mg "list" = none
  z_range : mg "range" = none
  z_str : mg "str" = none
  z_tuple : mg "tuple" = none
  ob : ObK K
  n_SayError : IsC K "SayError" t.c_SayError
  m_SayError : mg "SayError" = some (.ref t.c_SayError)
  x_SayError : ExK K t.c_SayError
  n_BadSay : IsC K "BadSay" t.c_BadSay
  m_BadSay : mg "BadSay" = some (.ref t.c_BadSay)
  x_BadSay : ExK K t.c_BadSay
  n_BadLine : IsC K "BadLine" t.c_BadLine
  m_BadLine : mg "BadLine" = some (.ref t.c_BadLine)
  x_BadLine : ExK K t.c_BadLine
  n_FullBook : IsC K "FullBook" t.c_FullBook
  m_FullBook : mg "FullBook" = some (.ref t.c_FullBook)
  x_FullBook : ExK K t.c_FullBook
  n_EmptyBook : IsC K "EmptyBook" t.c_EmptyBook
  m_EmptyBook : mg "EmptyBook" = some (.ref t.c_EmptyBook)
  x_EmptyBook : ExK K t.c_EmptyBook
  n_NoSetting : IsC K "NoSetting" t.c_NoSetting
  m_NoSetting : mg "NoSetting" = some (.ref t.c_NoSetting)
  x_NoSetting : ExK K t.c_NoSetting
  s_BadLine_SayError : PySem.W.mroIn K t.c_BadLine (.ref t.c_SayError) = some true
  q_BadLine_BadSay : PySem.W.kitOne K (.ref t.c_BadLine) (.ref t.c_BadSay) = some false
  q_BadLine_EmptyBook : PySem.W.kitOne K (.ref t.c_BadLine) (.ref t.c_EmptyBook) = some false
  q_BadLine_NoSetting : PySem.W.kitOne K (.ref t.c_BadLine) (.ref t.c_NoSetting) = some false
  q_BadLine_FullBook : PySem.W.kitOne K (.ref t.c_BadLine) (.ref t.c_FullBook) = some false
  q_BadLine_BadLine : PySem.W.kitOne K (.ref t.c_BadLine) (.ref t.c_BadLine) = some true
  q_BadLine_ValueError : PySem.W.kitOne K (.ref t.c_BadLine) (.type "ValueError") = some true
  g_LAST_NUMBER : ∃ tk, mg "LAST_NUMBER" = some (.int 60 tk)
def sp_read_number (K : PySem.W.Frag) : Sp := fun vs H Q E => ∃ (w : Str), vs = [.str w] ∧ Asc w ∧ w.length ≤ 200 ∧ (∀ x, numW w = some x → Q (.int x) H) ∧ (numW w = none → ∀ C, IsC K "BadLine" C → E (.ref C) none H)
theorem sc_read_number : FnScope ["word", "number"] ["word"] (defScope s_read_number) := ⟨rfl, rfl, rfl, by decide +kernel, rfl, by decide +kernel, by decide +kernel⟩
set_option maxHeartbeats 4000000 in
theorem ok_read_number {P : Program} {w : World} {K : PySem.W.Frag} {mg : Str → Option Value} {base : Heap} {t : Ad} (T : Tx K mg t) : FnOk P w K mg base (CX1 P w) 1 t.f_read_number t.d_read_number ["word"] (sp_read_number K) := by
  refine T.F_read_number.okX sc_read_number (fun vs H Q E h => ?_) (fun cdv A outer s H vs Q E hr h => ?_)
  · obtain ⟨w, rfl, hA, hl, q1, q2⟩ := h
    rfl
  · obtain ⟨w, rfl, hA, hl, q1, q2⟩ := h
    have hu := hu_of hr
    obtain ⟨tk_LAST_NUMBER, g_LAST_NUMBER⟩ := T.g_LAST_NUMBER
    refine ⟨_, (pss_cons (ps_for own_leaving rfl (pi_range2 rfl T.z_range (pa_cons pe_int (pa_cons (pe_op op_add (pe_glob (v := .int 60) rfl g_LAST_NUMBER ⟨_, rfl⟩) pe_int) pa_nil))) (pg_name (i := 1) sc_read_number.nd rfl (Or.inl rfl))
        (pss_one (ps_if (pt_cmpR op_eq (pv 0) (pe_callTy call_str_int (by rfl) T.z_str (show bootBuiltins "str" = _ by decide +kernel) (pa_cons (pv 1) pa_nil)) (nomark _)) (pss_one (ps_ret (pv 1))) pss_nil)))
      (pss_one (ps_raise rfl rfl T.m_BadLine T.x_BadLine.ex (pa_cons (pe_text (pj_cons pe_str (pj_cons (pe_fmtR hr.gd hr.units (pv 0)) pj_nil))) pa_nil)))), ?_⟩
    have big : ∀ k, k ≤ 1000000 → k ≤ sizeLine := fun k hk => Nat.le_trans hk (by decide)
    refine ⟨_, _, rfl, rfl, _, _, rfl, ⟨by decide, by decide, by decide, by decide⟩, for_range (lo := 1) (n := ((60 : Int) + 1 - 1).toNat) (fun i σ H2 => H2 = H ∧ ∃ v, σ = [some (.str w), v] ∧ ∀ j, j < i → w ≠ iS ((j + 1 : Nat) : Int)) ⟨rfl, none, rfl, fun j hj => by omega⟩ ?_ ?_⟩
    · rintro i σ H2 hi ⟨rfl, v, rfl, no⟩
      have hi6 : i < 60 := hi
      have ev : (1 : Int) + (i : Int) = ((i + 1 : Nat) : Int) := by omega
      rw [ev]
      refine ⟨_, rfl, _, rfl, _, rfl, Nat.lt_of_le_of_lt (Nat.log2_le_self _) (by omega), rfl, _, rfl, ?_⟩
      rw [dec_str]
      refine ite2 (fun e => ?_) (fun e => ⟨rfl, _, rfl, fun j hj => ?_⟩)
      · exact ⟨_, rfl, q1 _ (numW_at hi6 no (eq_of_beq e))⟩
      · by_cases hj' : j = i
        · subst hj'
          exact fun z => e (beq_iff_eq.mpr z)
        · exact no j (by omega)
    · rintro σ H2 ⟨rfl, v, rfl, no⟩
      have e1 : (Str.empty ++ ("no number of a switch: " : Str)).length = 23 := by decide +kernel
      have hr' := asc_repr hA hl
      exact ⟨_, rfl, (by rw [e1]; decide), _, rfl, .inl ⟨_, rfl, big _ (by omega), _, rfl, big _ (by rw [Str.length_append, e1]; omega), big _ (by rw [Str.length_append, e1]; omega), (by show 1 ≤ sizeLine; decide), q2 (numW_none no) _ T.n_BadLine⟩⟩
def sp_read_lit (K : PySem.W.Frag) : Sp := fun vs H Q E => ∃ (l : Addr) (ws : List Str), vs = [.ref l] ∧ H l = some (.lst (ws.map V.str)) ∧ (∀ w ∈ ws, Asc w) ∧ (∀ w ∈ ws, w.length ≤ 200) ∧ ws.length ≤ 300 ∧ (∀ x, litR ws = some x → Q (.int x) H) ∧ (litR ws = none → ∀ C, IsC K "BadLine" C → E (.ref C) none H)
theorem sc_read_lit : FnScope ["words"] ["words"] (defScope s_read_lit) := ⟨rfl, rfl, rfl, by decide +kernel, rfl, by decide +kernel, by decide +kernel⟩
set_option maxHeartbeats 4000000 in
theorem ok_read_lit {P : Program} {w : World} {K : PySem.W.Frag} {mg : Str → Option Value} {base : Heap} {t : Ad} (T : Tx K mg t) : FnOk P w K mg base (CX1 P w) 2 t.f_read_lit t.d_read_lit ["words"] (sp_read_lit K) := by
  have G_read_number := ok_read_number (P := P) (w := w) (base := base) T
  refine T.F_read_lit.okX sc_read_lit (fun vs H Q E h => ?_) (fun cdv A outer s H vs Q E hr h => ?_)
  · obtain ⟨l, ws, rfl, hl, hA, hL, hN, q1, q2⟩ := h
    rfl
  · obtain ⟨l, ws, rfl, hl, hA, hL, hN, q1, q2⟩ := h
    have hu := hu_of hr
    refine ⟨_, (pss_cons (ps_if (pt_cmpR op_eq (pe_callB call_len_seq (by rfl) T.z_len PySem.boot_len (pa_cons (pv 0) pa_nil)) pe_int (nomark _)) (pss_one (ps_ret (pe_call G_read_number (hr.mono (by decide)) rfl T.m_read_number T.F_read_number.kp T.b_read_number .nil pass1 (pa_cons (pe_ix ix_list (pv 0) pe_int (fun _ _ => rfl)) pa_nil)))) pss_nil)
      (pss_cons (ps_if (PW.pt (pw_and (pt_cmpR op_eq (pe_callB call_len_seq (by rfl) T.z_len PySem.boot_len (pa_cons (pv 0) pa_nil)) pe_int (nomark _)) (pw_and1 (pt_cmpR op_eq (pe_ix ix_list (pv 0) pe_int (fun _ _ => rfl)) pe_str (nomark _))))) (pss_one (ps_ret (pe_un un_neg (pe_call G_read_number (hr.mono (by decide)) rfl T.m_read_number T.F_read_number.kp T.b_read_number .nil pass1 (pa_cons (pe_ix ix_list (pv 0) pe_int (fun _ _ => rfl)) pa_nil))))) pss_nil)
      (pss_one (ps_raise rfl rfl T.m_BadLine T.x_BadLine.ex (pa_cons (pe_text (pj_cons pe_str (pj_cons (pe_fmtR hr.gd hr.units (pv 0)) pj_nil))) pa_nil))))), ?_⟩
    have big : ∀ k, k ≤ 1000000 → k ≤ sizeLine := fun k hk => Nat.le_trans hk (by decide)
    have e1 : (Str.empty ++ ("no literal: " : Str)).length = 12 := by decide +kernel
    have hsh := strs_shown hA hL hN
    refine ⟨_, rfl, l, _, rfl, .inl (SqL.of hl), rfl, _, rfl, ?_⟩
    rcases ws with _ | ⟨w, _ | ⟨w2, _ | ⟨w3, r⟩⟩⟩
    · refine iteF ⟨_, rfl, l, _, rfl, .inl (SqL.of hl), rfl, _, rfl, iteF (iteF ?_)⟩
      exact ⟨_, rfl, (by rw [e1]; decide), _, rfl, .inr ⟨l, dStrs [], rfl, .lst hl (rd_strs _), strs_showable _, strs_noDict _, strs_depth _, big _ (by omega), _, rfl, big _ (by rw [Str.length_append, e1]; omega), big _ (by rw [Str.length_append, e1]; omega), (by show 1 ≤ sizeLine; decide), q2 rfl _ T.n_BadLine⟩⟩
    · exact iteT ⟨_, rfl, l, _, _, _, rfl, rfl, SqL.of hl, rfl, w, rfl, hA w (by simp), hL w (by simp), fun x hx => q1 x hx, fun hx C hC => q2 hx C hC⟩
    · refine iteF ⟨_, rfl, l, _, rfl, .inl (SqL.of hl), rfl, _, rfl, iteT ?_⟩
      refine ⟨_, rfl, l, _, _, _, rfl, rfl, SqL.of hl, rfl, rfl, _, rfl, ?_⟩
      rw [dec_str]
      have hx' : litR [w, w2] = if w = "not" then (numW w2).map fun x => -x else none := rfl
      by_cases hw : w = "not"
      · rw [if_pos hw] at hx'
        refine ite2 (fun _ => ?_) (fun z => absurd (beq_iff_eq.mpr hw) z)
        refine ⟨_, rfl, l, _, _, _, rfl, rfl, SqL.of hl, rfl, w2, rfl, hA w2 (by simp), hL w2 (by simp), fun x hx => ⟨_, rfl, q1 _ (by rw [hx', hx]; rfl)⟩, fun hx C hC => q2 (by rw [hx', hx]; rfl) C hC⟩
      · rw [if_neg hw] at hx'
        refine ite2 (fun z => absurd (eq_of_beq z) hw) (fun _ => ?_)
        exact ⟨_, rfl, (by rw [e1]; decide), _, rfl, .inr ⟨l, dStrs [w, w2], rfl, .lst hl (rd_strs _), strs_showable _, strs_noDict _, strs_depth _, big _ (by omega), _, rfl, big _ (by rw [Str.length_append, e1]; omega), big _ (by rw [Str.length_append, e1]; omega), (by show 1 ≤ sizeLine; decide), q2 hx' _ T.n_BadLine⟩⟩
    · have n1 : ((w :: w2 :: w3 :: r).map V.str).length = r.length + 3 := by simp
      rw [n1, dec_int]
      refine ite2 (fun z => by have := eq_of_beq z; omega) (fun _ => ?_)
      refine ⟨_, rfl, l, _, rfl, .inl (SqL.of hl), rfl, _, rfl, ?_⟩
      rw [n1, dec_int]
      refine ite2 (fun z => by have := eq_of_beq z; omega) (fun _ => iteF ?_)
      exact ⟨_, rfl, (by rw [e1]; decide), _, rfl, .inr ⟨l, dStrs (w :: w2 :: w3 :: r), rfl, .lst hl (rd_strs _), strs_showable _, strs_noDict _, strs_depth _, big _ (by omega), _, rfl, big _ (by rw [Str.length_append, e1]; omega), big _ (by rw [Str.length_append, e1]; omega), (by show 1 ≤ sizeLine; decide), q2 rfl _ T.n_BadLine⟩⟩
def sp_joined (K : PySem.W.Frag) : Sp := fun vs H Q E => ∃ (a b : Int) (w : Str), vs = [.int a, .str w, .int b] ∧ Asc w ∧ w.length ≤ 200 ∧ (∀ (P : List Say) (l : Addr) (H' : Hp), joinR a w b = some P → H l = none → Same H H' → PileAt H' l P → Q (.ref l) H') ∧ (joinR a w b = none → ∀ C, IsC K "BadLine" C → E (.ref C) none H)
theorem sc_joined : FnScope ["a", "word", "b"] ["a", "word", "b"] (defScope s_joined) := ⟨rfl, rfl, rfl, by decide +kernel, rfl, by decide +kernel, by decide +kernel⟩
set_option maxHeartbeats 4000000 in
theorem ok_joined {P : Program} {w : World} {K : PySem.W.Frag} {mg : Str → Option Value} {base : Heap} {t : Ad} (T : Tx K mg t) : FnOk P w K mg base (CX1 P w) 1 t.f_joined t.d_joined ["a", "word", "b"] (sp_joined K) := by
  refine T.F_joined.okX sc_joined (fun vs H Q E h => ?_) (fun cdv A outer s H vs Q E hr h => ?_)
  · obtain ⟨a, b, w, rfl, hA, hl, q1, q2⟩ := h
    rfl
  · obtain ⟨a, b, w, rfl, hA, hl, q1, q2⟩ := h
    have hu := hu_of hr
    refine ⟨_, (pss_cons (ps_if (pt_cmpR op_eq (pv 1) pe_str (nomark _)) (pss_one (ps_ret (pe_lst (pa_cons (pe_tup (pa_cons (pv 0) (pa_cons (pv 2) pa_nil))) pa_nil)))) pss_nil)
      (pss_cons (ps_if (pt_cmpR op_eq (pv 1) pe_str (nomark _)) (pss_one (ps_ret (pe_lst (pa_cons (pe_tup (pa_cons (pe_un un_neg (pv 0)) (pa_cons (pv 2) pa_nil))) pa_nil)))) pss_nil)
      (pss_cons (ps_if (pt_cmpR op_eq (pv 1) pe_str (nomark _)) (pss_one (ps_ret (pe_lst (pa_cons (pe_tup (pa_cons (pe_un un_neg (pv 0)) (pa_cons (pv 2) pa_nil))) (pa_cons (pe_tup (pa_cons (pv 0) (pa_cons (pe_un un_neg (pv 2)) pa_nil))) pa_nil))))) pss_nil)
      (pss_cons (ps_if (pt_cmpR op_eq (pv 1) pe_str (nomark _)) (pss_one (ps_ret (pe_lst (pa_cons (pe_tup (pa_cons (pv 0) (pa_cons (pv 2) pa_nil))) (pa_cons (pe_tup (pa_cons (pe_un un_neg (pv 0)) (pa_cons (pe_un un_neg (pv 2)) pa_nil))) pa_nil))))) pss_nil)
      (pss_one (ps_raise rfl rfl T.m_BadLine T.x_BadLine.ex (pa_cons (pe_text (pj_cons pe_str (pj_cons (pe_fmtR hr.gd hr.units (pv 1)) pj_nil))) pa_nil))))))), ?_⟩
    have big : ∀ k, k ≤ 1000000 → k ≤ sizeLine := fun k hk => Nat.le_trans hk (by decide)
    have e1 : (Str.empty ++ ("no word between two literals: " : Str)).length = 30 := by decide +kernel
    have hr' := asc_repr hA hl
    obtain ⟨hP, ehP⟩ : ∃ o, joinR a w b = o := ⟨_, rfl⟩
    have one : ∀ (x y : Int), joinR a w b = some [(x, y)] → ∀ p, H p = none → ∀ l, upd H p (.tup [.int x, .int y]) l = none → Q (.ref l) (upd (upd H p (.tup [.int x, .int y])) l (.lst [.ref p])) := fun x y e p hp l hl => by
      have g1 := same_new (o := .tup [.int x, .int y]) hp
      have g2 := same_new (o := .lst [.ref p]) hl
      exact q1 _ l _ e (g1.free hl) (g1.trans g2) ⟨[p], upd_same, .cons (b := (x, y)) (g2 _ _ upd_same) .nil⟩
    have two : ∀ (x y x' y' : Int), joinR a w b = some [(x, y), (x', y')] → ∀ p, H p = none → ∀ p', upd H p (.tup [.int x, .int y]) p' = none → ∀ l, upd (upd H p (.tup [.int x, .int y])) p' (.tup [.int x', .int y']) l = none → Q (.ref l) (upd (upd (upd H p (.tup [.int x, .int y])) p' (.tup [.int x', .int y'])) l (.lst [.ref p, .ref p'])) := fun x y x' y' e p hp p' hp' l hl => by
      have g1 := same_new (o := .tup [.int x, .int y]) hp
      have g2 := same_new (o := .tup [.int x', .int y']) hp'
      have g3 := same_new (o := .lst [.ref p, .ref p']) hl
      exact q1 _ l _ e ((g1.trans g2).free hl) ((g1.trans g2).trans g3) ⟨[p, p'], upd_same, .cons (b := (x, y)) (g3 _ _ (g2 _ _ upd_same)) (.cons (b := (x', y')) (g3 _ _ upd_same) .nil)⟩
    have hJ : joinR a w b = joinR a w b := rfl
    conv at hJ => rhs; unfold joinR
    refine ⟨_, rfl, rfl, _, rfl, ?_⟩
    rw [dec_str]
    refine ite2 (fun e => ?_) (fun e => ?_)
    · rw [if_pos (eq_of_beq e)] at hJ
      exact ⟨_, rfl, _, rfl, (by show 2 ≤ sizeLine; decide), fun p hp => ⟨(by show 1 ≤ sizeLine; decide), fun l hl => one _ _ hJ p hp l hl⟩⟩
    rw [if_neg (fun z => e (beq_iff_eq.mpr z))] at hJ
    refine ⟨_, rfl, rfl, _, rfl, ?_⟩
    rw [dec_str]
    refine ite2 (fun e => ?_) (fun e => ?_)
    · rw [if_pos (eq_of_beq e)] at hJ
      exact ⟨_, rfl, _, rfl, _, rfl, (by show 2 ≤ sizeLine; decide), fun p hp => ⟨(by show 1 ≤ sizeLine; decide), fun l hl => one _ _ hJ p hp l hl⟩⟩
    rw [if_neg (fun z => e (beq_iff_eq.mpr z))] at hJ
    refine ⟨_, rfl, rfl, _, rfl, ?_⟩
    rw [dec_str]
    refine ite2 (fun e => ?_) (fun e => ?_)
    · rw [if_pos (eq_of_beq e)] at hJ
      exact ⟨_, rfl, _, rfl, _, rfl, (by show 2 ≤ sizeLine; decide), fun p hp => ⟨_, rfl, _, rfl, _, rfl, (by show 2 ≤ sizeLine; decide), fun p' hp' => ⟨(by show 2 ≤ sizeLine; decide), fun l hl => two _ _ _ _ hJ p hp p' hp' l hl⟩⟩⟩
    rw [if_neg (fun z => e (beq_iff_eq.mpr z))] at hJ
    refine ⟨_, rfl, rfl, _, rfl, ?_⟩
    rw [dec_str]
    refine ite2 (fun e => ?_) (fun e => ?_)
    · rw [if_pos (eq_of_beq e)] at hJ
      exact ⟨_, rfl, _, rfl, (by show 2 ≤ sizeLine; decide), fun p hp => ⟨_, rfl, _, rfl, _, rfl, _, rfl, (by show 2 ≤ sizeLine; decide), fun p' hp' => ⟨(by show 2 ≤ sizeLine; decide), fun l hl => two _ _ _ _ hJ p hp p' hp' l hl⟩⟩⟩
    · rw [if_neg (fun z => e (beq_iff_eq.mpr z))] at hJ
      exact ⟨_, rfl, (by rw [e1]; decide), _, rfl, .inl ⟨_, rfl, big _ (by omega), _, rfl, big _ (by rw [Str.length_append, e1]; omega), big _ (by rw [Str.length_append, e1]; omega), (by show 1 ≤ sizeLine; decide), q2 hJ _ T.n_BadLine⟩⟩
def sp_read (K : PySem.W.Frag) : Sp := fun vs H Q E => ∃ (z : Str), vs = [.str z] ∧ Asc z ∧ z.length ≤ 150 ∧ (∀ (P : List Say) (l : Addr) (H' : Hp), readR (Txt.split z bl) = some P → H l = none → Same H H' → PileAt H' l P → Q (.ref l) H') ∧ (∀ H', readR (Txt.split z bl) = none → Same H H' → ∀ C, IsC K "BadLine" C → E (.ref C) none H')
theorem sc_read : FnScope ["line", "words", "end", "a"] ["line"] (defScope s_read) := ⟨rfl, rfl, rfl, by decide +kernel, rfl, by decide +kernel, by decide +kernel⟩
set_option maxHeartbeats 4000000 in
theorem ok_read {P : Program} {w : World} {K : PySem.W.Frag} {mg : Str → Option Value} {base : Heap} {t : Ad} (T : Tx K mg t) : FnOk P w K mg base (CX1 P w) 3 t.f_read t.d_read ["line"] (sp_read K) := by
  have G_read_lit := ok_read_lit (P := P) (w := w) (base := base) T
  have G_joined := ok_joined (P := P) (w := w) (base := base) T
  refine T.F_read.okX sc_read (fun vs H Q E h => ?_) (fun cdv A outer s H vs Q E hr h => ?_)
  · obtain ⟨z, rfl, hA, hz, q1, q2⟩ := h
    rfl
  · obtain ⟨z, rfl, hA, hz, q1, q2⟩ := h
    have hu := hu_of hr
    refine ⟨_, (pss_cons (ps_set (i := 1) sc_read.nd rfl (Or.inl rfl) (pe_bm PySem.F.plainAttrs_str PySem.F.slot_str_split PySem.F.type_str_split mt_split (pv 0) (pa_cons pe_str pa_nil)))
      (pss_cons (ps_set (i := 2) sc_read.nd rfl (Or.inl rfl) (pe_ifExp (pt_cmpR op_eq (pe_ix ix_list (pv 1) pe_int (fun _ _ => rfl)) pe_str (nomark _)) pe_int pe_int))
      (pss_cons (ps_set (i := 3) sc_read.nd rfl (Or.inl rfl) (pe_call G_read_lit (hr.mono (by decide)) rfl T.m_read_lit T.F_read_lit.kp T.b_read_lit .nil pass1 (pa_cons (pe_slice sl_list (pv 1) po_none (po_some (pv 2))) pa_nil)))
      (pss_cons (ps_if (pt_cmpR op_eq (pe_callB call_len_seq (by rfl) T.z_len PySem.boot_len (pa_cons (pv 1) pa_nil)) (pv 2) (nomark _)) (pss_one (ps_ret (pe_lst (pa_cons (pe_tup (pa_cons (pv 3) (pa_cons (pv 3) pa_nil))) pa_nil)))) pss_nil)
      (pss_one (ps_ret (pe_call G_joined (hr.mono (by decide)) rfl T.m_joined T.F_joined.kp T.b_joined .nil pass1 (pa_cons (pv 3) (pa_cons (pe_ix ix_list (pv 1) (pv 2) (fun _ _ => rfl)) (pa_cons (pe_call G_read_lit (hr.mono (by decide)) rfl T.m_read_lit T.F_read_lit.kp T.b_read_lit .nil pass1 (pa_cons (pe_slice sl_list (pv 1) (po_some (pe_op op_add (pv 2) pe_int)) po_none) pa_nil)) pa_nil)))))))))), ?_⟩
    have big : ∀ k, k ≤ 1000000 → k ≤ sizeLine := fun k hk => Nat.le_trans hk (by decide)
    have hsl := split_len z
    have hne := split_ne z bl
    have asc := asc_split hA
    have lens : ∀ w ∈ Txt.split z bl, w.length ≤ 200 := fun w hw => Nat.le_trans (len_split w hw) (by omega)
    refine ⟨_, rfl, rfl, z, " ", rfl, rfl, (by decide +kernel), big _ (by omega), (by rw [bl_eq]; exact big _ (by omega)), fun l hl => ?_⟩
    rw [bl_eq]
    have g0 := same_new (o := .lst ((Txt.split z bl).map V.str)) hl
    have h1 := upd_same (H := H) (a := l) (o := .lst ((Txt.split z bl).map V.str))
    generalize Txt.split z bl = ws at *
    generalize upd H l (.lst (ws.map V.str)) = H1 at *
    obtain ⟨w0, r0, rfl⟩ := List.exists_cons_of_ne_nil hne
    have he0 : endR (w0 :: r0) = if w0 = "not" then 2 else 1 := rfl
    dsimp only [gName, tAsg, tRet, tNext, tDrop]
    refine seq_join (J := fun σ' H' => H' = H1 ∧ σ' = [some (.str z), some (.ref l), some (.int (endR (w0 :: r0) : Nat)), none]) (fun N hN => ?_) ?_
    · refine ⟨_, rfl, l, _, _, _, rfl, rfl, SqL.of h1, (atI_nat (j := 0) (xs := (w0 :: r0).map V.str) rfl), rfl, _, rfl, ?_⟩
      rw [dec_str]
      refine ite2 (fun e => ?_) (fun e => ?_)
      · refine hN _ _ ⟨rfl, ?_⟩
        rw [he0, if_pos (eq_of_beq e)]
        rfl
      · refine hN _ _ ⟨rfl, ?_⟩
        rw [he0, if_neg (fun z => e (beq_iff_eq.mpr z))]
        rfl
    rintro σ' H' ⟨rfl, rfl⟩
    have hR : readR (w0 :: r0) = readR (w0 :: r0) := rfl
    conv at hR => rhs; unfold readR
    generalize he : endR (w0 :: r0) = e at *
    have he12 : 1 ≤ e ∧ e ≤ 2 := by rw [he0]; split <;> omega
    refine ⟨_, rfl, _, rfl, _, rfl, l, _, rfl, SqL.of h1, fun ls hls => ?_⟩
    rw [cut_take, ← List.map_take]
    have g1 := same_new (o := .lst (((w0 :: r0).take e).map V.str)) hls
    have ltk : ((w0 :: r0).take e).length ≤ 300 := by rw [List.length_take]; omega
    refine ⟨ls, _, rfl, upd_same, (fun w hw => asc w (List.mem_of_mem_take hw)), (fun w hw => lens w (List.mem_of_mem_take hw)), ltk, fun x hA' => ?_, fun hA' C hC => q2 _ (by rw [hR, hA']) (g0.trans g1) C hC⟩
    rw [hA'] at hR
    dsimp only at hR
    have hlt : e ≤ (w0 :: r0).length := by
      refine Nat.not_lt.mp fun hlt => ?_
      have hr0 : r0 = [] := by
        cases r0 with
        | nil => rfl
        | cons _ _ => simp at hlt; omega
      subst hr0
      have e2 : e = 2 := by simp at hlt; omega
      subst e2
      have hw0 : w0 = "not" := by
        by_cases z : w0 = "not"
        · exact z
        · rw [if_neg z] at he0; omega
      subst hw0
      have hA2 : numW "not" = some x := hA'
      rw [numW_notw] at hA2
      cases hA2
    have h2 := g1 _ _ h1
    have s2 := g0.trans g1
    generalize upd H' ls (.lst (((w0 :: r0).take e).map V.str)) = H2 at *
    refine ⟨_, rfl, l, _, rfl, .inl (SqL.of h2), _, rfl, rfl, _, rfl, ?_⟩
    dsimp only
    rw [dec_int, List.length_map]
    refine ite2 (fun ee => ?_) (fun ee => ?_)
    · have ee' : (w0 :: r0).length = e := by have := eq_of_beq ee; omega
      rw [if_pos ee'] at hR
      refine ⟨_, rfl, _, rfl, (by show 2 ≤ sizeLine; decide), fun p hp => ⟨(by show 1 ≤ sizeLine; decide), fun l' hl' => ?_⟩⟩
      have g3 := same_new (o := .tup [.int x, .int x]) hp
      have g4 := same_new (o := .lst [.ref p]) hl'
      exact q1 _ l' _ hR ((s2.trans g3).free hl') ((s2.trans g3).trans g4) ⟨[p], upd_same, .cons (b := (x, x)) (g4 _ _ upd_same) .nil⟩
    · have ee' : (w0 :: r0).length ≠ e := fun zz => ee (by rw [zz]; exact beq_self_eq_true _)
      rw [if_neg ee'] at hR
      have hel : e < (w0 :: r0).length := by omega
      have hat : atI ((w0 :: r0).map V.str) (e : Int) = some (V.str ((w0 :: r0).getD e bl)) := by
        refine atI_nat ?_
        rw [List.getElem?_map, List.getElem?_eq_getElem hel, List.getD_eq_getElem?_getD, List.getElem?_eq_getElem hel]
        rfl
      have hmem : (w0 :: r0).getD e bl ∈ (w0 :: r0) := by
        rw [List.getD_eq_getElem?_getD, List.getElem?_eq_getElem hel]
        exact List.getElem_mem hel
      refine ⟨_, rfl, _, rfl, _, rfl, l, _, _, _, rfl, rfl, SqL.of h2, hat, ?_⟩
      refine ⟨_, rfl, _, rfl, _, _, rfl, rfl, _, rfl, l, _, rfl, SqL.of h2, fun lt hlt' => ?_⟩
      have ei : (e : Int) + 1 = ((e + 1 : Nat) : Int) := by omega
      dsimp only
      rw [ei, cut_drop, ← List.map_drop]
      have g3 := same_new (o := .lst (((w0 :: r0).drop (e + 1)).map V.str)) hlt'
      have s3 := s2.trans g3
      refine ⟨lt, _, rfl, upd_same, (fun w hw => asc w (List.mem_of_mem_drop hw)), (fun w hw => lens w (List.mem_of_mem_drop hw)), (by rw [List.length_drop]; omega), fun y hB => ?_, fun hB C hC => q2 _ (by rw [hR, hB]) s3 C hC⟩
      rw [hB] at hR
      dsimp only at hR
      exact ⟨x, y, _, rfl, asc _ hmem, lens _ hmem, fun P l' H' hP hl' s' PA => q1 P l' H' (hR.trans hP) (s3.free hl') (s3.trans s') PA, fun hn C hC => q2 _ (hR.trans hn) s3 C hC⟩
def sp_law_cell_at (K : PySem.W.Frag) : Sp := fun vs H Q _ => ∃ (a : Addr) (k : Int) (ns : List Int), vs = [.ref a, .int k] ∧ SqL K H a (ns.map V.int) ∧ 0 ≤ k ∧ Q (.int (ns.getD k.toNat 0)) H
theorem sc_law_cell_at : FnScope ["script", "k"] ["script", "k"] (defScope s_law_cell_at) := ⟨rfl, rfl, rfl, by decide +kernel, rfl, by decide +kernel, by decide +kernel⟩
set_option maxHeartbeats 4000000 in
theorem ok_law_cell_at {P : Program} {w : World} {K : PySem.W.Frag} {mg : Str → Option Value} {base : Heap} {t : Ad} (T : Tx K mg t) : FnOk P w K mg base CX0 1 t.f_law_cell_at t.d_law_cell_at ["script", "k"] (sp_law_cell_at K) := by
  refine T.F_law_cell_at.ok sc_law_cell_at (fun vs H Q E h => ?_) (fun cdv A outer s H vs Q E hr h => ?_)
  · obtain ⟨a, k, ns, rfl, hS, hk, q⟩ := h
    rfl
  · obtain ⟨a, k, ns, rfl, hS, hk, q⟩ := h
    have hu := hu_of hr
    refine ⟨_, (pss_cons (ps_if (pt_cmpR op_lt (pv 1) (pe_callB call_len_seq (by rfl) T.z_len PySem.boot_len (pa_cons (pv 0) pa_nil)) (nomark _)) (pss_one (ps_ret (pe_ix ix_list (pv 0) (pv 1) (fun _ _ => rfl)))) pss_nil)
      (pss_one (ps_ret pe_int))), ?_⟩
    refine ⟨_, rfl, _, rfl, a, _, rfl, .inl hS, _, _, rfl, rfl, _, rfl, ?_⟩
    refine ite2 (fun e => ?_) (fun e => ?_)
    · have e' := of_decide_eq_true e
      exact ⟨_, rfl, _, rfl, a, _, k, _, rfl, rfl, hS, at_int hk e', q⟩
    · rw [cell_out hk e] at q
      exact q
def sp_law_whole (K : PySem.W.Frag) : Sp := fun vs H Q _ => ∃ x : Int, vs = [.int x] ∧ Q (.bl true) H
theorem sc_law_whole : FnScope ["found"] ["found"] (defScope s_law_whole) := ⟨rfl, rfl, rfl, by decide +kernel, rfl, by decide +kernel, by decide +kernel⟩
set_option maxHeartbeats 4000000 in
theorem ok_law_whole {P : Program} {w : World} {K : PySem.W.Frag} {mg : Str → Option Value} {base : Heap} {t : Ad} (T : Tx K mg t) : FnOk P w K mg base CX0 1 t.f_law_whole t.d_law_whole ["found"] (sp_law_whole K) := by
  refine T.F_law_whole.ok sc_law_whole (fun vs H Q E h => ?_) (fun cdv A outer s H vs Q E hr h => ?_)
  · obtain ⟨x, rfl, q⟩ := h
    rfl
  · obtain ⟨x, rfl, q⟩ := h
    have hu := hu_of hr
    refine ⟨_, (pss_one (ps_ret (pe_and (pe_callB call_isi (by rfl) T.z_isinstance (show bootBuiltins "isinstance" = _ by decide +kernel) (pa_cons (pv 0) (pa_cons (pe_bltn (v := .ty "int") (by rfl) T.z_int (show bootBuiltins "int" = _ by decide +kernel) rfl) pa_nil))) (pe_one (pe_not (pe_callB call_isi (by rfl) T.z_isinstance (show bootBuiltins "isinstance" = _ by decide +kernel) (pa_cons (pv 0) (pa_cons (pe_bltn (v := .ty "bool") (by rfl) T.z_bool (show bootBuiltins "bool" = _ by decide +kernel) rfl) pa_nil)))))))), ?_⟩
    refine ⟨_, rfl, _, _, _, _, rfl, .int _, rfl, _, rfl, iteT ?_⟩
    exact ⟨_, rfl, _, _, _, _, rfl, .int _, rfl, _, rfl, q⟩
def sp_law_word_by (K : PySem.W.Frag) : Sp := fun vs H Q _ => ∃ (cell : Int), vs = [.int cell] ∧ ∀ (w : Str) (H' : Hp), Asc w → w.length ≤ 10 → Same H H' → Q (.str w) H'
theorem sc_law_word_by : FnScope ["cell", "words", "way", "signs"] ["cell"] (defScope s_law_word_by) := ⟨rfl, rfl, rfl, by decide +kernel, rfl, by decide +kernel, by decide +kernel⟩
set_option maxHeartbeats 4000000 in
theorem ok_law_word_by {P : Program} {w : World} {K : PySem.W.Frag} {mg : Str → Option Value} {base : Heap} {t : Ad} (T : Tx K mg t) : FnOk P w K mg base CX0 1 t.f_law_word_by t.d_law_word_by ["cell"] (sp_law_word_by K) := by
  refine T.F_law_word_by.ok sc_law_word_by (fun vs H Q E h => ?_) (fun cdv A outer s H vs Q E hr h => ?_)
  · obtain ⟨cell, rfl, q⟩ := h
    rfl
  · obtain ⟨cell, rfl, q⟩ := h
    have hu := hu_of hr
    refine ⟨_, (pss_cons (ps_set (i := 1) sc_law_word_by.nd rfl (Or.inl rfl) (pe_lst (pa_cons pe_str (pa_cons pe_str (pa_cons pe_str (pa_cons pe_str (pa_cons pe_str (pa_cons pe_str pa_nil))))))))
      (pss_cons (ps_set (i := 2) sc_law_word_by.nd rfl (Or.inl rfl) (pe_op op_mod (pv 0) pe_int))
      (pss_cons (ps_if (pt_cmpR op_lt (pv 2) pe_int (nomark _)) (pss_one (ps_ret (pe_ix ix_list (pv 1) (pv 2) (fun _ _ => rfl)))) pss_nil)
      (pss_cons (ps_if (pt_cmpR op_lt (pv 2) pe_int (nomark _)) (pss_one (ps_ret (pe_callTy call_str_int (by rfl) T.z_str (show bootBuiltins "str" = _ by decide +kernel) (pa_cons (pe_op op_mod (pe_op op_fdiv (pv 0) pe_int) pe_int) pa_nil)))) pss_nil)
      (pss_cons (ps_if (pt_cmpR op_eq (pv 2) pe_int (nomark _)) (pss_one (ps_ret (pe_op op_add_str pe_str (pe_callTy call_str_int (by rfl) T.z_str (show bootBuiltins "str" = _ by decide +kernel) (pa_cons (pe_op op_mod (pe_op op_fdiv (pv 0) pe_int) pe_int) pa_nil))))) pss_nil)
      (pss_cons (ps_if (pt_cmpR op_eq (pv 2) pe_int (nomark _)) (pss_one (ps_ret (pe_op op_add_str (pe_ix ix_str pe_str (pe_op op_mod (pe_op op_fdiv (pv 0) pe_int) pe_int) (fun _ _ => rfl)) (pe_callTy call_str_int (by rfl) T.z_str (show bootBuiltins "str" = _ by decide +kernel) (pa_cons (pe_op op_mod (pe_op op_fdiv (pv 0) pe_int) pe_int) pa_nil))))) pss_nil)
      (pss_cons (ps_set (i := 3) sc_law_word_by.nd rfl (Or.inl rfl) pe_str)
      (pss_cons (ps_set (i := 3) sc_law_word_by.nd rfl (Or.inl rfl) (pe_op op_add_str (pv 3) pe_str))
      (pss_cons (ps_if (pt_cmpR op_eq (pe_op op_mod (pe_op op_fdiv (pv 0) pe_int) pe_int) pe_int (nomark _)) (pss_one (ps_ret (pe_op op_add_str (pe_op op_add_str (pe_callTy call_str_int (by rfl) T.z_str (show bootBuiltins "str" = _ by decide +kernel) (pa_cons (pe_op op_mod (pe_op op_fdiv (pv 0) pe_int) pe_int) pa_nil)) (pe_ix ix_str (pv 3) (pe_op op_mod (pe_op op_fdiv (pv 0) pe_int) pe_int) (fun _ _ => rfl))) (pe_callTy call_str_int (by rfl) T.z_str (show bootBuiltins "str" = _ by decide +kernel) (pa_cons (pe_op op_mod (pe_op op_fdiv (pv 0) pe_int) pe_int) pa_nil))))) pss_nil)
      (pss_one (ps_ret (pe_ix ix_str (pv 3) (pe_op op_mod (pe_op op_fdiv (pv 0) pe_int) pe_int) (fun _ _ => rfl))))))))))))), ?_⟩
    have big : ∀ k, k ≤ 1000000 → k ≤ sizeLine := fun k hk => Nat.le_trans hk (by decide)
    refine ⟨(by show 6 ≤ sizeLine; decide), fun lw hlw => ?_⟩
    have s1 := same_new (o := .lst [.str "not", .str "or", .str "then", .str "as", .str "unlike", .str "and"]) hlw
    have k1 := upd_same (H := H) (a := lw) (o := .lst [.str "not", .str "or", .str "then", .str "as", .str "unlike", .str "and"])
    generalize upd H lw (.lst [.str "not", .str "or", .str "then", .str "as", .str "unlike", .str "and"]) = H1 at *
    have nb : ∀ c : Int, (0 : Int) ≤ c % 70 ∧ c % 70 < 100 := fun c => ⟨Int.emod_nonneg c (by decide), by have := Int.emod_lt_of_pos c (b := 70) (by decide); omega⟩
    have nb1 : ∀ c : Int, (0 : Int) ≤ c % 10 ∧ c % 10 < 100 := fun c => ⟨Int.emod_nonneg c (by decide), by have := Int.emod_lt_of_pos c (b := 10) (by decide); omega⟩
    have lg : ∀ x : Int, 0 ≤ x → x < 100 → x.natAbs.log2 < 1920 := fun x h1 h2 => Nat.lt_of_le_of_lt (Nat.log2_le_self _) (by omega)
    obtain ⟨m, hm, em⟩ := rest_of cell (m := 16) (by decide)
    refine ⟨_, rfl, _, _, rfl, rfl, (by show (0 : Int) < 16; decide), ?_⟩
    dsimp only
    rw [show cell % 16 = (m : Int) from em]
    refine ⟨_, rfl, _, _, rfl, rfl, _, rfl, ?_⟩
    refine ite2 (fun e => ?_) (fun _ => ?_)
    · have hm6 : m < 6 := by have := of_decide_eq_true e; omega
      have hw : ∃ w : Str, atI ([.str "not", .str "or", .str "then", .str "as", .str "unlike", .str "and"] : List V) (m : Int) = some (.str w) ∧ Asc w ∧ w.length ≤ 10 := by
        have : m = 0 ∨ m = 1 ∨ m = 2 ∨ m = 3 ∨ m = 4 ∨ m = 5 := by omega
        rcases this with rfl | rfl | rfl | rfl | rfl | rfl
        · exact ⟨_, rfl, asc_of (by decide +kernel), by decide +kernel⟩
        · exact ⟨_, rfl, asc_of (by decide +kernel), by decide +kernel⟩
        · exact ⟨_, rfl, asc_of (by decide +kernel), by decide +kernel⟩
        · exact ⟨_, rfl, asc_of (by decide +kernel), by decide +kernel⟩
        · exact ⟨_, rfl, asc_of (by decide +kernel), by decide +kernel⟩
        · exact ⟨_, rfl, asc_of (by decide +kernel), by decide +kernel⟩
      obtain ⟨w, hat, a1, a2⟩ := hw
      exact ⟨_, rfl, _, rfl, lw, _, _, _, rfl, rfl, SqL.of k1, hat, q w H1 a1 a2 s1⟩
    refine ⟨_, rfl, _, _, rfl, rfl, _, rfl, ?_⟩
    refine ite2 (fun _ => ?_) (fun _ => ?_)
    · obtain ⟨b1, b2⟩ := nb (cell / 16)
      obtain ⟨a1, a2⟩ := asc_iS b1 b2
      exact ⟨_, rfl, _, _, rfl, rfl, ⟨by decide, by decide⟩, _, _, rfl, rfl, (by show (0 : Int) < 70; decide), _, rfl, lg _ b1 b2, q (iS (cell / 16 % 70)) H1 a1 (Nat.le_trans a2 (by decide)) s1⟩
    refine ⟨_, rfl, rfl, _, rfl, ?_⟩
    refine ite2 (fun _ => ?_) (fun _ => ?_)
    · obtain ⟨b1, b2⟩ := nb (cell / 16)
      obtain ⟨a1, a2⟩ := asc_iS b1 b2
      have z0 : ("0" : Str).length = 1 := by decide +kernel
      have z1 : ("0" : Str).length + (iS (cell / 16 % 70)).length ≤ 3 := by omega
      have z2 : (("0" : Str) ++ iS (cell / 16 % 70)).length ≤ 10 := by rw [Str.length_append]; omega
      exact ⟨_, rfl, _, _, rfl, rfl, ⟨by decide, by decide⟩, _, _, rfl, rfl, (by show (0 : Int) < 70; decide), _, rfl, lg _ b1 b2, _, _, rfl, rfl, Nat.le_trans z1 (by decide), q (("0" : Str) ++ iS (cell / 16 % 70)) H1 (Asc.append (asc_of (by decide +kernel)) a1) z2 s1⟩
    refine ⟨_, rfl, rfl, _, rfl, ?_⟩
    refine ite2 (fun _ => ?_) (fun _ => ?_)
    · obtain ⟨b1, b2⟩ := nb (cell / 32)
      obtain ⟨a1, a2⟩ := asc_iS b1 b2
      obtain ⟨j, hj, ej⟩ := rest_of (cell / 16) (m := 2) (by decide)
      obtain ⟨c, hc1, hc2⟩ := sign_at (s := "+-") (n := 2) (by decide +kernel) hj
      have z0 : (⟨#[c]⟩ : Str).length = 1 := rfl
      have z1 : (⟨#[c]⟩ : Str).length + (iS (cell / 32 % 70)).length ≤ 3 := by omega
      have z2 : ((⟨#[c]⟩ : Str) ++ iS (cell / 32 % 70)).length ≤ 10 := by rw [Str.length_append]; omega
      refine ⟨_, rfl, _, _, rfl, rfl, ⟨by decide, by decide⟩, _, _, rfl, rfl, (by show (0 : Int) < 2; decide), "+-", _, c, rfl, rfl, (by decide +kernel), (by rw [show cell / 16 % 2 = (j : Int) from ej]; exact hc1), ?_⟩
      exact ⟨_, rfl, _, _, rfl, rfl, ⟨by decide, by decide⟩, _, _, rfl, rfl, (by show (0 : Int) < 70; decide), _, rfl, lg _ b1 b2, _, _, rfl, rfl, Nat.le_trans z1 (by decide), q ((⟨#[c]⟩ : Str) ++ iS (cell / 32 % 70)) H1 (Asc.append (asc_sign hc2) a1) z2 s1⟩
    refine ⟨_, rfl, _, _, rfl, rfl, (by decide +kernel), ?_⟩
    obtain ⟨SG, eSG⟩ : ∃ SG : Str, SG = (" !\"#$&'()*+,-./0123456789:;<=>?@ABCDEFGHIJKLMNOPQRSTUVWXYZ[\\]^_`" : Str) ++ ("abcdefghijklmnopqrstuvwxyz{|}~" : Str) := ⟨_, rfl⟩
    have sg : SG.cps.size = 94 ∧ SG.cps.all (· < 128) = true := by rw [eSG]; decide +kernel
    have sgl : SG.length ≤ sizeLine := by have : SG.length = 94 := sg.1; rw [this]; decide
    rw [← eSG]
    clear eSG
    refine ⟨_, rfl, _, _, rfl, rfl, ⟨by decide, by decide⟩, _, _, rfl, rfl, (by show (0 : Int) < 2; decide), rfl, _, rfl, ?_⟩
    refine ite2 (fun _ => ?_) (fun _ => ?_)
    · obtain ⟨b1, b2⟩ := nb (cell / 32)
      obtain ⟨a1, a2⟩ := asc_iS b1 b2
      obtain ⟨b3, b4⟩ := nb1 (cell / 3)
      obtain ⟨a3, a4⟩ := asc_iS b3 b4
      obtain ⟨j, hj, ej⟩ := rest_of (cell / 2240) (m := 94) (by decide)
      obtain ⟨c, hc1, hc2⟩ := sign_at sg hj
      have z0 : (⟨#[c]⟩ : Str).length = 1 := rfl
      have z1 : (iS (cell / 32 % 70)).length + (⟨#[c]⟩ : Str).length ≤ 3 := by omega
      have z2 : (iS (cell / 32 % 70) ++ (⟨#[c]⟩ : Str)).length ≤ 3 := by rw [Str.length_append]; omega
      have z3 : (iS (cell / 32 % 70) ++ (⟨#[c]⟩ : Str)).length + (iS (cell / 3 % 10)).length ≤ 5 := by omega
      have z4 : ((iS (cell / 32 % 70) ++ (⟨#[c]⟩ : Str)) ++ iS (cell / 3 % 10)).length ≤ 10 := by rw [Str.length_append]; omega
      refine ⟨_, rfl, _, _, rfl, rfl, ⟨by decide, by decide⟩, _, _, rfl, rfl, (by show (0 : Int) < 70; decide), _, rfl, lg _ b1 b2, ?_⟩
      refine ⟨_, rfl, _, rfl, _, _, rfl, rfl, ⟨by decide, by decide⟩, _, _, rfl, rfl, (by show (0 : Int) < 94; decide), SG, _, c, rfl, rfl, sgl, (by rw [show cell / 2240 % 94 = (j : Int) from ej]; exact hc1), ?_⟩
      refine ⟨_, _, rfl, rfl, Nat.le_trans z1 (by decide), ?_⟩
      exact ⟨_, rfl, _, _, rfl, rfl, ⟨by decide, by decide⟩, _, _, rfl, rfl, (by show (0 : Int) < 10; decide), _, rfl, lg _ b3 b4, _, _, rfl, rfl, Nat.le_trans z3 (by decide), q ((iS (cell / 32 % 70) ++ (⟨#[c]⟩ : Str)) ++ iS (cell / 3 % 10)) H1 (Asc.append (Asc.append a1 (asc_sign hc2)) a3) z4 s1⟩
    · obtain ⟨j, hj, ej⟩ := rest_of (cell / 32) (m := 94) (by decide)
      obtain ⟨c, hc1, hc2⟩ := sign_at sg hj
      exact ⟨_, rfl, _, rfl, _, _, rfl, rfl, ⟨by decide, by decide⟩, _, _, rfl, rfl, (by show (0 : Int) < 94; decide), SG, _, c, rfl, rfl, sgl, (by rw [show cell / 32 % 94 = (j : Int) from ej]; exact hc1), q (⟨#[c]⟩ : Str) H1 (asc_sign hc2) (by show 1 ≤ 10; decide) s1⟩
def sp_law_number (K : PySem.W.Frag) : Sp := fun vs H Q _ => ∃ (w : Str), vs = [.str w] ∧ Asc w ∧ w.length ≤ 1000 ∧ Q (.int (numOf w)) H
theorem sc_law_number : FnScope ["word", "sign"] ["word"] (defScope s_law_number) := ⟨rfl, rfl, rfl, by decide +kernel, rfl, by decide +kernel, by decide +kernel⟩
set_option maxHeartbeats 4000000 in
theorem ok_law_number {P : Program} {w : World} {K : PySem.W.Frag} {mg : Str → Option Value} {base : Heap} {t : Ad} (T : Tx K mg t) : FnOk P w K mg base CX0 1 t.f_law_number t.d_law_number ["word"] (sp_law_number K) := by
  refine T.F_law_number.ok sc_law_number (fun vs H Q E h => ?_) (fun cdv A outer s H vs Q E hr h => ?_)
  · obtain ⟨w, rfl, hA, hl, q⟩ := h
    rfl
  · obtain ⟨w, rfl, hA, hl, q⟩ := h
    have hu := hu_of hr
    refine ⟨_, (pss_cons (ps_if (PW.pt (pw_or (pt_cmpR op_eq (pv 0) pe_str (nomark _)) (pw_or (pt_cmpR op_gt (pe_callB call_len_str (by rfl) T.z_len PySem.boot_len (pa_cons (pv 0) pa_nil)) pe_int (nomark _)) (pw_or1 (pt_cmpR op_eq (pe_ix ix_str (pv 0) pe_int (fun _ _ => rfl)) pe_str (nomark _)))))) (pss_one (ps_ret pe_int)) pss_nil)
      (pss_cons (ps_for PassesOwn.never rfl (pi_str (pv 0)) (pg_name (i := 1) sc_law_number.nd rfl (Or.inl rfl))
        (pss_one (ps_if (pt_cmpR op_notIn_str (pv 1) pe_str (by with_unfolding_all rfl)) (pss_one (ps_ret pe_int)) pss_nil)))
      (pss_cons (ps_if (pt_cmpR op_gt (pe_callTy call_int_str (by rfl) T.z_int (show bootBuiltins "int" = _ by decide +kernel) (pa_cons (pv 0) pa_nil)) pe_int (nomark _)) (pss_one (ps_ret pe_int)) pss_nil)
      (pss_one (ps_ret (pe_callTy call_int_str (by rfl) T.z_int (show bootBuiltins "int" = _ by decide +kernel) (pa_cons (pv 0) pa_nil))))))), ?_⟩
    have big : ∀ k, k ≤ 1000000 → k ≤ sizeLine := fun k hk => Nat.le_trans hk (by decide)
    refine ⟨_, rfl, rfl, _, rfl, ?_⟩
    rw [dec_str]
    refine ite2 (fun e => iteT ?_) (fun e1 => ?_)
    · have h0 : numOf w = 0 := numOf_zero.mpr (numW_empty (by rw [eq_of_beq e]; rfl))
      rw [h0] at q
      exact q
    have hne : w.length ≠ 0 := fun z => e1 (beq_iff_eq.mpr (str_empty z))
    refine ⟨_, rfl, w, rfl, big _ (by omega), _, _, rfl, rfl, _, rfl, ?_⟩
    refine ite2 (fun e => iteT ?_) (fun e2 => ?_)
    · have h0 : numOf w = 0 := numOf_zero.mpr (numW_long (by have := of_decide_eq_true e; omega))
      rw [h0] at q
      exact q
    have hn2 : ¬ 2 < w.length := fun z => e2 (decide_eq_true (by omega))
    obtain ⟨c0, hc0⟩ : ∃ c, w.cps.toList[0]? = some c := ⟨_, List.getElem?_eq_getElem (by show 0 < w.cps.toList.length; rw [Array.length_toList]; exact Nat.pos_of_ne_zero hne)⟩
    have hc0' : w.cps[0]? = some c0 := by rw [← Array.getElem?_toList]; exact hc0
    refine ⟨_, rfl, w, 0, c0, rfl, rfl, big _ (by omega), atI_nat (j := 0) hc0, rfl, _, rfl, ?_⟩
    rw [dec_str]
    refine ite2 (fun e => ?_) (fun e3 => ?_)
    · have hz : c0 = 48 := one_sign (eq_of_beq e)
      have h0 : numOf w = 0 := numOf_zero.mpr (numW_zero (by rw [hc0', hz]))
      rw [h0] at q
      exact q
    have h48 : w.cps[0]? ≠ some 48 := fun z => e3 (by rw [hc0'] at z; rw [Option.some.inj z]; decide +kernel)
    refine ⟨_, rfl, w, rfl, hA.all, for_str (z := w) (fun i σ H2 => H2 = H ∧ ∃ v, σ = [some (.str w), v] ∧ ∀ j, j < i → ∀ c, w.cps[j]? = some c → 48 ≤ c ∧ c ≤ 57) ⟨rfl, none, rfl, fun j hj => by omega⟩ ?_ ?_⟩
    · rintro i c σ H2 hc ⟨rfl, v, rfl, dg⟩
      have hcm : c ∈ w.cps.toList := Array.mem_toList_iff.mpr (Array.mem_of_getElem? hc)
      have hin := in_dig ⟨c, hA c hcm⟩
      refine ⟨_, rfl, _, _, rfl, rfl, _, rfl, ?_⟩
      rw [hin]
      refine ite2 (fun e => ?_) (fun e => ?_)
      · have nd : ¬ (48 ≤ c ∧ c ≤ 57) := fun z => by rw [decide_eq_true z] at e; cases e
        have h0 : numOf w = 0 := numOf_zero.mpr (numW_char hcm nd)
        rw [h0] at q
        exact q
      · have yd : 48 ≤ c ∧ c ≤ 57 := by
          refine Decidable.byContradiction fun z => ?_
          rw [decide_eq_false z] at e
          exact e rfl
        refine ⟨rfl, _, rfl, fun j hj c' hc' => ?_⟩
        by_cases hj' : j = i
        · subst hj'
          rw [hc] at hc'
          cases hc'
          exact yd
        · exact dg j (by omega) c' hc'
    · rintro σ H2 ⟨rfl, v, rfl, dg⟩
      obtain ⟨n, n1, n2, ew, hi⟩ := num_digits hne hn2 h48 (fun c hc => by
        obtain ⟨j, hj, ej⟩ := Array.mem_iff_getElem.mp (Array.mem_toList_iff.mp hc)
        exact dg j hj c (by rw [Array.getElem?_eq_getElem hj, ej]))
      refine ⟨_, rfl, w, n, rfl, hi, by omega, _, _, rfl, rfl, _, rfl, ?_⟩
      refine ite2 (fun e => ?_) (fun e => ?_)
      · have h6 : 60 < n := by have := of_decide_eq_true e; omega
        have h0 : numOf w = 0 := numOf_zero.mpr (by rw [ew]; exact numW_big h6 n2)
        rw [h0] at q
        exact q
      · have h6 : n ≤ 60 := Nat.not_lt.mp fun z => e (decide_eq_true (by omega))
        have h0 : numOf w = (n : Int) := by unfold numOf; rw [ew, numW_num n1 h6]; rfl
        rw [h0] at q
        exact ⟨_, rfl, w, n, rfl, hi, by omega, q⟩
def sp_law_taken (K : PySem.W.Frag) : Sp := fun vs H Q _ => ∃ (l : Addr) (ws : List Str), vs = [.ref l] ∧ H l = some (.lst (ws.map V.str)) ∧ (∀ w ∈ ws, Asc w) ∧ (∀ w ∈ ws, w.length ≤ 200) ∧ ∀ (t r : Addr) (H' : Hp), H t = none → Same H H' → H' t = some (.tup [.int (takenR ws).1, .ref r]) → H' r = some (.lst ((takenR ws).2.map V.str)) → Q (.ref t) H'
theorem sc_law_taken : FnScope ["words"] ["words"] (defScope s_law_taken) := ⟨rfl, rfl, rfl, by decide +kernel, rfl, by decide +kernel, by decide +kernel⟩
set_option maxHeartbeats 4000000 in
theorem ok_law_taken {P : Program} {w : World} {K : PySem.W.Frag} {mg : Str → Option Value} {base : Heap} {t : Ad} (T : Tx K mg t) : FnOk P w K mg base CX0 2 t.f_law_taken t.d_law_taken ["words"] (sp_law_taken K) := by
  have G_law_number := ok_law_number (P := P) (w := w) (base := base) T
  refine T.F_law_taken.ok sc_law_taken (fun vs H Q E h => ?_) (fun cdv A outer s H vs Q E hr h => ?_)
  · obtain ⟨l, ws, rfl, hl, hA, hL, q⟩ := h
    rfl
  · obtain ⟨l, ws, rfl, hl, hA, hL, q⟩ := h
    have hu := hu_of hr
    refine ⟨_, (pss_cons (ps_if (PW.pt (pw_and (pt_cmpR (op_eqD hr.units) (pe_slice sl_list (pv 0) po_none (po_some pe_int)) (pe_lst (pa_cons pe_str pa_nil)) (nomark _)) (pw_and1 (pt_cmpR op_gt (pe_callB call_len_seq (by rfl) T.z_len PySem.boot_len (pa_cons (pv 0) pa_nil)) pe_int (nomark _))))) (pss_one (ps_ret (pe_tup (pa_cons (pe_un un_neg (pe_call G_law_number (hr.mono (by decide)) rfl T.m_law_number T.F_law_number.kp T.b_law_number .nil pass0 (pa_cons (pe_ix ix_list (pv 0) pe_int (fun _ _ => rfl)) pa_nil))) (pa_cons (pe_slice sl_list (pv 0) (po_some pe_int) po_none) pa_nil))))) pss_nil)
      (pss_cons (ps_if (pt_cmpR op_gt (pe_callB call_len_seq (by rfl) T.z_len PySem.boot_len (pa_cons (pv 0) pa_nil)) pe_int (nomark _)) (pss_one (ps_ret (pe_tup (pa_cons (pe_call G_law_number (hr.mono (by decide)) rfl T.m_law_number T.F_law_number.kp T.b_law_number .nil pass0 (pa_cons (pe_ix ix_list (pv 0) pe_int (fun _ _ => rfl)) pa_nil)) (pa_cons (pe_slice sl_list (pv 0) (po_some pe_int) po_none) pa_nil))))) pss_nil)
      (pss_one (ps_ret (pe_tup (pa_cons pe_int (pa_cons (pe_lst pa_nil) pa_nil))))))), ?_⟩
    have e1 : (1 : Int) = ((1 : Nat) : Int) := rfl
    have e2 : (2 : Int) = ((2 : Nat) : Int) := rfl
    dsimp only [gName, tAsg, tRet, tNext, tDrop]
    refine seq_join (J := fun σ' H' => Same H H' ∧ σ' = [some (.ref l)] ∧ ∀ w r, ws = w :: r → takenR ws = (numOf w, r)) (fun N hN => ?_) ?_
    · refine ⟨_, rfl, _, rfl, l, _, rfl, SqL.of hl, fun ls hls => ?_⟩
      rw [e1, cut_take, ← List.map_take]
      have s1 := same_new (o := .lst ((ws.take 1).map V.str)) hls
      refine ⟨(by show 1 ≤ sizeLine; decide), fun ln hln => ?_⟩
      have s2 := same_new (o := .lst [.str "not"]) hln
      have s12 := s1.trans s2
      refine ⟨dStrs (ws.take 1), dStrs ["not"], .lst (s2 _ _ upd_same) (rd_strs _), .lst upd_same (rd_strs ["not"]), shaped_strs _ (fun w hw => (hA w (List.mem_of_mem_take hw)).strOk), shaped_strs _ (fun w hw => by rw [List.mem_singleton] at hw; rw [hw]; decide +kernel), _, rfl, ?_⟩
      rw [show (if false = true then !PyData.eqv (dStrs (ws.take 1)) (dStrs ["not"]) else PyData.eqv (dStrs (ws.take 1)) (dStrs ["not"])) = decide (ws.take 1 = [("not" : Str)]) from eqv_strs _ _]
      generalize upd (upd H ls (.lst ((ws.take 1).map V.str))) ln (.lst [.str "not"]) = H2 at *
      refine ite2 (fun e => ?_) (fun e => iteF (hN _ _ ⟨s12, rfl, fun w r ew => ?_⟩))
      · have e' := of_decide_eq_true e
        refine ⟨_, rfl, l, _, rfl, .inl (SqL.of (s12 _ _ hl)), _, _, rfl, rfl, _, rfl, ?_⟩
        rcases ws with _ | ⟨n, _ | ⟨w, r⟩⟩
        · cases e'
        · exact ite2 (fun z => absurd (of_decide_eq_true z) (by simp)) (fun _ => hN _ _ ⟨s12, rfl, fun w r ew => by cases ew; rfl⟩)
        · have en : n = "not" := by simpa using e'
          have et : takenR (n :: w :: r) = (-numOf w, r) := by rw [takenR, if_pos en]
          rw [et] at q
          refine ite2 (fun _ => ?_) (fun z => absurd (decide_eq_true (by simp; omega)) z)
          refine ⟨_, rfl, l, _, _, _, rfl, rfl, SqL.of (s12 _ _ hl), (atI_nat (j := 1) (xs := (n :: w :: r).map V.str) rfl), w, rfl, hA w (by simp), Nat.le_trans (hL w (by simp)) (by decide), _, rfl, ?_⟩
          refine ⟨_, rfl, _, rfl, l, _, rfl, SqL.of (s12 _ _ hl), fun lr hlr => ?_⟩
          rw [e2, cut_drop, ← List.map_drop]
          have s3 := same_new (o := .lst (((n :: w :: r).drop 2).map V.str)) hlr
          refine ⟨(by show 2 ≤ sizeLine; decide), fun t ht => ?_⟩
          have s4 := same_new (o := .tup [.int (-numOf w), .ref lr]) ht
          exact q t lr _ ((s12.trans s3).free ht) ((s12.trans s3).trans s4) upd_same (s4 _ _ upd_same)
      · have e' : ¬ ws.take 1 = [("not" : Str)] := fun z => e (decide_eq_true z)
        subst ew
        rcases r with _ | ⟨w2, r⟩
        · rfl
        · rw [takenR, if_neg (fun z => e' (by rw [z]; rfl))]
    rintro σ' H2 ⟨s2, rfl, pl⟩
    refine ⟨_, rfl, l, _, rfl, .inl (SqL.of (s2 _ _ hl)), _, _, rfl, rfl, _, rfl, ?_⟩
    rcases ws with _ | ⟨w, r⟩
    · refine ite2 (fun z => absurd (of_decide_eq_true z) (by simp)) (fun _ => ?_)
      refine ⟨(by show 0 ≤ sizeLine; decide), fun lr hlr => ?_⟩
      have s3 := same_new (o := .lst []) hlr
      refine ⟨(by show 2 ≤ sizeLine; decide), fun t ht => ?_⟩
      have s4 := same_new (o := .tup [.int 0, .ref lr]) ht
      exact q t lr _ ((s2.trans s3).free ht) ((s2.trans s3).trans s4) upd_same (s4 _ _ upd_same)
    · refine ite2 (fun _ => ?_) (fun z => absurd (decide_eq_true (by simp)) z)
      rw [pl w r rfl] at q
      refine ⟨_, rfl, l, _, _, _, rfl, rfl, SqL.of (s2 _ _ hl), (atI_nat (j := 0) (xs := (w :: r).map V.str) rfl), w, rfl, hA w (by simp), Nat.le_trans (hL w (by simp)) (by decide), ?_⟩
      refine ⟨_, rfl, _, rfl, l, _, rfl, SqL.of (s2 _ _ hl), fun lr hlr => ?_⟩
      rw [e1, cut_drop, ← List.map_drop]
      have s3 := same_new (o := .lst (((w :: r).drop 1).map V.str)) hlr
      refine ⟨(by show 2 ≤ sizeLine; decide), fun t ht => ?_⟩
      have s4 := same_new (o := .tup [.int (numOf w), .ref lr]) ht
      exact q t lr _ ((s2.trans s3).free ht) ((s2.trans s3).trans s4) upd_same (s4 _ _ upd_same)
def sp_law_due (K : PySem.W.Frag) : Sp := fun vs H Q _ => ∃ (z : Str), vs = [.str z] ∧ Asc z ∧ z.length ≤ 150 ∧ (∀ H', Same H H' → readR (Txt.split z bl) = none → Q .non H') ∧ (∀ (P : List Say) (l : Addr) (H' : Hp), readR (Txt.split z bl) = some P → H l = none → Same H H' → PileAt H' l P → Q (.ref l) H')
theorem sc_law_due : FnScope ["line", "first", "second", "a", "b", "joint"] ["line"] (defScope s_law_due) := ⟨rfl, rfl, rfl, by decide +kernel, rfl, by decide +kernel, by decide +kernel⟩
set_option maxHeartbeats 4000000 in
theorem ok_law_due {P : Program} {w : World} {K : PySem.W.Frag} {mg : Str → Option Value} {base : Heap} {t : Ad} (T : Tx K mg t) : FnOk P w K mg base CX0 3 t.f_law_due t.d_law_due ["line"] (sp_law_due K) := by
  have G_law_taken := ok_law_taken (P := P) (w := w) (base := base) T
  refine T.F_law_due.ok sc_law_due (fun vs H Q E h => ?_) (fun cdv A outer s H vs Q E hr h => ?_)
  · obtain ⟨z, rfl, hA, hz, q1, q2⟩ := h
    rfl
  · obtain ⟨z, rfl, hA, hz, q1, q2⟩ := h
    have hu := hu_of hr
    refine ⟨_, (pss_cons (ps_set (i := 1) sc_law_due.nd rfl (Or.inl rfl) (pe_call G_law_taken (hr.mono (by decide)) rfl T.m_law_taken T.F_law_taken.kp T.b_law_taken .nil pass0 (pa_cons (pe_bm PySem.F.plainAttrs_str PySem.F.slot_str_split PySem.F.type_str_split mt_split (pv 0) (pa_cons pe_str pa_nil)) pa_nil)))
      (pss_cons (ps_if (pt_cmpR op_eq (pe_ix ix_tup (pv 1) pe_int (fun _ _ => rfl)) pe_int (nomark _)) (pss_one (ps_ret pe_non)) pss_nil)
      (pss_cons (ps_if (pt_cmpR op_eq (pe_callB call_len_seq (by rfl) T.z_len PySem.boot_len (pa_cons (pe_ix ix_tup (pv 1) pe_int (fun _ _ => rfl)) pa_nil)) pe_int (nomark _)) (pss_one (ps_ret (pe_lst (pa_cons (pe_tup (pa_cons (pe_ix ix_tup (pv 1) pe_int (fun _ _ => rfl)) (pa_cons (pe_ix ix_tup (pv 1) pe_int (fun _ _ => rfl)) pa_nil))) pa_nil)))) pss_nil)
      (pss_cons (ps_set (i := 2) sc_law_due.nd rfl (Or.inl rfl) (pe_call G_law_taken (hr.mono (by decide)) rfl T.m_law_taken T.F_law_taken.kp T.b_law_taken .nil pass0 (pa_cons (pe_slice sl_list (pe_ix ix_tup (pv 1) pe_int (fun _ _ => rfl)) (po_some pe_int) po_none) pa_nil)))
      (pss_cons (ps_if (PW.pt (pw_or (pt_cmpR op_eq (pe_ix ix_tup (pv 2) pe_int (fun _ _ => rfl)) pe_int (nomark _)) (pw_or1 (pt_cmpR op_gt (pe_callB call_len_seq (by rfl) T.z_len PySem.boot_len (pa_cons (pe_ix ix_tup (pv 2) pe_int (fun _ _ => rfl)) pa_nil)) pe_int (nomark _))))) (pss_one (ps_ret pe_non)) pss_nil)
      (pss_cons (ps_set (i := 3) sc_law_due.nd rfl (Or.inl rfl) (pe_ix ix_tup (pv 1) pe_int (fun _ _ => rfl)))
      (pss_cons (ps_set (i := 4) sc_law_due.nd rfl (Or.inl rfl) (pe_ix ix_tup (pv 2) pe_int (fun _ _ => rfl)))
      (pss_cons (ps_set (i := 5) sc_law_due.nd rfl (Or.inl rfl) (pe_ix ix_list (pe_ix ix_tup (pv 1) pe_int (fun _ _ => rfl)) pe_int (fun _ _ => rfl)))
      (pss_cons (ps_if (pt_cmpR op_eq (pv 5) pe_str (nomark _)) (pss_one (ps_ret (pe_lst (pa_cons (pe_tup (pa_cons (pv 3) (pa_cons (pv 4) pa_nil))) pa_nil)))) pss_nil)
      (pss_cons (ps_if (pt_cmpR op_eq (pv 5) pe_str (nomark _)) (pss_one (ps_ret (pe_lst (pa_cons (pe_tup (pa_cons (pe_un un_neg (pv 3)) (pa_cons (pv 4) pa_nil))) pa_nil)))) pss_nil)
      (pss_cons (ps_if (pt_cmpR op_eq (pv 5) pe_str (nomark _)) (pss_one (ps_ret (pe_lst (pa_cons (pe_tup (pa_cons (pe_un un_neg (pv 3)) (pa_cons (pv 4) pa_nil))) (pa_cons (pe_tup (pa_cons (pv 3) (pa_cons (pe_un un_neg (pv 4)) pa_nil))) pa_nil))))) pss_nil)
      (pss_cons (ps_if (pt_cmpR op_eq (pv 5) pe_str (nomark _)) (pss_one (ps_ret (pe_lst (pa_cons (pe_tup (pa_cons (pv 3) (pa_cons (pv 4) pa_nil))) (pa_cons (pe_tup (pa_cons (pe_un un_neg (pv 3)) (pa_cons (pe_un un_neg (pv 4)) pa_nil))) pa_nil))))) pss_nil)
      (pss_one (ps_ret pe_non)))))))))))))), ?_⟩
    have big : ∀ k, k ≤ 1000000 → k ≤ sizeLine := fun k hk => Nat.le_trans hk (by decide)
    have hsl := split_len z
    have hne := split_ne z bl
    have asc := asc_split hA
    have lens : ∀ w ∈ Txt.split z bl, w.length ≤ 200 := fun w hw => Nat.le_trans (len_split w hw) (by omega)
    rw [← due_read hne] at q1 q2
    refine ⟨_, rfl, rfl, z, " ", rfl, rfl, (by decide +kernel), big _ (by omega), (by rw [bl_eq]; exact big _ (by omega)), fun l hl => ?_⟩
    rw [bl_eq]
    have g0 := same_new (o := .lst ((Txt.split z bl).map V.str)) hl
    have h1 := upd_same (H := H) (a := l) (o := .lst ((Txt.split z bl).map V.str))
    generalize Txt.split z bl = ws at *
    refine ⟨l, ws, rfl, h1, asc, lens, fun t r H2 ht s2 h2 h2r => ?_⟩
    have s02 := g0.trans s2
    have hD : dueR ws = dueR ws := rfl
    conv at hD => rhs; unfold dueR
    have sub : ∀ w ∈ (takenR ws).2, w ∈ ws := taken_sub ws
    generalize takenR ws = f at *
    obtain ⟨a, rs⟩ := f
    dsimp only at hD h2 h2r sub
    refine ⟨_, rfl, t, _, _, _, rfl, rfl, SqT.of h2, rfl, rfl, _, rfl, ?_⟩
    dsimp only
    rw [dec_int]
    refine ite2 (fun e => ?_) (fun e => ?_)
    · rw [if_pos (eq_of_beq e)] at hD
      exact q1 _ s02 hD
    rw [if_neg (fun z => e (beq_iff_eq.mpr z))] at hD
    refine ⟨_, rfl, t, _, _, _, rfl, rfl, SqT.of h2, rfl, r, _, rfl, .inl (SqL.of h2r), rfl, _, rfl, ?_⟩
    dsimp only
    rw [dec_int, List.length_map]
    refine ite2 (fun e => ?_) (fun e => ?_)
    · rw [if_pos (by have := eq_of_beq e; omega)] at hD
      refine ⟨_, rfl, t, _, _, _, rfl, rfl, SqT.of h2, rfl, _, rfl, t, _, _, _, rfl, rfl, SqT.of h2, rfl, (by show 2 ≤ sizeLine; decide), fun p hp => ⟨(by show 1 ≤ sizeLine; decide), fun l' hl' => ?_⟩⟩
      have g3 := same_new (o := .tup [.int a, .int a]) hp
      have g4 := same_new (o := .lst [.ref p]) hl'
      exact q2 _ l' _ hD ((s02.trans g3).free hl') ((s02.trans g3).trans g4) ⟨[p], upd_same, .cons (b := (a, a)) (g4 _ _ upd_same) .nil⟩
    have hrl : ¬ rs.length = 0 := fun z => e (by rw [z]; rfl)
    rw [if_neg hrl] at hD
    have e1 : (1 : Int) = ((1 : Nat) : Int) := rfl
    refine ⟨_, rfl, t, _, _, _, rfl, rfl, SqT.of h2, rfl, _, rfl, r, _, rfl, SqL.of h2r, fun lr hlr => ?_⟩
    rw [e1, cut_drop, ← List.map_drop]
    have g3 := same_new (o := .lst ((rs.drop 1).map V.str)) hlr
    refine ⟨lr, rs.drop 1, rfl, upd_same, (fun w hw => asc w (sub w (List.mem_of_mem_drop hw))), (fun w hw => lens w (sub w (List.mem_of_mem_drop hw))), fun t2 r2 H4 ht2 s4 h4 h4r => ?_⟩
    have s24 := g3.trans s4
    have s04 := s02.trans s24
    have h2' := s24 _ _ h2
    have h2r' := s24 _ _ h2r
    generalize takenR (rs.drop 1) = f2 at *
    obtain ⟨b, rs2⟩ := f2
    dsimp only at hD h4 h4r
    refine ⟨_, rfl, t2, _, _, _, rfl, rfl, SqT.of h4, rfl, rfl, _, rfl, ?_⟩
    dsimp only
    rw [dec_int]
    refine ite2 (fun e => iteT ?_) (fun eb => ?_)
    · rw [if_pos (.inl (eq_of_beq e))] at hD
      exact q1 _ s04 hD
    refine ⟨_, rfl, t2, _, _, _, rfl, rfl, SqT.of h4, rfl, r2, _, rfl, .inl (SqL.of h4r), _, _, rfl, rfl, _, rfl, ?_⟩
    dsimp only
    rw [List.length_map]
    refine ite2 (fun e => ?_) (fun er => ?_)
    · rw [if_pos (.inr (by have := of_decide_eq_true e; omega))] at hD
      exact q1 _ s04 hD
    rw [if_neg (fun z => z.elim (fun z => eb (beq_iff_eq.mpr z)) (fun z => er (decide_eq_true (by omega))))] at hD
    refine ⟨_, rfl, t, _, _, _, rfl, rfl, SqT.of h2', rfl, ?_⟩
    refine ⟨_, rfl, t2, _, _, _, rfl, rfl, SqT.of h4, rfl, ?_⟩
    obtain ⟨w, rt, ers⟩ : ∃ w rt, rs = w :: rt := List.exists_cons_of_ne_nil (fun z => hrl (by rw [z]; rfl))
    subst ers
    refine ⟨_, rfl, t, _, _, _, rfl, rfl, SqT.of h2', rfl, r, _, _, _, rfl, rfl, SqL.of h2r', (atI_nat (j := 0) (xs := (w :: rt).map V.str) rfl), ?_⟩
    have hJ : dueR ws = joinR a w b := hD
    have one : ∀ (x y : Int), joinR a w b = some [(x, y)] → ∀ p, H4 p = none → ∀ l, upd H4 p (.tup [.int x, .int y]) l = none → Q (.ref l) (upd (upd H4 p (.tup [.int x, .int y])) l (.lst [.ref p])) := fun x y e p hp l hl => by
      have g1 := same_new (o := .tup [.int x, .int y]) hp
      have g2 := same_new (o := .lst [.ref p]) hl
      exact q2 _ l _ (hJ.trans e) ((s04.trans g1).free hl) (s04.trans (g1.trans g2)) ⟨[p], upd_same, .cons (b := (x, y)) (g2 _ _ upd_same) .nil⟩
    have two : ∀ (x y x' y' : Int), joinR a w b = some [(x, y), (x', y')] → ∀ p, H4 p = none → ∀ p', upd H4 p (.tup [.int x, .int y]) p' = none → ∀ l, upd (upd H4 p (.tup [.int x, .int y])) p' (.tup [.int x', .int y']) l = none → Q (.ref l) (upd (upd (upd H4 p (.tup [.int x, .int y])) p' (.tup [.int x', .int y'])) l (.lst [.ref p, .ref p'])) := fun x y x' y' e p hp p' hp' l hl => by
      have g1 := same_new (o := .tup [.int x, .int y]) hp
      have g2 := same_new (o := .tup [.int x', .int y']) hp'
      have g3 := same_new (o := .lst [.ref p, .ref p']) hl
      exact q2 _ l _ (hJ.trans e) ((s04.trans (g1.trans g2)).free hl) (s04.trans ((g1.trans g2).trans g3)) ⟨[p, p'], upd_same, .cons (b := (x, y)) (g3 _ _ (g2 _ _ upd_same)) (.cons (b := (x', y')) (g3 _ _ upd_same) .nil)⟩
    have hU : joinR a w b = joinR a w b := rfl
    conv at hU => rhs; unfold joinR
    refine ⟨_, rfl, rfl, _, rfl, ?_⟩
    rw [dec_str]
    refine ite2 (fun e => ?_) (fun e => ?_)
    · rw [if_pos (eq_of_beq e)] at hU
      exact ⟨_, rfl, _, rfl, (by show 2 ≤ sizeLine; decide), fun p hp => ⟨(by show 1 ≤ sizeLine; decide), fun l hl => one _ _ hU p hp l hl⟩⟩
    rw [if_neg (fun z => e (beq_iff_eq.mpr z))] at hU
    refine ⟨_, rfl, rfl, _, rfl, ?_⟩
    rw [dec_str]
    refine ite2 (fun e => ?_) (fun e => ?_)
    · rw [if_pos (eq_of_beq e)] at hU
      exact ⟨_, rfl, _, rfl, _, rfl, (by show 2 ≤ sizeLine; decide), fun p hp => ⟨(by show 1 ≤ sizeLine; decide), fun l hl => one _ _ hU p hp l hl⟩⟩
    rw [if_neg (fun z => e (beq_iff_eq.mpr z))] at hU
    refine ⟨_, rfl, rfl, _, rfl, ?_⟩
    rw [dec_str]
    refine ite2 (fun e => ?_) (fun e => ?_)
    · rw [if_pos (eq_of_beq e)] at hU
      exact ⟨_, rfl, _, rfl, _, rfl, (by show 2 ≤ sizeLine; decide), fun p hp => ⟨_, rfl, _, rfl, _, rfl, (by show 2 ≤ sizeLine; decide), fun p' hp' => ⟨(by show 2 ≤ sizeLine; decide), fun l hl => two _ _ _ _ hU p hp p' hp' l hl⟩⟩⟩
    rw [if_neg (fun z => e (beq_iff_eq.mpr z))] at hU
    refine ⟨_, rfl, rfl, _, rfl, ?_⟩
    rw [dec_str]
    refine ite2 (fun e => ?_) (fun e => ?_)
    · rw [if_pos (eq_of_beq e)] at hU
      exact ⟨_, rfl, _, rfl, (by show 2 ≤ sizeLine; decide), fun p hp => ⟨_, rfl, _, rfl, _, rfl, _, rfl, (by show 2 ≤ sizeLine; decide), fun p' hp' => ⟨(by show 2 ≤ sizeLine; decide), fun l hl => two _ _ _ _ hU p hp p' hp' l hl⟩⟩⟩
    · rw [if_neg (fun z => e (beq_iff_eq.mpr z))] at hU
      exact q1 _ s04 (hJ.trans hU)
def sp_law_read (K : PySem.W.Frag) : Sp := fun vs H Q _ => ∃ (z : Str), vs = [.str z] ∧ Asc z ∧ z.length ≤ 150 ∧ (∀ (t : Addr) (H' : Hp), readR (Txt.split z bl) = none → Same H H' → H' t = some (.tup [.bl false, .bl true]) → Q (.ref t) H') ∧ (∀ (P : List Say) (t l : Addr) (H' : Hp), readR (Txt.split z bl) = some P → Same H H' → H' t = some (.tup [.bl true, .ref l]) → PileAt H' l P → Q (.ref t) H')
theorem sc_law_read : FnScope ["line", "found", "e", "some"] ["line"] (defScope s_law_read) := ⟨rfl, rfl, rfl, by decide +kernel, rfl, by decide +kernel, by decide +kernel⟩
set_option maxHeartbeats 4000000 in
theorem ok_law_read {P : Program} {w : World} {K : PySem.W.Frag} {mg : Str → Option Value} {base : Heap} {t : Ad} (T : Tx K mg t) : FnOk P w K mg base CX0 4 t.f_law_read t.d_law_read ["line"] (sp_law_read K) := by
  have G_read := ok_read (P := P) (w := w) (base := base) T
  refine T.F_law_read.ok sc_law_read (fun vs H Q E h => ?_) (fun cdv A outer s H vs Q E hr h => ?_)
  · obtain ⟨z, rfl, hA, hz, q1, q2⟩ := h
    rfl
  · obtain ⟨z, rfl, hA, hz, q1, q2⟩ := h
    have hu := hu_of hr
    refine ⟨_, (pss_cons (ps_try (i := 2) rfl rfl (px_set (i := 1) sc_law_read.nd rfl (Or.inl rfl) (px_call G_read (hr.mono (by decide)) rfl T.m_read T.F_read.kp T.b_read .nil (pa_cons (pv 0) pa_nil))) rfl T.m_SayError T.x_SayError.ex sc_law_read.nd rfl rfl (fun _ _ _ _ hxc => (pss_cons (ps_set (i := 3) sc_law_read.nd rfl (Or.inl rfl) (pe_lst (pa_cons (pe_callB (call_isx hxc) (by rfl) T.z_isinstance (show bootBuiltins "isinstance" = _ by decide +kernel) (pa_cons (pv 2) (pa_cons (pe_glob (v := .ref t.c_BadSay) rfl T.m_BadSay rfl) pa_nil))) (pa_cons (pe_callB (call_isx hxc) (by rfl) T.z_isinstance (show bootBuiltins "isinstance" = _ by decide +kernel) (pa_cons (pv 2) (pa_cons (pe_glob (v := .ref t.c_EmptyBook) rfl T.m_EmptyBook rfl) pa_nil))) (pa_cons (pe_callB (call_isx hxc) (by rfl) T.z_isinstance (show bootBuiltins "isinstance" = _ by decide +kernel) (pa_cons (pv 2) (pa_cons (pe_glob (v := .ref t.c_NoSetting) rfl T.m_NoSetting rfl) pa_nil))) (pa_cons (pe_callB (call_isx hxc) (by rfl) T.z_isinstance (show bootBuiltins "isinstance" = _ by decide +kernel) (pa_cons (pv 2) (pa_cons (pe_glob (v := .ref t.c_FullBook) rfl T.m_FullBook rfl) pa_nil))) pa_nil))))))
        (pss_one (ps_ret (pe_tup (pa_cons pe_bl (pa_cons (pe_and (pe_callB (call_isx hxc) (by rfl) T.z_isinstance (show bootBuiltins "isinstance" = _ by decide +kernel) (pa_cons (pv 2) (pa_cons (pe_glob (v := .ref t.c_BadLine) rfl T.m_BadLine rfl) pa_nil))) (pe_and (pe_callB (call_isx hxc) (by rfl) T.z_isinstance (show bootBuiltins "isinstance" = _ by decide +kernel) (pa_cons (pv 2) (pa_cons (pe_bltn (v := .ty "ValueError") (by rfl) T.z_ValueError (show bootBuiltins "ValueError" = _ by decide +kernel) rfl) pa_nil))) (pe_one (pe_cmpR (op_eqD hr.units) (pv 3) (pe_op op_rep (pe_lst (pa_cons pe_bl pa_nil)) pe_int) (nomark _))))) pa_nil))))))))
      (pss_one (ps_ret (pe_tup (pa_cons pe_bl (pa_cons (pv 1) pa_nil)))))), ?_⟩
    dsimp only [gName, tAsg, tRet, tNext, tDrop]
    refine seq_join (J := fun σ' H' => ∃ (P : List Say) (l : Addr) (v w : Option V), σ' = [some (.str z), some (.ref l), v, w] ∧ readR (Txt.split z bl) = some P ∧ Same H H' ∧ PileAt H' l P) (fun N hN => ?_) ?_
    · refine ⟨fun v _ H' => ∃ C, v = .ref C ∧ IsC K "BadLine" C ∧ Same H H' ∧ readR (Txt.split z bl) = none, ?_, ?_⟩
      · exact ⟨_, rfl, z, rfl, hA, hz, fun P l H' hP hl s' PA => hN _ _ ⟨P, l, _, _, rfl, hP, s', PA⟩, fun H' hn s' C hC => ⟨C, rfl, hC, s', hn⟩⟩
      · rintro C H' ⟨C', e, hC, s', hn⟩
        cases e
        have cs : C = t.c_BadLine := hC.uniq T.n_BadLine
        subst cs
        refine ⟨T.x_BadLine.ex, T.s_BadLine_SayError, fun x hx => ?_⟩
        refine ⟨_, rfl, _, _, _, rfl, rfl, T.x_BadLine, T.ob, T.q_BadLine_BadSay, _, rfl, _, _, _, rfl, rfl, T.x_BadLine, T.ob, T.q_BadLine_EmptyBook, _, rfl, _, _, _, rfl, rfl, T.x_BadLine, T.ob, T.q_BadLine_NoSetting, _, rfl, _, _, _, rfl, rfl, T.x_BadLine, T.ob, T.q_BadLine_FullBook, (by show 4 ≤ sizeLine; decide), fun ls hls => ?_⟩
        have s2 := same_new (o := .lst [.bl false, .bl false, .bl false, .bl false]) hls
        refine ⟨_, rfl, _, _, _, rfl, rfl, T.x_BadLine, T.ob, T.q_BadLine_BadLine, _, rfl, iteT ?_⟩
        refine ⟨_, rfl, _, _, _, rfl, rfl, T.x_BadLine, T.ob, T.q_BadLine_ValueError, _, rfl, iteT ?_⟩
        refine ⟨_, rfl, (by show 1 ≤ sizeLine; decide), fun l1 hl1 => ?_⟩
        have s3 := same_new (o := .lst [.bl false]) hl1
        refine ⟨l1, 4, _, rfl, rfl, upd_same, by decide, by decide, (by show 1 * 4 ≤ sizeLine; decide), fun l2 hl2 => ?_⟩
        have s4 := same_new (o := .lst (List.replicate (4 : Int).toNat [V.bl false]).flatten) hl2
        refine ⟨dBools [false, false, false, false], dBools [false, false, false, false], .lst ((s3.trans s4) _ _ upd_same) (rd_bools [false, false, false, false]), .lst upd_same (rd_bools [false, false, false, false]), shaped_bools _, shaped_bools _, ?_⟩
        rw [eq_self_bl (shaped_bools _)]
        refine ⟨(by show 2 ≤ sizeLine; decide), fun tt htt => ?_⟩
        exact q1 tt _ hn (s'.trans ((s2.trans (s3.trans s4)).trans (same_new htt))) upd_same
    rintro σ' H' ⟨P, l, v, w, rfl, hP, s', PA⟩
    refine ⟨_, rfl, (by show 2 ≤ sizeLine; decide), fun tt htt => ?_⟩
    have s2 := same_new (o := .tup [.bl true, .ref l]) htt
    exact q2 P tt l _ hP (s'.trans s2) upd_same (PA.same s2)
def sp_law_right (K : PySem.W.Frag) : Sp := fun vs H Q _ => ∃ (t : Addr), (∀ H', Same H H' → Q (.bl true) H') ∧ ((vs = [.ref t, .non] ∧ H t = some (.tup [.bl false, .bl true])) ∨ ∃ (l d : Addr) (P : List Say), vs = [.ref t, .ref d] ∧ H t = some (.tup [.bl true, .ref l]) ∧ PileAt H l P ∧ PileAt H d P)
theorem sc_law_right : FnScope ["got", "due", "say"] ["got", "due"] (defScope s_law_right) := ⟨rfl, rfl, rfl, by decide +kernel, rfl, by decide +kernel, by decide +kernel⟩
set_option maxHeartbeats 4000000 in
theorem ok_law_right {P : Program} {w : World} {K : PySem.W.Frag} {mg : Str → Option Value} {base : Heap} {t : Ad} (T : Tx K mg t) : FnOk P w K mg base CX0 2 t.f_law_right t.d_law_right ["got", "due"] (sp_law_right K) := by
  have G_law_whole := ok_law_whole (P := P) (w := w) (base := base) T
  refine T.F_law_right.ok sc_law_right (fun vs H Q E h => ?_) (fun cdv A outer s H vs Q E hr h => ?_)
  · obtain ⟨_, _, ⟨rfl, _⟩ | ⟨_, _, _, rfl, _⟩⟩ := h <;> rfl
  · have hh := h
    have hu := hu_of hr
    refine ⟨_, (pss_cons (ps_if (pt_cmpR op_isN (pv 1) pe_non (nomark _)) (pss_one (ps_ret (pe_cmpR (op_eqD hr.units) (pv 0) (pe_tup (pa_cons pe_bl (pa_cons pe_bl pa_nil))) (nomark _)))) pss_nil)
      (pss_cons (ps_if (PW.pt (pw_or (pt_not (pt_val (pe_ix ix_tup (pv 0) pe_int (fun _ _ => rfl)))) (pw_or (pt_not (pt_val (pe_callB call_isi (by rfl) T.z_isinstance (show bootBuiltins "isinstance" = _ by decide +kernel) (pa_cons (pe_ix ix_tup (pv 0) pe_int (fun _ _ => rfl)) (pa_cons (pe_bltn (v := .ty "list") (by rfl) T.z_list (show bootBuiltins "list" = _ by decide +kernel) rfl) pa_nil))))) (pw_or1 (pt_cmpR op_ne (pe_callB call_len_seq (by rfl) T.z_len PySem.boot_len (pa_cons (pe_ix ix_tup (pv 0) pe_int (fun _ _ => rfl)) pa_nil)) (pe_callB call_len_seq (by rfl) T.z_len PySem.boot_len (pa_cons (pv 1) pa_nil)) (nomark _)))))) (pss_one (ps_ret pe_bl)) pss_nil)
      (pss_cons (ps_for PassesOwn.never rfl (pi_list (pe_ix ix_tup (pv 0) pe_int (fun _ _ => rfl))) (pg_name (i := 2) sc_law_right.nd rfl (Or.inl rfl))
        (pss_cons (ps_if (PW.pt (pw_or (pt_not (pt_val (pe_callB call_isi (by rfl) T.z_isinstance (show bootBuiltins "isinstance" = _ by decide +kernel) (pa_cons (pv 2) (pa_cons (pe_bltn (v := .ty "tuple") (by rfl) T.z_tuple (show bootBuiltins "tuple" = _ by decide +kernel) rfl) pa_nil))))) (pw_or1 (pt_cmpR op_ne (pe_callB call_len_seq (by rfl) T.z_len PySem.boot_len (pa_cons (pv 2) pa_nil)) pe_int (nomark _))))) (pss_one (ps_ret pe_bl)) pss_nil)
        (pss_one (ps_if (PW.pt (pw_or (pt_not (pt_val (pe_call G_law_whole (hr.mono (by decide)) rfl T.m_law_whole T.F_law_whole.kp T.b_law_whole .nil pass0 (pa_cons (pe_ix ix_tup (pv 2) pe_int (fun _ _ => rfl)) pa_nil)))) (pw_or1 (pt_not (pt_val (pe_call G_law_whole (hr.mono (by decide)) rfl T.m_law_whole T.F_law_whole.kp T.b_law_whole .nil pass0 (pa_cons (pe_ix ix_tup (pv 2) pe_int (fun _ _ => rfl)) pa_nil))))))) (pss_one (ps_ret pe_bl)) pss_nil))))
      (pss_one (ps_ret (pe_cmpR (op_eqD hr.units) (pe_ix ix_tup (pv 0) pe_int (fun _ _ => rfl)) (pv 1) (nomark _))))))), ?_⟩
    obtain ⟨t', q, ⟨rfl, ht⟩ | ⟨l, d, P', rfl, ht, Pl, Pd⟩⟩ := hh
    · refine ⟨_, rfl, rfl, _, rfl, iteT ?_⟩
      refine ⟨_, rfl, (by show 2 ≤ sizeLine; decide), fun t2 ht2 => ?_⟩
      have s2 := same_new (o := .tup [.bl false, .bl true]) ht2
      refine ⟨dB2 false true, dB2 false true, rd_b2 (s2 _ _ ht), rd_b2 upd_same, shaped_b2 _ _, shaped_b2 _ _, ?_⟩
      exact asV (eq_self_bl (shaped_b2 _ _)) (q _ s2)
    · obtain ⟨as, gl, htl⟩ := id Pl
      obtain ⟨ad, gd, htd⟩ := id Pd
      have la := htl.length
      have ld := htd.length
      refine ⟨_, rfl, rfl, _, rfl, iteF ?_⟩
      refine ⟨_, rfl, t', _, _, _, rfl, rfl, SqT.of ht, rfl, _, rfl, iteF ?_⟩
      refine ⟨_, rfl, t', _, _, _, rfl, rfl, SqT.of ht, rfl, _, _, _, _, rfl, .lst gl, rfl, _, rfl, iteF ?_⟩
      refine ⟨_, rfl, t', _, _, _, rfl, rfl, SqT.of ht, rfl, l, _, rfl, .inl (SqL.of gl), _, rfl, d, _, rfl, .inl (SqL.of gd), rfl, _, rfl, ?_⟩
      dsimp only
      rw [dec_int, List.length_map, List.length_map, la, ld]
      refine ite2 (fun z => by rw [beq_self_eq_true] at z; cases z) (fun _ => ?_)
      refine ⟨_, rfl, t', _, _, _, rfl, rfl, SqT.of ht, rfl, l, rfl, ⟨_, SqL.of gl⟩, for_list (K := K) (a := l) (xs := as.map V.ref) (fun i σ H2 => H2 = H ∧ ∃ v, σ = [some (.ref t'), some (.ref d), v]) ⟨rfl, none, rfl⟩ (fun i σ H2 _ ⟨e, _⟩ => SqL.of (e ▸ gl)) ?_ ?_⟩
      · rintro i y σ H2 hi ⟨rfl, v, rfl⟩
        obtain ⟨b, c, rfl, e1, e2, e3⟩ := htl.get hi
        refine ⟨_, rfl, _, _, _, _, rfl, .tup e3, rfl, _, rfl, iteF ?_⟩
        refine ⟨_, rfl, b, _, rfl, .inr (SqT.of e3), rfl, _, rfl, iteNS rfl ?_⟩
        refine ⟨_, rfl, b, _, _, _, rfl, rfl, SqT.of e3, rfl, c.1, rfl, _, rfl, iteF ?_⟩
        refine ⟨_, rfl, b, _, _, _, rfl, rfl, SqT.of e3, rfl, c.2, rfl, _, rfl, iteF ?_⟩
        exact ⟨rfl, _, rfl⟩
      · rintro σ H2 ⟨rfl, v, rfl⟩
        refine ⟨_, rfl, t', _, _, _, rfl, rfl, SqT.of ht, rfl, _, rfl, dPile P', dPile P', Pl.rd, Pd.rd, shaped_pile _, shaped_pile _, ?_⟩
        exact asV (eq_self_bl (shaped_pile _)) (q _ (Same.refl _))
def sp_law (K : PySem.W.Frag) : Sp := fun vs H Q _ => ∃ (a : Addr) (ns : List Int), vs = [.ref a] ∧ SqL K H a (ns.map V.int) ∧ ns.length ≤ 63 ∧ ∀ H', Q (.bl true) H'
theorem sc_law : FnScope ["script", "words", "k", "line", "at", "cell", "joint", "due"] ["script"] (defScope s_law) := ⟨rfl, rfl, rfl, by decide +kernel, rfl, by decide +kernel, by decide +kernel⟩
set_option maxHeartbeats 4000000 in
theorem ok_law {P : Program} {w : World} {K : PySem.W.Frag} {mg : Str → Option Value} {base : Heap} {t : Ad} (T : Tx K mg t) : FnOk P w K mg base CX0 5 t.f_law t.d_law ["script"] (sp_law K) := by
  have G_law_cell_at := ok_law_cell_at (P := P) (w := w) (base := base) T
  have G_law_word_by := ok_law_word_by (P := P) (w := w) (base := base) T
  have G_law_due := ok_law_due (P := P) (w := w) (base := base) T
  have G_law_read := ok_law_read (P := P) (w := w) (base := base) T
  have G_law_right := ok_law_right (P := P) (w := w) (base := base) T
  refine T.F_law.ok sc_law (fun vs H Q E h => ?_) (fun cdv A outer s H vs Q E hr h => ?_)
  · obtain ⟨a, ns, rfl, hS, hlen, k⟩ := h
    rfl
  · obtain ⟨a, ns, rfl, hS, hlen, k⟩ := h
    have hu := hu_of hr
    refine ⟨_, (pss_cons (ps_set (i := 1) sc_law.nd rfl (Or.inl rfl) (pe_lst pa_nil))
      (pss_cons (ps_for PassesOwn.never rfl (pi_range1 rfl T.z_range (pa_cons (pe_op op_mod (pe_call G_law_cell_at (hr.mono (by decide)) rfl T.m_law_cell_at T.F_law_cell_at.kp T.b_law_cell_at .nil pass0 (pa_cons (pv 0) (pa_cons pe_int pa_nil))) pe_int) pa_nil)) (pg_name (i := 2) sc_law.nd rfl (Or.inl rfl))
        (pss_one (ps_expr (pe_bm PySem.F.plainAttrs_list PySem.F.slot_list_append PySem.F.type_list_append mt_append (pv 1) (pa_cons (pe_call G_law_word_by (hr.mono (by decide)) rfl T.m_law_word_by T.F_law_word_by.kp T.b_law_word_by .nil pass0 (pa_cons (pe_call G_law_cell_at (hr.mono (by decide)) rfl T.m_law_cell_at T.F_law_cell_at.kp T.b_law_cell_at .nil pass0 (pa_cons (pv 0) (pa_cons (pe_op op_add pe_int (pv 2)) pa_nil))) pa_nil)) pa_nil)))))
      (pss_cons (ps_set (i := 3) sc_law.nd rfl (Or.inl rfl) (pe_bm PySem.F.plainAttrs_str PySem.F.slot_str_join PySem.F.type_str_join mt_join pe_str (pa_cons (pv 1) pa_nil)))
      (pss_cons (ps_if (pt_cmpR op_eq (pe_op op_mod (pe_op op_fdiv (pe_call G_law_cell_at (hr.mono (by decide)) rfl T.m_law_cell_at T.F_law_cell_at.kp T.b_law_cell_at .nil pass0 (pa_cons (pv 0) (pa_cons pe_int pa_nil))) pe_int) pe_int) pe_int (nomark _)) (pss_cons (ps_set (i := 4) sc_law.nd rfl (Or.inl rfl) (pe_op op_mod (pe_call G_law_cell_at (hr.mono (by decide)) rfl T.m_law_cell_at T.F_law_cell_at.kp T.b_law_cell_at .nil pass0 (pa_cons (pv 0) (pa_cons pe_int pa_nil))) (pe_op op_add (pe_callB call_len_str (by rfl) T.z_len PySem.boot_len (pa_cons (pv 3) pa_nil)) pe_int)))
        (pss_one (ps_set (i := 3) sc_law.nd rfl (Or.inl rfl) (pe_op op_add_str (pe_op op_add_str (pe_slice sl_str (pv 3) po_none (po_some (pv 4))) pe_str) (pe_slice sl_str (pv 3) (po_some (pv 4)) po_none))))) pss_nil)
      (pss_cons (ps_if (pt_cmpR op_eq (pe_op op_mod (pe_op op_fdiv (pe_call G_law_cell_at (hr.mono (by decide)) rfl T.m_law_cell_at T.F_law_cell_at.kp T.b_law_cell_at .nil pass0 (pa_cons (pv 0) (pa_cons pe_int pa_nil))) pe_int) pe_int) pe_int (nomark _)) (pss_cons (ps_set (i := 5) sc_law.nd rfl (Or.inl rfl) (pe_call G_law_cell_at (hr.mono (by decide)) rfl T.m_law_cell_at T.F_law_cell_at.kp T.b_law_cell_at .nil pass0 (pa_cons (pv 0) (pa_cons pe_int pa_nil))))
        (pss_cons (ps_set (i := 6) sc_law.nd rfl (Or.inl rfl) (pe_ix ix_list (pe_lst (pa_cons pe_str (pa_cons pe_str (pa_cons pe_str (pa_cons pe_str (pa_cons pe_str pa_nil)))))) (pe_op op_mod (pe_call G_law_cell_at (hr.mono (by decide)) rfl T.m_law_cell_at T.F_law_cell_at.kp T.b_law_cell_at .nil pass0 (pa_cons (pv 0) (pa_cons pe_int pa_nil))) pe_int) (fun _ _ => rfl)))
        (pss_cons (ps_set (i := 1) sc_law.nd rfl (Or.inl rfl) (pe_lst (pa_cons (pe_callTy call_str_int (by rfl) T.z_str (show bootBuiltins "str" = _ by decide +kernel) (pa_cons (pe_op op_mod (pv 5) pe_int) pa_nil)) (pa_cons (pv 6) (pa_cons pe_str (pa_cons (pe_callTy call_str_int (by rfl) T.z_str (show bootBuiltins "str" = _ by decide +kernel) (pa_cons (pe_op op_mod (pe_op op_fdiv (pv 5) pe_int) pe_int) pa_nil)) (pa_cons (pe_call G_law_word_by (hr.mono (by decide)) rfl T.m_law_word_by T.F_law_word_by.kp T.b_law_word_by .nil pass0 (pa_cons (pe_call G_law_cell_at (hr.mono (by decide)) rfl T.m_law_cell_at T.F_law_cell_at.kp T.b_law_cell_at .nil pass0 (pa_cons (pv 0) (pa_cons pe_int pa_nil))) pa_nil)) pa_nil)))))))
        (pss_one (ps_set (i := 3) sc_law.nd rfl (Or.inl rfl) (pe_bm PySem.F.plainAttrs_str PySem.F.slot_str_join PySem.F.type_str_join mt_join pe_str (pa_cons (pe_slice sl_list (pv 1) po_none (po_some (pe_op op_add pe_int (pe_op op_mod (pe_op op_fdiv (pv 5) pe_int) pe_int)))) pa_nil))))))) pss_nil)
      (pss_cons (ps_set (i := 7) sc_law.nd rfl (Or.inl rfl) (pe_call G_law_due (hr.mono (by decide)) rfl T.m_law_due T.F_law_due.kp T.b_law_due .nil pass0 (pa_cons (pv 3) pa_nil)))
      (pss_one (ps_ret (pe_and (pe_call G_law_right (hr.mono (by decide)) rfl T.m_law_right T.F_law_right.kp T.b_law_right .nil pass0 (pa_cons (pe_call G_law_read (hr.mono (by decide)) rfl T.m_law_read T.F_law_read.kp T.b_law_read .nil pass0 (pa_cons (pv 3) pa_nil)) (pa_cons (pv 7) pa_nil))) (pe_one (pe_call G_law_right (hr.mono (by decide)) rfl T.m_law_right T.F_law_right.kp T.b_law_right .nil pass0 (pa_cons (pe_call G_law_read (hr.mono (by decide)) rfl T.m_law_read T.F_law_read.kp T.b_law_read .nil pass0 (pa_cons (pv 3) pa_nil)) (pa_cons (pv 7) pa_nil))))))))))))), ?_⟩
    have big : ∀ k, k ≤ 1000000 → k ≤ sizeLine := fun k hk => Nat.le_trans hk (by decide)
    have bl1 : (" " : Str).length = 1 := by decide +kernel
    have ascb : Asc (" " : Str) := asc_of (by decide +kernel)
    have nb : ∀ c : Int, (0 : Int) ≤ c % 70 ∧ c % 70 < 100 := fun c => ⟨Int.emod_nonneg c (by decide), by have := Int.emod_lt_of_pos c (b := 70) (by decide); omega⟩
    have lg : ∀ x : Int, 0 ≤ x → x < 100 → x.natAbs.log2 < 1920 := fun x h1 h2 => Nat.lt_of_le_of_lt (Nat.log2_le_self _) (by omega)
    refine ⟨(by show 0 ≤ sizeLine; decide), fun lw hlw => ?_⟩
    have s1 := same_new (o := .lst []) hlw
    have k1 := upd_same (H := H) (a := lw) (o := .lst [])
    generalize upd H lw (.lst []) = H1 at *
    obtain ⟨c1, hc1, ec1⟩ := rest_of (ns.getD (0 : Int).toNat 0) (m := 7) (by decide)
    dsimp only [gName, tAsg, tRet, tNext, tDrop]
    refine seq_join (J := fun σ' H' => ∃ (ws : List Str) (vk : Option V), σ' = [some (.ref a), some (.ref lw), vk, none, none, none, none, none] ∧ Same H H' ∧ H' lw = some (.lst (ws.map V.str)) ∧ (∀ w ∈ ws, Asc w) ∧ (∀ w ∈ ws, w.length ≤ 10) ∧ ws.length ≤ 6) (fun N hN => ?_) ?_
    · refine ⟨_, rfl, a, _, _, rfl, s1.seq hS, (by decide), _, _, rfl, rfl, (by show (0 : Int) < 7; decide), ?_⟩
      dsimp only
      rw [show ns.getD (Int.toNat 0) 0 % 7 = (c1 : Int) from ec1]
      refine ⟨c1, rfl, by omega, by omega, for_range (lo := 0) (n := c1) (D := { nx := N, rt := Q }) (fun i σ H2 => ∃ (ws : List Str) (vk : Option V), σ = [some (.ref a), some (.ref lw), vk, none, none, none, none, none] ∧ Same H H2 ∧ H2 lw = some (.lst (ws.map V.str)) ∧ (∀ w ∈ ws, Asc w) ∧ (∀ w ∈ ws, w.length ≤ 10) ∧ ws.length = i)
        ⟨[], none, rfl, s1, k1, (fun w hw => by cases hw), (fun w hw => by cases hw), rfl⟩ ?_ ?_⟩
      · rintro i σ H2 hi ⟨ws, vk, rfl, s2, k2, wa, wl, wn⟩
        refine ⟨_, rfl, .inl ⟨rfl, _, SqL.of k2⟩, _, rfl, _, rfl, _, _, rfl, rfl, a, _, ns, rfl, s2.seq hS, (by show (0 : Int) ≤ 2 + (0 + (i : Int)); omega), _, rfl, fun w H3 ha hl s3 => ?_⟩
        refine ⟨lw, _, _, rfl, rfl, s3 _ _ k2, small1000 (by rw [List.length_map]; omega), ?_⟩
        refine ⟨ws ++ [w], _, rfl, same_upd (s2.trans s3) hlw, by rw [upd_same, List.map_append]; rfl, fun v hv => ?_, fun v hv => ?_, by rw [List.length_append, wn]; rfl⟩
        · rcases List.mem_append.mp hv with hv | hv
          · exact wa v hv
          · rw [List.mem_singleton] at hv; rw [hv]; exact ha
        · rcases List.mem_append.mp hv with hv | hv
          · exact wl v hv
          · rw [List.mem_singleton] at hv; rw [hv]; exact hl
      · rintro σ H2 ⟨ws, vk, rfl, s2, k2, wa, wl, wn⟩
        exact hN _ _ ⟨ws, vk, rfl, s2, k2, wa, wl, by omega⟩
    rintro σ' H2 ⟨ws, vk, rfl, s2, k2, wa, wl, wn⟩
    refine ⟨rfl, _, rfl, " ", lw, ws, rfl, rfl, k2, join_ok bl1 wl wn, ?_⟩
    have za := asc_join ascb wa
    have zl := join_short bl1 wl wn
    generalize Str.join (" " : Str) ws = z0 at za zl ⊢
    dsimp only [gName, tAsg, tRet, tNext, tDrop]
    refine seq_join (J := fun σ' H' => H' = H2 ∧ ∃ (z : Str) (va : Option V), σ' = [some (.ref a), some (.ref lw), vk, some (.str z), va, none, none, none] ∧ Asc z ∧ z.length ≤ 150) (fun N hN => ?_) ?_
    · refine ⟨_, rfl, a, _, _, rfl, s2.seq hS, (by decide), _, _, rfl, rfl, ⟨by decide, by decide⟩, _, _, rfl, rfl, (by show (0 : Int) < 8; decide), rfl, _, rfl, ?_⟩
      refine ite2 (fun _ => ?_) (fun _ => hN _ _ ⟨rfl, z0, none, rfl, za, by omega⟩)
      have hz0 : z0.length ≤ sizeLine := big _ (by omega)
      refine ⟨_, rfl, a, _, _, rfl, s2.seq hS, (by decide), _, rfl, z0, rfl, hz0, _, _, rfl, rfl, _, _, rfl, rfl, (by show (0 : Int) < (z0.length : Int) + 1; omega), ?_⟩
      dsimp only
      generalize ns.getD (Int.toNat 1) 0 % ((z0.length : Int) + 1) = at'
      have l1 := Txt.slice_le z0 none (some at')
      have l2 := Txt.slice_le z0 (some at') none
      have y1 : (Txt.slice z0 none (some at') ++ (" " : Str)).length ≤ 67 := by rw [Str.length_append, bl1]; omega
      have y2 : ((Txt.slice z0 none (some at') ++ (" " : Str)) ++ Txt.slice z0 (some at') none).length ≤ 150 := by rw [Str.length_append]; omega
      refine ⟨_, rfl, _, rfl, _, rfl, z0, rfl, hz0, _, _, rfl, rfl, big _ (by omega), _, rfl, _, rfl, _, rfl, z0, rfl, hz0, _, _, rfl, rfl, big _ (by omega), ?_⟩
      exact hN _ _ ⟨rfl, _, _, rfl, ((asc_slice za _ _).append ascb).append (asc_slice za _ _), y2⟩
    clear za zl
    rintro σ' H' ⟨rfl, z1, va, rfl, za, zl⟩
    refine seq_join (J := fun σ' H3 => Same H H3 ∧ ∃ (z : Str) (lv : Addr) (v5 v6 : Option V), σ' = [some (.ref a), some (.ref lv), vk, some (.str z), va, v5, v6, none] ∧ Asc z ∧ z.length ≤ 150) (fun N hN => ?_) ?_
    · refine ⟨_, rfl, a, _, _, rfl, s2.seq hS, (by decide), _, _, rfl, rfl, ⟨by decide, by decide⟩, _, _, rfl, rfl, (by show (0 : Int) < 3; decide), rfl, _, rfl, ?_⟩
      refine ite2 (fun _ => ?_) (fun _ => hN _ _ ⟨s2, z1, lw, none, none, rfl, za, zl⟩)
      refine ⟨_, rfl, a, _, _, rfl, s2.seq hS, (by decide), ?_⟩
      dsimp only
      generalize ns.getD (Int.toNat 1) 0 = cell
      refine ⟨(by show 5 ≤ sizeLine; decide), fun lj hlj => ?_⟩
      have s3 := same_new (o := .lst [.str "or", .str "then", .str "as", .str "unlike", .str "and"]) hlj
      obtain ⟨j, hj, ej⟩ := rest_of (ns.getD (2 : Int).toNat 0) (m := 5) (by decide)
      have hw : ∃ w : Str, atI ([.str "or", .str "then", .str "as", .str "unlike", .str "and"] : List V) (j : Int) = some (.str w) ∧ Asc w ∧ w.length ≤ 10 := by
        have : j = 0 ∨ j = 1 ∨ j = 2 ∨ j = 3 ∨ j = 4 := by omega
        rcases this with rfl | rfl | rfl | rfl | rfl
        · exact ⟨_, rfl, asc_of (by decide +kernel), by decide +kernel⟩
        · exact ⟨_, rfl, asc_of (by decide +kernel), by decide +kernel⟩
        · exact ⟨_, rfl, asc_of (by decide +kernel), by decide +kernel⟩
        · exact ⟨_, rfl, asc_of (by decide +kernel), by decide +kernel⟩
        · exact ⟨_, rfl, asc_of (by decide +kernel), by decide +kernel⟩
      obtain ⟨jo, hjo, ja, jl⟩ := hw
      refine ⟨_, rfl, a, _, _, rfl, (s2.trans s3).seq hS, (by decide), _, _, rfl, rfl, (by show (0 : Int) < 5; decide), lj, _, _, _, rfl, rfl, SqL.of upd_same, (by rw [show ns.getD (Int.toNat 2) 0 % 5 = (j : Int) from ej]; exact hjo), ?_⟩
      have s23 := s2.trans s3
      generalize upd H' lj (.lst [.str "or", .str "then", .str "as", .str "unlike", .str "and"]) = H3 at *
      obtain ⟨b1, b2⟩ := nb cell
      obtain ⟨a1, a2⟩ := asc_iS b1 b2
      obtain ⟨b3, b4⟩ := nb (cell / 70)
      obtain ⟨a3, a4⟩ := asc_iS b3 b4
      refine ⟨_, rfl, _, _, rfl, rfl, (by show (0 : Int) < 70; decide), _, rfl, lg _ b1 b2, _, rfl, _, rfl, _, _, rfl, rfl, ⟨by decide, by decide⟩, _, _, rfl, rfl, (by show (0 : Int) < 70; decide), _, rfl, lg _ b3 b4, _, rfl, a, _, _, rfl, s23.seq hS, (by decide), _, rfl, fun w5 H4 w5a w5l s4 => ?_⟩
      refine ⟨(by show 5 ≤ sizeLine; decide), fun lv hlv => ?_⟩
      have s5 := same_new (o := .lst [.str (iS (cell % 70)), .str jo, .str "not", .str (iS (cell / 70 % 70)), .str w5]) hlv
      have s25 := s23.trans (s4.trans s5)
      obtain ⟨WS, eWS⟩ : ∃ WS : List Str, WS = [iS (cell % 70), jo, "not", iS (cell / 70 % 70), w5] := ⟨_, rfl⟩
      have k5 : upd H4 lv (.lst [.str (iS (cell % 70)), .str jo, .str "not", .str (iS (cell / 70 % 70)), .str w5]) lv = some (.lst (WS.map V.str)) := by rw [eWS]; exact upd_same
      have WA : ∀ w ∈ WS, Asc w ∧ w.length ≤ 10 := by
        rw [eWS]
        intro w hw
        simp only [List.mem_cons, List.not_mem_nil, or_false] at hw
        rcases hw with rfl | rfl | rfl | rfl | rfl
        · exact ⟨a1, Nat.le_trans a2 (by decide)⟩
        · exact ⟨ja, jl⟩
        · exact ⟨asc_of (by decide +kernel), by decide +kernel⟩
        · exact ⟨a3, Nat.le_trans a4 (by decide)⟩
        · exact ⟨w5a, w5l⟩
      have WN : WS.length = 5 := by rw [eWS]; rfl
      clear eWS s5
      obtain ⟨m, hm, em⟩ := rest_of (cell / 4900) (m := 5) (by decide)
      have em' : (1 : Int) + cell / 4900 % 5 = ((1 + m : Nat) : Int) := by have : cell / 4900 % 5 = (m : Int) := em; omega
      refine ⟨rfl, _, rfl, _, rfl, _, _, rfl, rfl, ⟨by decide, by decide⟩, _, _, rfl, rfl, (by show (0 : Int) < 5; decide), _, _, rfl, rfl, _, rfl, lv, _, rfl, SqL.of k5, fun ls hls => ?_⟩
      dsimp only
      rw [em', cut_take, ← List.map_take]
      have s6 := same_new (o := .lst ((WS.take (1 + m)).map V.str)) hls
      have TA : ∀ w ∈ WS.take (1 + m), Asc w := fun w hw => (WA w (List.mem_of_mem_take hw)).1
      have TL : ∀ w ∈ WS.take (1 + m), w.length ≤ 10 := fun w hw => (WA w (List.mem_of_mem_take hw)).2
      have TN : (WS.take (1 + m)).length ≤ 6 := by rw [List.length_take]; omega
      refine ⟨" ", ls, WS.take (1 + m), rfl, rfl, upd_same, join_ok bl1 TL TN, ?_⟩
      exact hN _ _ ⟨s25.trans s6, _, lv, _, _, rfl, asc_join ascb TA, Nat.le_trans (join_short bl1 TL TN) (by decide)⟩
    clear za zl
    rintro σ' H3 ⟨s3, z, lv, v5, v6, rfl, za, zl⟩
    refine ⟨_, rfl, z, rfl, za, zl, fun H4 s4 hn => ?_, fun P ld H4 hP hld s4 Pd => ?_⟩
    · refine ⟨_, rfl, z, rfl, za, zl, fun t1 H5 _ s5 h5 => ?_, fun P _ _ _ hP => by rw [hn] at hP; cases hP⟩
      refine ⟨_, rfl, t1, fun H6 s6 => ⟨_, rfl, iteT ?_⟩, .inl ⟨rfl, h5⟩⟩
      refine ⟨_, rfl, z, rfl, za, zl, fun t2 H7 _ s7 h7 => ?_, fun P _ _ _ hP => by rw [hn] at hP; cases hP⟩
      exact ⟨_, rfl, t2, fun H8 _ => k H8, .inl ⟨rfl, h7⟩⟩
    · refine ⟨_, rfl, z, rfl, za, zl, (fun _ _ hn => by rw [hn] at hP; cases hP), fun P1 t1 l1 H5 hP1 s5 h5 PA1 => ?_⟩
      rw [hP] at hP1
      cases hP1
      refine ⟨_, rfl, t1, fun H6 s6 => ⟨_, rfl, iteT ?_⟩, .inr ⟨l1, ld, P, rfl, h5, PA1, Pd.same s5⟩⟩
      refine ⟨_, rfl, z, rfl, za, zl, (fun _ _ hn => by rw [hn] at hP; cases hP), fun P2 t2 l2 H7 hP2 s7 h7 PA2 => ?_⟩
      rw [hP] at hP2
      cases hP2
      exact ⟨_, rfl, t2, fun H8 _ => k H8, .inr ⟨l2, ld, P, rfl, h7, PA2, Pd.same (s5.trans (s6.trans s7))⟩⟩
set_option maxHeartbeats 4000000 in
theorem all_mk {l : PySem.W.OpenLaw} {w : World} {K : PySem.W.Frag} {h : Heap} {mg : Str → Option Value} {fa : Addr} (X : K.In h) (G : h.Ns mainGlobals mg) (hfa : mg "law" = some (.ref fa))
    {f0 : Addr} {od0 an0 : Option Addr} {sl0 : Array (Option Value)} {oc0 kV0 dc0 pm0 cd0 ct0 : Value}
    (a0 : PySem.W.nsIn K mainGlobals "read_number" = some (some (.ref f0)))    (l0 : K.lookup f0 = some ⟨oc0, od0, .func (PySem.W.fnOf "read_number" "read_number" (defArgs s_read_number) (defBody s_read_number) (defScope s_read_number) .none kV0 dc0 pm0 an0 cd0 ct0), sl0⟩) (c0 : PySem.W.codeIn K cd0 "read_number" = true) (k0 : PySem.W.keepIn K (.ref f0) = true)
    {f1 : Addr} {od1 an1 : Option Addr} {sl1 : Array (Option Value)} {oc1 kV1 dc1 pm1 cd1 ct1 : Value}
    (a1 : PySem.W.nsIn K mainGlobals "read_lit" = some (some (.ref f1)))    (l1 : K.lookup f1 = some ⟨oc1, od1, .func (PySem.W.fnOf "read_lit" "read_lit" (defArgs s_read_lit) (defBody s_read_lit) (defScope s_read_lit) .none kV1 dc1 pm1 an1 cd1 ct1), sl1⟩) (c1 : PySem.W.codeIn K cd1 "read_lit" = true) (k1 : PySem.W.keepIn K (.ref f1) = true)
    {f2 : Addr} {od2 an2 : Option Addr} {sl2 : Array (Option Value)} {oc2 kV2 dc2 pm2 cd2 ct2 : Value}
    (a2 : PySem.W.nsIn K mainGlobals "joined" = some (some (.ref f2)))    (l2 : K.lookup f2 = some ⟨oc2, od2, .func (PySem.W.fnOf "joined" "joined" (defArgs s_joined) (defBody s_joined) (defScope s_joined) .none kV2 dc2 pm2 an2 cd2 ct2), sl2⟩) (c2 : PySem.W.codeIn K cd2 "joined" = true) (k2 : PySem.W.keepIn K (.ref f2) = true)
    {f3 : Addr} {od3 an3 : Option Addr} {sl3 : Array (Option Value)} {oc3 kV3 dc3 pm3 cd3 ct3 : Value}
    (a3 : PySem.W.nsIn K mainGlobals "read" = some (some (.ref f3)))    (l3 : K.lookup f3 = some ⟨oc3, od3, .func (PySem.W.fnOf "read" "read" (defArgs s_read) (defBody s_read) (defScope s_read) .none kV3 dc3 pm3 an3 cd3 ct3), sl3⟩) (c3 : PySem.W.codeIn K cd3 "read" = true) (k3 : PySem.W.keepIn K (.ref f3) = true)
    {f4 : Addr} {od4 an4 : Option Addr} {sl4 : Array (Option Value)} {oc4 kV4 dc4 pm4 cd4 ct4 : Value}
    (a4 : PySem.W.nsIn K mainGlobals "_law_cell_at" = some (some (.ref f4)))    (l4 : K.lookup f4 = some ⟨oc4, od4, .func (PySem.W.fnOf "_law_cell_at" "_law_cell_at" (defArgs s_law_cell_at) (defBody s_law_cell_at) (defScope s_law_cell_at) .none kV4 dc4 pm4 an4 cd4 ct4), sl4⟩) (c4 : PySem.W.codeIn K cd4 "_law_cell_at" = true) (k4 : PySem.W.keepIn K (.ref f4) = true)
    {f5 : Addr} {od5 an5 : Option Addr} {sl5 : Array (Option Value)} {oc5 kV5 dc5 pm5 cd5 ct5 : Value}
    (a5 : PySem.W.nsIn K mainGlobals "_law_whole" = some (some (.ref f5)))    (l5 : K.lookup f5 = some ⟨oc5, od5, .func (PySem.W.fnOf "_law_whole" "_law_whole" (defArgs s_law_whole) (defBody s_law_whole) (defScope s_law_whole) .none kV5 dc5 pm5 an5 cd5 ct5), sl5⟩) (c5 : PySem.W.codeIn K cd5 "_law_whole" = true) (k5 : PySem.W.keepIn K (.ref f5) = true)
    {f6 : Addr} {od6 an6 : Option Addr} {sl6 : Array (Option Value)} {oc6 kV6 dc6 pm6 cd6 ct6 : Value}
    (a6 : PySem.W.nsIn K mainGlobals "_law_word_by" = some (some (.ref f6)))    (l6 : K.lookup f6 = some ⟨oc6, od6, .func (PySem.W.fnOf "_law_word_by" "_law_word_by" (defArgs s_law_word_by) (defBody s_law_word_by) (defScope s_law_word_by) .none kV6 dc6 pm6 an6 cd6 ct6), sl6⟩) (c6 : PySem.W.codeIn K cd6 "_law_word_by" = true) (k6 : PySem.W.keepIn K (.ref f6) = true)
    {f7 : Addr} {od7 an7 : Option Addr} {sl7 : Array (Option Value)} {oc7 kV7 dc7 pm7 cd7 ct7 : Value}
    (a7 : PySem.W.nsIn K mainGlobals "_law_number" = some (some (.ref f7)))    (l7 : K.lookup f7 = some ⟨oc7, od7, .func (PySem.W.fnOf "_law_number" "_law_number" (defArgs s_law_number) (defBody s_law_number) (defScope s_law_number) .none kV7 dc7 pm7 an7 cd7 ct7), sl7⟩) (c7 : PySem.W.codeIn K cd7 "_law_number" = true) (k7 : PySem.W.keepIn K (.ref f7) = true)
    {f8 : Addr} {od8 an8 : Option Addr} {sl8 : Array (Option Value)} {oc8 kV8 dc8 pm8 cd8 ct8 : Value}
    (a8 : PySem.W.nsIn K mainGlobals "_law_taken" = some (some (.ref f8)))    (l8 : K.lookup f8 = some ⟨oc8, od8, .func (PySem.W.fnOf "_law_taken" "_law_taken" (defArgs s_law_taken) (defBody s_law_taken) (defScope s_law_taken) .none kV8 dc8 pm8 an8 cd8 ct8), sl8⟩) (c8 : PySem.W.codeIn K cd8 "_law_taken" = true) (k8 : PySem.W.keepIn K (.ref f8) = true)
    {f9 : Addr} {od9 an9 : Option Addr} {sl9 : Array (Option Value)} {oc9 kV9 dc9 pm9 cd9 ct9 : Value}
    (a9 : PySem.W.nsIn K mainGlobals "_law_due" = some (some (.ref f9)))    (l9 : K.lookup f9 = some ⟨oc9, od9, .func (PySem.W.fnOf "_law_due" "_law_due" (defArgs s_law_due) (defBody s_law_due) (defScope s_law_due) .none kV9 dc9 pm9 an9 cd9 ct9), sl9⟩) (c9 : PySem.W.codeIn K cd9 "_law_due" = true) (k9 : PySem.W.keepIn K (.ref f9) = true)
    {f10 : Addr} {od10 an10 : Option Addr} {sl10 : Array (Option Value)} {oc10 kV10 dc10 pm10 cd10 ct10 : Value}
    (a10 : PySem.W.nsIn K mainGlobals "_law_read" = some (some (.ref f10)))    (l10 : K.lookup f10 = some ⟨oc10, od10, .func (PySem.W.fnOf "_law_read" "_law_read" (defArgs s_law_read) (defBody s_law_read) (defScope s_law_read) .none kV10 dc10 pm10 an10 cd10 ct10), sl10⟩) (c10 : PySem.W.codeIn K cd10 "_law_read" = true) (k10 : PySem.W.keepIn K (.ref f10) = true)
    {f11 : Addr} {od11 an11 : Option Addr} {sl11 : Array (Option Value)} {oc11 kV11 dc11 pm11 cd11 ct11 : Value}
    (a11 : PySem.W.nsIn K mainGlobals "_law_right" = some (some (.ref f11)))    (l11 : K.lookup f11 = some ⟨oc11, od11, .func (PySem.W.fnOf "_law_right" "_law_right" (defArgs s_law_right) (defBody s_law_right) (defScope s_law_right) .none kV11 dc11 pm11 an11 cd11 ct11), sl11⟩) (c11 : PySem.W.codeIn K cd11 "_law_right" = true) (k11 : PySem.W.keepIn K (.ref f11) = true)
    {f12 : Addr} {od12 an12 : Option Addr} {sl12 : Array (Option Value)} {oc12 kV12 dc12 pm12 cd12 ct12 : Value}
    (a12 : PySem.W.nsIn K mainGlobals "law" = some (some (.ref f12)))    (l12 : K.lookup f12 = some ⟨oc12, od12, .func (PySem.W.fnOf "law" "law" (defArgs s_law) (defBody s_law) (defScope s_law) .none kV12 dc12 pm12 an12 cd12 ct12), sl12⟩) (c12 : PySem.W.codeIn K cd12 "law" = true) (k12 : PySem.W.keepIn K (.ref f12) = true)
    (z_ValueError : PySem.W.nsIn K mainGlobals "ValueError" = some none)
    (z_bool : PySem.W.nsIn K mainGlobals "bool" = some none)
    (z_int : PySem.W.nsIn K mainGlobals "int" = some none)
    (z_isinstance : PySem.W.nsIn K mainGlobals "isinstance" = some none)
    (z_len : PySem.W.nsIn K mainGlobals "len" = some none)
    (z_list : PySem.W.nsIn K mainGlobals "list" = some none)
    (z_range : PySem.W.nsIn K mainGlobals "range" = some none)
    (z_str : PySem.W.nsIn K mainGlobals "str" = some none)
    (z_tuple : PySem.W.nsIn K mainGlobals "tuple" = some none)
    (o1 : PySem.W.specialIn K (.builtin "object.__class__") "__get__" = some (some (.builtin "getset_descriptor.__get__"))) (o2 : PySem.W.takesIn K (.builtin "object.__class__") = some true)
    {cSayError : Addr} (nSayError : PySem.W.nsIn K mainGlobals "SayError" = some (some (.ref cSayError))) (e1SayError : PySem.W.excIn K cSayError PySem.W.vMro "ValueError.__new__" = true) (e2SayError : PySem.W.hasDictIn K cSayError = true) (e3SayError : PySem.W.findIn K (.ref cSayError) "__getattribute__" = some (some (.builtin "BaseException.__getattribute__"))) (e4SayError : PySem.W.findIn K (.ref cSayError) "__getattr__" = some none) (e5SayError : PySem.W.findIn K (.ref cSayError) "__class__" = some (some (.builtin "object.__class__"))) (e6SayError : PySem.W.mroIn K cSayError (.type "object") = some true) (e7SayError : PySem.W.mroIn K cSayError (.type "BaseException") = some true)
    {cBadSay : Addr} (nBadSay : PySem.W.nsIn K mainGlobals "BadSay" = some (some (.ref cBadSay))) (e1BadSay : PySem.W.excIn K cBadSay PySem.W.vMro "ValueError.__new__" = true) (e2BadSay : PySem.W.hasDictIn K cBadSay = true) (e3BadSay : PySem.W.findIn K (.ref cBadSay) "__getattribute__" = some (some (.builtin "BaseException.__getattribute__"))) (e4BadSay : PySem.W.findIn K (.ref cBadSay) "__getattr__" = some none) (e5BadSay : PySem.W.findIn K (.ref cBadSay) "__class__" = some (some (.builtin "object.__class__"))) (e6BadSay : PySem.W.mroIn K cBadSay (.type "object") = some true) (e7BadSay : PySem.W.mroIn K cBadSay (.type "BaseException") = some true)
    {cBadLine : Addr} (nBadLine : PySem.W.nsIn K mainGlobals "BadLine" = some (some (.ref cBadLine))) (e1BadLine : PySem.W.excIn K cBadLine PySem.W.vMro "ValueError.__new__" = true) (e2BadLine : PySem.W.hasDictIn K cBadLine = true) (e3BadLine : PySem.W.findIn K (.ref cBadLine) "__getattribute__" = some (some (.builtin "BaseException.__getattribute__"))) (e4BadLine : PySem.W.findIn K (.ref cBadLine) "__getattr__" = some none) (e5BadLine : PySem.W.findIn K (.ref cBadLine) "__class__" = some (some (.builtin "object.__class__"))) (e6BadLine : PySem.W.mroIn K cBadLine (.type "object") = some true) (e7BadLine : PySem.W.mroIn K cBadLine (.type "BaseException") = some true)
    {cFullBook : Addr} (nFullBook : PySem.W.nsIn K mainGlobals "FullBook" = some (some (.ref cFullBook))) (e1FullBook : PySem.W.excIn K cFullBook PySem.W.vMro "ValueError.__new__" = true) (e2FullBook : PySem.W.hasDictIn K cFullBook = true) (e3FullBook : PySem.W.findIn K (.ref cFullBook) "__getattribute__" = some (some (.builtin "BaseException.__getattribute__"))) (e4FullBook : PySem.W.findIn K (.ref cFullBook) "__getattr__" = some none) (e5FullBook : PySem.W.findIn K (.ref cFullBook) "__class__" = some (some (.builtin "object.__class__"))) (e6FullBook : PySem.W.mroIn K cFullBook (.type "object") = some true) (e7FullBook : PySem.W.mroIn K cFullBook (.type "BaseException") = some true)
    {cEmptyBook : Addr} (nEmptyBook : PySem.W.nsIn K mainGlobals "EmptyBook" = some (some (.ref cEmptyBook))) (e1EmptyBook : PySem.W.excIn K cEmptyBook PySem.W.vMro "ValueError.__new__" = true) (e2EmptyBook : PySem.W.hasDictIn K cEmptyBook = true) (e3EmptyBook : PySem.W.findIn K (.ref cEmptyBook) "__getattribute__" = some (some (.builtin "BaseException.__getattribute__"))) (e4EmptyBook : PySem.W.findIn K (.ref cEmptyBook) "__getattr__" = some none) (e5EmptyBook : PySem.W.findIn K (.ref cEmptyBook) "__class__" = some (some (.builtin "object.__class__"))) (e6EmptyBook : PySem.W.mroIn K cEmptyBook (.type "object") = some true) (e7EmptyBook : PySem.W.mroIn K cEmptyBook (.type "BaseException") = some true)
    {cNoSetting : Addr} (nNoSetting : PySem.W.nsIn K mainGlobals "NoSetting" = some (some (.ref cNoSetting))) (e1NoSetting : PySem.W.excIn K cNoSetting PySem.W.vMro "ValueError.__new__" = true) (e2NoSetting : PySem.W.hasDictIn K cNoSetting = true) (e3NoSetting : PySem.W.findIn K (.ref cNoSetting) "__getattribute__" = some (some (.builtin "BaseException.__getattribute__"))) (e4NoSetting : PySem.W.findIn K (.ref cNoSetting) "__getattr__" = some none) (e5NoSetting : PySem.W.findIn K (.ref cNoSetting) "__class__" = some (some (.builtin "object.__class__"))) (e6NoSetting : PySem.W.mroIn K cNoSetting (.type "object") = some true) (e7NoSetting : PySem.W.mroIn K cNoSetting (.type "BaseException") = some true)
    (s_BadLine_SayError : PySem.W.mroIn K cBadLine (.ref cSayError) = some true)
    (q_BadLine_BadSay : PySem.W.kitOne K (.ref cBadLine) (.ref cBadSay) = some false)
    (q_BadLine_EmptyBook : PySem.W.kitOne K (.ref cBadLine) (.ref cEmptyBook) = some false)
    (q_BadLine_NoSetting : PySem.W.kitOne K (.ref cBadLine) (.ref cNoSetting) = some false)
    (q_BadLine_FullBook : PySem.W.kitOne K (.ref cBadLine) (.ref cFullBook) = some false)
    (q_BadLine_BadLine : PySem.W.kitOne K (.ref cBadLine) (.ref cBadLine) = some true)
    (q_BadLine_ValueError : PySem.W.kitOne K (.ref cBadLine) (.type "ValueError") = some true)
    {tk_LAST_NUMBER : Tok} (g_LAST_NUMBER : PySem.W.nsIn K mainGlobals "LAST_NUMBER" = some (some (.int 60 tk_LAST_NUMBER)))
    : ∃ fd : FuncData, (∀ (s : Shared) (v : Value), BindsTo s fd ⟨[v], []⟩ [("script", v)]) ∧ ∀ base : Heap, K.In base → base.Ns mainGlobals mg → FnOk l.prog w K mg base CX0 5 fa fd ["script"] (sp_law K) := by
  have e := hfa.symm.trans (PySem.W.mg_of X G a12)
  cases e
  have F0 := fun_mk (st := s_read_number) l0 c0 k0
  have b0 := F0.binds (ps := ["word"]) fun _ _ _ _ _ _ us hl => match us, hl with | [_], _ => rfl
  have F1 := fun_mk (st := s_read_lit) l1 c1 k1
  have b1 := F1.binds (ps := ["words"]) fun _ _ _ _ _ _ us hl => match us, hl with | [_], _ => rfl
  have F2 := fun_mk (st := s_joined) l2 c2 k2
  have b2 := F2.binds (ps := ["a", "word", "b"]) fun _ _ _ _ _ _ us hl => match us, hl with | [_, _, _], _ => rfl
  have F3 := fun_mk (st := s_read) l3 c3 k3
  have b3 := F3.binds (ps := ["line"]) fun _ _ _ _ _ _ us hl => match us, hl with | [_], _ => rfl
  have F4 := fun_mk (st := s_law_cell_at) l4 c4 k4
  have b4 := F4.binds (ps := ["script", "k"]) fun _ _ _ _ _ _ us hl => match us, hl with | [_, _], _ => rfl
  have F5 := fun_mk (st := s_law_whole) l5 c5 k5
  have b5 := F5.binds (ps := ["found"]) fun _ _ _ _ _ _ us hl => match us, hl with | [_], _ => rfl
  have F6 := fun_mk (st := s_law_word_by) l6 c6 k6
  have b6 := F6.binds (ps := ["cell"]) fun _ _ _ _ _ _ us hl => match us, hl with | [_], _ => rfl
  have F7 := fun_mk (st := s_law_number) l7 c7 k7
  have b7 := F7.binds (ps := ["word"]) fun _ _ _ _ _ _ us hl => match us, hl with | [_], _ => rfl
  have F8 := fun_mk (st := s_law_taken) l8 c8 k8
  have b8 := F8.binds (ps := ["words"]) fun _ _ _ _ _ _ us hl => match us, hl with | [_], _ => rfl
  have F9 := fun_mk (st := s_law_due) l9 c9 k9
  have b9 := F9.binds (ps := ["line"]) fun _ _ _ _ _ _ us hl => match us, hl with | [_], _ => rfl
  have F10 := fun_mk (st := s_law_read) l10 c10 k10
  have b10 := F10.binds (ps := ["line"]) fun _ _ _ _ _ _ us hl => match us, hl with | [_], _ => rfl
  have F11 := fun_mk (st := s_law_right) l11 c11 k11
  have b11 := F11.binds (ps := ["got", "due"]) fun _ _ _ _ _ _ us hl => match us, hl with | [_, _], _ => rfl
  have F12 := fun_mk (st := s_law) l12 c12 k12
  have b12 := F12.binds (ps := ["script"]) fun _ _ _ _ _ _ us hl => match us, hl with | [_], _ => rfl
  have T : Tx K mg ⟨f0, _, f1, _, f2, _, f3, _, f4, _, f5, _, f6, _, f7, _, f8, _, f9, _, f10, _, f11, _, fa, _, cSayError, cBadSay, cBadLine, cFullBook, cEmptyBook, cNoSetting⟩ := ⟨F0, b0, PySem.W.mg_of X G a0, F1, b1, PySem.W.mg_of X G a1, F2, b2, PySem.W.mg_of X G a2, F3, b3, PySem.W.mg_of X G a3, F4, b4, PySem.W.mg_of X G a4, F5, b5, PySem.W.mg_of X G a5, F6, b6, PySem.W.mg_of X G a6, F7, b7, PySem.W.mg_of X G a7, F8, b8, PySem.W.mg_of X G a8, F9, b9, PySem.W.mg_of X G a9, F10, b10, PySem.W.mg_of X G a10, F11, b11, PySem.W.mg_of X G a11, F12, b12, PySem.W.mg_of X G a12, PySem.W.mg_none_of X G z_ValueError, PySem.W.mg_none_of X G z_bool, PySem.W.mg_none_of X G z_int, PySem.W.mg_none_of X G z_isinstance, PySem.W.mg_none_of X G z_len, PySem.W.mg_none_of X G z_list, PySem.W.mg_none_of X G z_range, PySem.W.mg_none_of X G z_str, PySem.W.mg_none_of X G z_tuple, ⟨o1, o2⟩, nSayError, PySem.W.mg_of X G nSayError, ⟨e1SayError, e2SayError, e3SayError, e4SayError, e5SayError, e6SayError, e7SayError⟩, nBadSay, PySem.W.mg_of X G nBadSay, ⟨e1BadSay, e2BadSay, e3BadSay, e4BadSay, e5BadSay, e6BadSay, e7BadSay⟩, nBadLine, PySem.W.mg_of X G nBadLine, ⟨e1BadLine, e2BadLine, e3BadLine, e4BadLine, e5BadLine, e6BadLine, e7BadLine⟩, nFullBook, PySem.W.mg_of X G nFullBook, ⟨e1FullBook, e2FullBook, e3FullBook, e4FullBook, e5FullBook, e6FullBook, e7FullBook⟩, nEmptyBook, PySem.W.mg_of X G nEmptyBook, ⟨e1EmptyBook, e2EmptyBook, e3EmptyBook, e4EmptyBook, e5EmptyBook, e6EmptyBook, e7EmptyBook⟩, nNoSetting, PySem.W.mg_of X G nNoSetting, ⟨e1NoSetting, e2NoSetting, e3NoSetting, e4NoSetting, e5NoSetting, e6NoSetting, e7NoSetting⟩, s_BadLine_SayError, q_BadLine_BadSay, q_BadLine_EmptyBook, q_BadLine_NoSetting, q_BadLine_FullBook, q_BadLine_BadLine, q_BadLine_ValueError, ⟨_, PySem.W.mg_of X G g_LAST_NUMBER⟩⟩
  exact ⟨_, fun s v => .of_eq rfl, fun base _ _ => ok_law T⟩
theorem walk {l : PySem.W.OpenLaw} {q : Program} {loose : List Str} {XP : (Str → Option Value) → Heap → Prop} {YP : World → Heap → Prop} {d : DefRec} {K : Params → PySem.W.Frag} (hn : l.most = some 63) (hdf : d.params.defaults = [])
    (hY : ∀ (w : World) (h : Heap), YP w h → (K w.params).In h)
    (F : ∀ (w : World) (mg : Str → Option Value) (fa : Addr) (h : Heap), (K w.params).In h → h.Ns mainGlobals mg → mg d.name = some (.ref fa) →
      ∃ fd : FuncData, (∀ (s : Shared) (u : Value), BindsTo s fd ⟨[u], []⟩ [("script", u)]) ∧ ∀ base : Heap, (K w.params).In base → base.Ns mainGlobals mg → FnOk l.prog w (K w.params) mg base CX0 5 fa fd ["script"] (sp_law (K w.params))) :
    PySem.W.WalkO q loose XP YP l.row.toRowW d [] (fun f vs => PySem.call f vs) :=
  L2.walk_of (n := 63) (k := 5) (x := "script") (CX := fun _ => CX0) (sp := fun w => sp_law (K w.params)) hn (by decide) hdf ⟨rfl, by decide, by decide, rfl⟩ hY F (fun _ _ a ns hl _ hS => ⟨a, ns, rfl, hS, hl, fun _ => rfl⟩) fun _ _ _ _ _ z => z
end Eb
open PySem PySem.W PyProof.Rows
set_option maxRecDepth 100000 in
set_option maxHeartbeats 0 in
theorem PySem.Challenge.cw_eitherbook_k14_lines_holds : PySem.Challenge.rw_eitherbook_k14_lines.Holds := by
  w_on; o_law; k_head; (case hw => w_witness2)
  k_fill
  refine Eb.walk (l := PySem.Challenge.rw_eitherbook_k14_lines) rfl rfl (fun w h Y => PySem.W.kIn_of Y) ?F
  case F =>
    intro w mg fa h KX G hmg
    refine' Eb.all_mk KX G hmg ?a0 ?l0 ?c0 ?k0 ?a1 ?l1 ?c1 ?k1 ?a2 ?l2 ?c2 ?k2 ?a3 ?l3 ?c3 ?k3 ?a4 ?l4 ?c4 ?k4 ?a5 ?l5 ?c5 ?k5 ?a6 ?l6 ?c6 ?k6 ?a7 ?l7 ?c7 ?k7 ?a8 ?l8 ?c8 ?k8 ?a9 ?l9 ?c9 ?k9 ?a10 ?l10 ?c10 ?k10 ?a11 ?l11 ?c11 ?k11 ?a12 ?l12 ?c12 ?k12 ?z_ValueError ?z_bool ?z_int ?z_isinstance ?z_len ?z_list ?z_range ?z_str ?z_tuple ?o1 ?o2 ?nSayError ?e1SayError ?e2SayError ?e3SayError ?e4SayError ?e5SayError ?e6SayError ?e7SayError ?nBadSay ?e1BadSay ?e2BadSay ?e3BadSay ?e4BadSay ?e5BadSay ?e6BadSay ?e7BadSay ?nBadLine ?e1BadLine ?e2BadLine ?e3BadLine ?e4BadLine ?e5BadLine ?e6BadLine ?e7BadLine ?nFullBook ?e1FullBook ?e2FullBook ?e3FullBook ?e4FullBook ?e5FullBook ?e6FullBook ?e7FullBook ?nEmptyBook ?e1EmptyBook ?e2EmptyBook ?e3EmptyBook ?e4EmptyBook ?e5EmptyBook ?e6EmptyBook ?e7EmptyBook ?nNoSetting ?e1NoSetting ?e2NoSetting ?e3NoSetting ?e4NoSetting ?e5NoSetting ?e6NoSetting ?e7NoSetting ?s_BadLine_SayError ?q_BadLine_BadSay ?q_BadLine_EmptyBook ?q_BadLine_NoSetting ?q_BadLine_FullBook ?q_BadLine_BadLine ?q_BadLine_ValueError ?g_LAST_NUMBER
    (case a0 => k_is)
    (case l0 => k_is)
    (case c0 => k_is)
    (case k0 => k_is)
    (case a1 => k_is)
    (case l1 => k_is)
    (case c1 => k_is)
    (case k1 => k_is)
    (case a2 => k_is)
    (case l2 => k_is)
    (case c2 => k_is)
    (case k2 => k_is)
    (case a3 => k_is)
    (case l3 => k_is)
    (case c3 => k_is)
    (case k3 => k_is)
    (case a4 => k_is)
    (case l4 => k_is)
    (case c4 => k_is)
    (case k4 => k_is)
    (case a5 => k_is)
    (case l5 => k_is)
    (case c5 => k_is)
    (case k5 => k_is)
    (case a6 => k_is)
    (case l6 => k_is)
    (case c6 => k_is)
    (case k6 => k_is)
    (case a7 => k_is)
    (case l7 => k_is)
    (case c7 => k_is)
    (case k7 => k_is)
    (case a8 => k_is)
    (case l8 => k_is)
    (case c8 => k_is)
    (case k8 => k_is)
    (case a9 => k_is)
    (case l9 => k_is)
    (case c9 => k_is)
    (case k9 => k_is)
    (case a10 => k_is)
    (case l10 => k_is)
    (case c10 => k_is)
    (case k10 => k_is)
    (case a11 => k_is)
    (case l11 => k_is)
    (case c11 => k_is)
    (case k11 => k_is)
    (case a12 => k_is)
    (case l12 => k_is)
    (case c12 => k_is)
    (case k12 => k_is)
    (case z_ValueError => k_is)
    (case z_bool => k_is)
    (case z_int => k_is)
    (case z_isinstance => k_is)
    (case z_len => k_is)
    (case z_list => k_is)
    (case z_range => k_is)
    (case z_str => k_is)
    (case z_tuple => k_is)
    (case o1 => k_is)
    (case o2 => k_is)
    (case nSayError => k_is)
    (case e1SayError => k_exc)
    (case e2SayError => k_is)
    (case e3SayError => k_is)
    (case e4SayError => k_is)
    (case e5SayError => k_is)
    (case e6SayError => k_is)
    (case e7SayError => k_is)
    (case nBadSay => k_is)
    (case e1BadSay => k_exc)
    (case e2BadSay => k_is)
    (case e3BadSay => k_is)
    (case e4BadSay => k_is)
    (case e5BadSay => k_is)
    (case e6BadSay => k_is)
    (case e7BadSay => k_is)
    (case nBadLine => k_is)
    (case e1BadLine => k_exc)
    (case e2BadLine => k_is)
    (case e3BadLine => k_is)
    (case e4BadLine => k_is)
    (case e5BadLine => k_is)
    (case e6BadLine => k_is)
    (case e7BadLine => k_is)
    (case nFullBook => k_is)
    (case e1FullBook => k_exc)
    (case e2FullBook => k_is)
    (case e3FullBook => k_is)
    (case e4FullBook => k_is)
    (case e5FullBook => k_is)
    (case e6FullBook => k_is)
    (case e7FullBook => k_is)
    (case nEmptyBook => k_is)
    (case e1EmptyBook => k_exc)
    (case e2EmptyBook => k_is)
    (case e3EmptyBook => k_is)
    (case e4EmptyBook => k_is)
    (case e5EmptyBook => k_is)
    (case e6EmptyBook => k_is)
    (case e7EmptyBook => k_is)
    (case nNoSetting => k_is)
    (case e1NoSetting => k_exc)
    (case e2NoSetting => k_is)
    (case e3NoSetting => k_is)
    (case e4NoSetting => k_is)
    (case e5NoSetting => k_is)
    (case e6NoSetting => k_is)
    (case e7NoSetting => k_is)
    (case s_BadLine_SayError => k_is)
    (case q_BadLine_BadSay => kit_is)
    (case q_BadLine_EmptyBook => kit_is)
    (case q_BadLine_NoSetting => kit_is)
    (case q_BadLine_FullBook => kit_is)
    (case q_BadLine_BadLine => kit_is)
    (case q_BadLine_ValueError => kit_is)
    (case g_LAST_NUMBER => k_is)
