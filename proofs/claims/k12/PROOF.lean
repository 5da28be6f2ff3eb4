import PyProof.Rows.All
import Wide.All
import OpenK.AllK
import Wide.FinOn
import Lean
import PyProof.EqAt
import PyProof.EqKinds
import PyProof.TupleCall
import PySem.Challenge.RW_eitherbook_k12_whole_book
set_option Elab.async false
set_option linter.all false
set_option maxRecDepth 100000
namespace L2
open PySem PySem.Spec PyProof.Rows
noncomputable abbrev Key := Sum Int Str
noncomputable def keyIs : Key → Value → Bool
  | .inl k, v => Value.isInt k v
  | .inr x, v => Value.isStrOf x v
noncomputable def keyH (w : World) : Key → Int
  | .inl k => hashInt k
  | .inr x => hashStr w x
theorem keyIs_shape : ∀ {k : Key} {v : Value}, keyIs k v = true → (∃ i t, k = Sum.inl i ∧ v = Value.int i t) ∨ (∃ x t, k = Sum.inr x ∧ v = Value.str x t)
  | .inl i, v, h => by
    obtain ⟨t, e⟩ := Value.isInt_shape (k := i) (v := v) h
    exact .inl ⟨i, t, rfl, e⟩
  | .inr x, v, h => by
    obtain ⟨t, e⟩ := Value.isStrOf_shape (x := x) (v := v) h
    exact .inr ⟨x, t, rfl, e⟩
theorem keyIs_int (i : Int) (t : Tok) : keyIs (.inl i) (.int i t) = true := by simp [keyIs, Value.isInt]
theorem keyIs_str (x : Str) (t : Tok) : keyIs (.inr x) (.str x t) = true := by simp [keyIs, Value.isStrOf]
theorem key_ll (a b : Int) : decide ((Sum.inl a : Key) = Sum.inl b) = (a == b) := by
  by_cases e : a = b
  · subst e; simp
  · have h : ¬ (Sum.inl a : Key) = Sum.inl b := fun q => e (Sum.inl.inj q)
    rw [decide_eq_false h]
    exact (beq_eq_false_iff_ne.mpr e).symm
theorem key_rr (a b : Str) : decide ((Sum.inr a : Key) = Sum.inr b) = decide (a = b) := by
  by_cases e : a = b
  · subst e; simp
  · have h : ¬ (Sum.inr a : Key) = Sum.inr b := fun q => e (Sum.inr.inj q)
    rw [decide_eq_false h, decide_eq_false e]
theorem key_lr (a : Int) (b : Str) : decide ((Sum.inl a : Key) = Sum.inr b) = false := decide_eq_false (fun q => nomatch q)
theorem key_rl (a : Str) (b : Int) : decide ((Sum.inr a : Key) = Sum.inl b) = false := decide_eq_false (fun q => nomatch q)
noncomputable def mixKind (prog : Program) (w : World) : PySem.KeyKind prog w Key where
  is := keyIs
  hash := keyH w
  inj := fun v a b ha hb => by
    rcases keyIs_shape ha with ⟨i, t, rfl, rfl⟩ | ⟨x, t, rfl, rfl⟩
    · rcases keyIs_shape hb with ⟨j, u, rfl, e⟩ | ⟨y, u, rfl, e⟩
      · injection e with e1 _; rw [e1]
      · exact nomatch e
    · rcases keyIs_shape hb with ⟨j, u, rfl, e⟩ | ⟨y, u, rfl, e⟩
      · exact nomatch e
      · injection e with e1 _; rw [e1]
  byValue := fun k v h => by
    rcases keyIs_shape h with ⟨i, t, rfl, rfl⟩ | ⟨x, t, rfl, rfl⟩ <;> rfl
  pyHash := fun hv h => by
    rcases keyIs_shape hv with ⟨i, t, rfl, rfl⟩ | ⟨x, t, rfl, rfl⟩
    · exact wpAny_pyHash_int h
    · exact wpAny_pyHash_str h
  eqBool := fun hu hv h => by
    rcases keyIs_shape hu with ⟨i, t, rfl, rfl⟩ | ⟨x, t, rfl, rfl⟩
    · rcases keyIs_shape hv with ⟨j, u, rfl, rfl⟩ | ⟨y, u, rfl, rfl⟩
      · rw [key_ll] at h; exact wpAny_eqBool_int h
      · rw [key_lr] at h; exact SeqAt.EqAt.int_str i t y u _ _ _ _ h
    · rcases keyIs_shape hv with ⟨j, u, rfl, rfl⟩ | ⟨y, u, rfl, rfl⟩
      · rw [key_rl] at h; exact SeqAt.EqAt.str_int x t j u _ _ _ _ h
      · rw [key_rr] at h; exact wpAny_eqBool_str h
  «strs» := fun k x t v h => by
    rcases keyIs_shape h with ⟨i, u, rfl, e⟩ | ⟨y, u, rfl, e⟩
    · exact nomatch e
    · injection e with e1 _
      subst e1
      cases v <;> rfl
theorem mixKind_int (prog : Program) (w : World) (i : Int) (t : Tok) : (mixKind prog w).is (.inl i) (.int i t) = true := keyIs_int i t
theorem mixKind_str (prog : Program) (w : World) (x : Str) (t : Tok) : (mixKind prog w).is (.inr x) (.str x t) = true := keyIs_str x t
end L2
namespace L2
open PySem PySem.Spec PyProof.Rows
inductive V where
  | non | bl (b : Bool) | int (i : Int) | str (x : Str) | byt (b : Array UInt8) | flt (b : UInt64) | ref (a : Addr) | ty (n : String)
  deriving DecidableEq
noncomputable def RelV : V → Value → Prop
  | .non, u => u = Value.none
  | .bl b, u => u = Value.bool b
  | .int i, u => ∃ t, u = Value.int i t
  | .str x, u => ∃ t, u = Value.str x t
  | .byt b, u => ∃ t, u = Value.bytes b t
  | .flt b, u => ∃ t, u = Value.float b t
  | .ref a, u => u = Value.ref a
  | .ty n, u => u = Value.type n
noncomputable abbrev Vals : List V → List Value → Prop := Paired RelV
theorem Vals.length {xs : List V} {us : List Value} (r : Vals xs us) : xs.length = us.length := Paired.length r
theorem Vals.get : ∀ {xs : List V} {us : List Value} {i : Nat} {x : V}, Vals xs us → xs[i]? = some x → ∃ u, us[i]? = some u ∧ RelV x u
  | _, _, _, _, .nil, e => by simp at e
  | _, _, 0, _, .cons r _, e => by simp at e; subst e; exact ⟨_, rfl, r⟩
  | _, _, i + 1, x, .cons _ t, e => by
    obtain ⟨u, h1, h2⟩ := Vals.get (i := i) (x := x) t (by simpa using e)
    exact ⟨u, by simpa using h1, h2⟩
theorem Vals.append : ∀ {xs ys : List V} {us ws : List Value}, Vals xs us → Vals ys ws → Vals (xs ++ ys) (us ++ ws)
  | _, _, _, _, .nil, s => s
  | _, _, _, _, .cons r t, s => .cons r (Vals.append t s)
theorem Vals.take : ∀ {xs : List V} {us : List Value} (n : Nat), Vals xs us → Vals (xs.take n) (us.take n)
  | _, _, 0, _ => .nil
  | _, _, _ + 1, .nil => .nil
  | _, _, n + 1, .cons r t => .cons r (Vals.take n t)
theorem Vals.drop : ∀ {xs : List V} {us : List Value} (n : Nat), Vals xs us → Vals (xs.drop n) (us.drop n)
  | _, _, 0, r => r
  | _, _, _ + 1, .nil => .nil
  | _, _, n + 1, .cons _ t => Vals.drop n t
noncomputable def RelO : Option V → Option Value → Prop
  | some v, some u => RelV v u
  | none, none => True
  | _, _ => False
noncomputable def KV {κ : Type} : List (κ × V) → List (κ × Value) → Prop := Paired fun (p : κ × V) (q : κ × Value) => p.1 = q.1 ∧ RelV p.2 q.2
noncomputable def kV : Key → V
  | .inl i => .int i
  | .inr x => .str x
inductive HO where
    | lst (xs : List V)
    | tup (xs : List V)
    | dK (kvs : List (Key × V)) | dT (kvs : List (List Key × V))
    | set (S : Int → Bool) (n : Nat)
    | ins (C dx : Addr) (fs : List (Str × V))
    | own (x : Addr)
    | xd (fs : List (Str × V))
    | met (f x : Addr)
    | rng (lo hi : Int)
    | frz (o : Obj) (u : HO)
    | tbl (ps : Array Value)
    | ext (φ : Heap → Prop)
noncomputable abbrev Hp := Addr → Option HO
noncomputable def upd (H : Hp) (a : Addr) (o : HO) : Hp := fun b => if b = a then some o else H b
theorem upd_same {H : Hp} {a : Addr} {o : HO} : upd H a o a = some o := by unfold upd; rw [if_pos rfl]
theorem upd_ne {H : Hp} {a b : Addr} {o : HO} (h : b ≠ a) : upd H a o b = H b := by unfold upd; rw [if_neg h]
theorem upd_upd {H : Hp} {a : Addr} {o u : HO} : upd (upd H a o) a u = upd H a u := by
  funext b; unfold upd; split <;> rfl
theorem ne_of {H : Hp} {a b : Addr} {o u : HO} (h : H a = some o) (h' : H b = some u) (d : o ≠ u) : a ≠ b := by
  intro e; subst e; rw [h] at h'; exact d (Option.some.inj h')
theorem ne_of_none {H : Hp} {a b : Addr} {o : HO} (h : H a = some o) (h' : H b = none) : a ≠ b := by
  intro e; subst e; rw [h] at h'; cases h'
section
variable (P : Program) (w : World)
noncomputable def ObjOk (H : Hp) (h : Heap) (a : Addr) : HO → Prop
  | .lst xs => xs.length ≤ sizeLine ∧ ∃ (its : List Value) (n : Nat), Vals xs its ∧ h.get? a = some { cls := .type "list", data := .seq its.toArray n }
  | .tup xs => xs.length ≤ sizeLine ∧ ∃ its : List Value, Vals xs its ∧ IsTup h a its.toArray
  | .dK kvs => kvs.length ≤ sizeLine ∧ (a == sysModules) = false ∧ ∃ vs, KV kvs vs ∧ h.DictOf (mixKind P w) a vs
  | .dT kvs => kvs.length ≤ sizeLine ∧ (a == sysModules) = false ∧ ∃ xs : List (List Key × Addr × Value),
      Paired (fun (p : List Key × V) (q : List Key × Addr × Value) => p.1 = q.1 ∧ H q.2.1 = some (.tup (p.1.map kV)) ∧ RelV p.2 q.2.2) kvs xs ∧
      ∃ o es ep, h.get? a = some o ∧ o.ExactDict ∧ o.data = .dict es ep ∧ es.toList = xs.map (entryOfKey (tupleKind (mixKind P w))) ∧ (xs.map (·.1)).Nodup
  | .set S n => h.SetOf (intKind P w) a S n
  | .ins C dx fs => H dx = some (.own a) ∧ fs.length ≤ 1000 ∧ dx ≠ a ∧ h.get? a = some (PySem.W.instObj C dx) ∧
      ∃ mA, h.Ns1 dx mA ∧ (∀ f, RelO (fs.lookup f) (mA f)) ∧ PySem.Within mA (fs.map (·.1))
  | .own _ => ∃ o, h.get? a = some o
  | .xd fs => ∃ mA, h.Ns1 a mA ∧ ∀ f, RelO (fs.lookup f) (mA f)
  | .rng lo hi => ∃ t u v, h.get? a = some { cls := .type "range", data := .fields #[.int lo t, .int hi u, .int 1 v] }
  | .frz o u => h.get? a = some o ∧ ObjOk H h a u
  | .tbl ps => h.get? a = some { cls := .none, data := .fields ps }
  | .met f x => h.get? a = some (PySem.W.methodObj (.ref f) (.ref x))
  | .ext φ => φ h ∧ (∃ o, h.get? a = some o) ∧ ∀ h1 h2 : Heap, φ h1 → (∀ o, h1.get? a = some o → h2.get? a = some o) → φ h2
noncomputable def HOk (H : Hp) (h : Heap) : Prop := ∀ a o, H a = some o → ObjOk P w H h a o
end
section
variable {P : Program} {w : World} {H H' : Hp} {h h' : Heap} {a : Addr} {o : HO}
theorem ObjOk.lt (x : ObjOk P w H h a o) : a < h.objs.size := by
  cases o with
  | lst xs => obtain ⟨_, _, _, _, e⟩ := x; exact Heap.lt_size e
  | tup xs => obtain ⟨_, _, _, p⟩ := x; exact p.lt
  | dK kvs => obtain ⟨_, _, _, _, o, _, _, e, _⟩ := x; exact Heap.lt_size e
  | dT kvs => obtain ⟨_, _, _, _, o, _, _, e, _⟩ := x; exact Heap.lt_size e
  | set S n => obtain ⟨o, _, _, _, e, _⟩ := x; exact Heap.lt_size e
  | ins C dx fs => obtain ⟨_, _, _, e, _⟩ := x; exact Heap.lt_size e
  | own y => obtain ⟨_, e⟩ := x; exact Heap.lt_size e
  | xd fs => obtain ⟨_, ⟨_, _, _, e, _⟩, _⟩ := x; exact Heap.lt_size e
  | rng lo hi => obtain ⟨_, _, _, e⟩ := x; exact Heap.lt_size e
  | frz ob u => obtain ⟨e, _⟩ := x; exact Heap.lt_size e
  | tbl ps => exact Heap.lt_size (show h.get? a = some _ from x)
  | met f y => exact Heap.lt_size (show h.get? a = some _ from x)
  | ext φ => obtain ⟨_, ⟨_, e⟩, _⟩ := x; exact Heap.lt_size e
theorem Paired.mapP {α β : Type} {F G : α → β → Prop} : ∀ {l₁ : List α} {l₂ : List β}, Paired F l₁ l₂ → (∀ a b, F a b → G a b) → Paired G l₁ l₂
  | _, _, .nil, _ => .nil
  | _, _, .cons r t, f => .cons (f _ _ r) (Paired.mapP t f)
theorem ObjOk.stay (x : ObjOk P w H h a o) (k : ∀ b u, (b = a ∨ H b = some (.own a)) → h.get? b = some u → h'.get? b = some u)
    (ho : ∀ b, H b = some (.own a) → H' b = some (.own a)) (ht : ∀ b xs, H b = some (.tup xs) → H' b = some (.tup xs)) : ObjOk P w H' h' a o := by
  induction o with
  | lst xs => obtain ⟨z, its, n, r, e⟩ := x; exact ⟨z, its, n, r, k _ _ (.inl rfl) e⟩
  | tup xs => obtain ⟨z, its, r, ob, e, c⟩ := x; exact ⟨z, its, r, ob, k _ _ (.inl rfl) e, c⟩
  | dK kvs => obtain ⟨z, y, vs, r, ob, es, ep, e, c⟩ := x; exact ⟨z, y, vs, r, ob, es, ep, k _ _ (.inl rfl) e, c⟩
  | dT kvs =>
    obtain ⟨z, y, xs, r, ob, es, ep, e, c⟩ := x
    exact ⟨z, y, xs, Paired.mapP r fun p q z => ⟨z.1, ht _ _ z.2.1, z.2.2⟩, ob, es, ep, k _ _ (.inl rfl) e, c⟩
  | set S n => obtain ⟨ob, es, ep, t, e, c⟩ := x; exact ⟨ob, es, ep, t, k _ _ (.inl rfl) e, c⟩
  | ins C dx fs =>
    obtain ⟨d, z, ne, e, mA, ⟨od, es, ep, e2, c⟩, r⟩ := x
    exact ⟨ho _ d, z, ne, k _ _ (.inl rfl) e, mA, ⟨od, es, ep, k _ _ (.inr d) e2, c⟩, r⟩
  | own y => obtain ⟨ob, e⟩ := x; exact ⟨ob, k _ _ (.inl rfl) e⟩
  | xd fs => obtain ⟨mA, ⟨od, es, ep, e, c⟩, r⟩ := x; exact ⟨mA, ⟨od, es, ep, k _ _ (.inl rfl) e, c⟩, r⟩
  | rng lo hi => obtain ⟨t, u, v, e⟩ := x; exact ⟨t, u, v, k _ _ (.inl rfl) e⟩
  | frz ob u ih => obtain ⟨e, q⟩ := x; exact ⟨k _ _ (.inl rfl) e, ih q⟩
  | tbl ps =>
    have e : h.get? a = some { cls := .none, data := .fields ps } := x
    show h'.get? a = some { cls := .none, data := .fields ps }
    exact k a _ (.inl rfl) e
  | met f y =>
    have e : h.get? a = some (PySem.W.methodObj (.ref f) (.ref y)) := x
    show h'.get? a = some (PySem.W.methodObj (.ref f) (.ref y))
    exact k a _ (.inl rfl) e
  | ext φ => obtain ⟨p, ⟨o, e⟩, st⟩ := x; exact ⟨st _ _ p fun o q => k _ _ (.inl rfl) q, ⟨o, k _ _ (.inl rfl) e⟩, st⟩
theorem HOk.lt (x : HOk P w H h) (e : H a = some o) : a < h.objs.size := (x a o e).lt
theorem HOk.fresh (x : HOk P w H h) (e : h.objs.size ≤ a) : H a = none := by
  cases q : H a with
  | none => rfl
  | some u => exact absurd (Nat.lt_of_lt_of_le (x.lt q) e) (Nat.lt_irrefl _)
theorem HOk.kept (x : HOk P w H h) (k : ∀ b u, h.get? b = some u → h'.get? b = some u) : HOk P w H h' := fun a o e =>
  (x a o e).stay (fun b u _ q => k b u q) (fun _ q => q) fun _ _ q => q
theorem HOk.laid (x : HOk P w H h) (k : ∀ b u, h.get? b = some u → h'.get? b = some u) (hp : h.objs.size ≤ a) (new : ObjOk P w (upd H a o) h' a o) : HOk P w (upd H a o) h' := fun b u e => by
  have hn := x.fresh hp
  by_cases hb : b = a
  · subst hb; rw [upd_same] at e; cases e; exact new
  · rw [upd_ne hb] at e
    exact (x b u e).stay (fun c v _ q => k c v q) (fun c q => by rw [upd_ne (ne_of_none q hn)]; exact q) fun c xs q => by rw [upd_ne (ne_of_none q hn)]; exact q
end
noncomputable def Rd (H : Hp) (a : Addr) (u : HO) : Prop := H a = some u ∨ ∃ o, H a = some (.frz o u)
theorem Rd.ok {P : Program} {w : World} {H : Hp} {h : Heap} {a : Addr} {u : HO} (r : Rd H a u) (x : HOk P w H h) : ObjOk P w H h a u := by
  rcases r with r | ⟨o, r⟩
  · exact x a u r
  · obtain ⟨_, q⟩ := x a _ r
    exact q
noncomputable def Mut : Option HO → Prop
  | some (.lst _) => True
  | some (.dK _) => True
  | some (.dT _) => True
  | some (.set _ _) => True
  | some (.ins _ _ _) => True
  | some (.ext _) => True
  | _ => False
section
variable {P : Program} {w : World} {H : Hp} {h h' : Heap} {x e : Addr} {o' : HO}
theorem HOk.write (ok : HOk P w H h) (mu : Mut (H x)) (he : e = x ∨ H e = some (.own x)) (k : ∀ b u, b ≠ e → h.get? b = some u → h'.get? b = some u) (heo : ∃ u, h'.get? e = some u)
    (new : ObjOk P w (upd H x o') h' x o') : HOk P w (upd H x o') h' := fun b u q => by
  have nown : ∀ c y, H c = some (.own y) → c ≠ x := fun c y r z => by subst z; rw [r] at mu; exact mu
  have ntup : ∀ c xs, H c = some (.tup xs) → c ≠ x := fun c xs r z => by subst z; rw [r] at mu; exact mu
  by_cases hb : b = x
  · subst hb; rw [upd_same] at q; cases q; exact new
  · rw [upd_ne hb] at q
    by_cases hbe : b = e
    · have q' : H b = some (.own x) := by
        rcases he with z | z
        · exact absurd (hbe.trans z) hb
        · rw [hbe]; exact z
      rw [q] at q'; cases q'
      obtain ⟨v, hv⟩ := heo
      exact ⟨v, by rw [hbe]; exact hv⟩
    · refine (ok b u q).stay (fun c v hc r => k c v ?_ r) (fun c r => by rw [upd_ne (nown c b r)]; exact r) fun c xs r => by rw [upd_ne (ntup c xs r)]; exact r
      rcases hc with rfl | hc
      · exact hbe
      · rintro rfl
        rcases he with z | z
        · exact nown c b hc z
        · rw [hc] at z; cases z; exact hb rfl
end
structure Un (fs ex : List Addr) (H H' : Hp) (h h' : Heap) : Prop where
  keep : ∀ b o, h.get? b = some o → H b = none → b ∉ fs → b ∉ ex → h'.get? b = some o
  slot : ∀ b o, h.get? b = some o → H b = none → b ∈ fs → b ∉ ex → ∃ sl, h'.get? b = some { o with slots := sl }
  free : ∀ b o, h.get? b = some o → H b = none → b ∉ ex → H' b = none
  there : ∀ b o, h.get? b = some o → b ∉ ex → ∃ o', h'.get? b = some o'
  tups : ∀ b xs, H b = some (.tup xs) → H' b = some (.tup xs)
  frzs : ∀ b o u, H b = some (.frz o u) → H' b = some (.frz o u)
  tbls : ∀ b ps, H b = some (.tbl ps) → ∃ more, H' b = some (.tbl (ps ++ more))
section
variable {fs fs' ex ex' : List Addr} {H H1 H2 : Hp} {h h1 h2 h' : Heap} {a x e : Addr} {o : HO}
theorem Un.any (u : Un fs ex H H1 h h1) {b : Addr} {ob : Obj} (q : h.get? b = some ob) (n : H b = none) (hx : b ∉ ex) : ∃ sl, h1.get? b = some { ob with slots := sl } := by
  by_cases hb : b ∈ fs
  · exact u.slot b ob q n hb hx
  · exact ⟨ob.slots, u.keep b ob q n hb hx⟩
theorem Un.kept (k : ∀ b u, h.get? b = some u → h'.get? b = some u) : Un fs ex H H h h' :=
  ⟨fun b ob q _ _ _ => k b ob q, fun b ob q _ _ _ => ⟨ob.slots, k b ob q⟩, fun _ _ _ n _ => n, fun b ob q _ => ⟨ob, k b ob q⟩, fun _ _ q => q, fun _ _ _ q => q, fun _ ps q => ⟨#[], by rw [q]; simp⟩⟩
theorem Un.refl : Un fs ex H H h h := Un.kept fun _ _ q => q
theorem Un.laid (k : ∀ b u, h.get? b = some u → h'.get? b = some u) (hp : h.objs.size ≤ a) (hn : H a = none) : Un fs ex H (upd H a o) h h' where
  keep := fun b u q _ _ _ => k b u q
  slot := fun b u q _ _ _ => ⟨u.slots, k b u q⟩
  free := fun b u q n _ => by rw [upd_ne (Nat.ne_of_lt (Nat.lt_of_lt_of_le (Heap.lt_size q) hp))]; exact n
  there := fun b u q _ => ⟨u, k b u q⟩
  tups := fun b xs q => by rw [upd_ne (ne_of_none q hn)]; exact q
  frzs := fun b u xs q => by rw [upd_ne (ne_of_none q hn)]; exact q
  tbls := fun b ps q => ⟨#[], by rw [upd_ne (ne_of_none q hn), q]; simp⟩
theorem Un.write (mu : Mut (H x)) (he : e = x ∨ H e = some (.own x)) (k : ∀ b u, b ≠ e → h.get? b = some u → h'.get? b = some u) (heo : ∃ u, h'.get? e = some u) : Un fs ex H (upd H x o) h h' := by
  have hx : ∀ b, H b = none → b ≠ x := fun b n z => by subst z; rw [n] at mu; exact mu
  have hb : ∀ b, H b = none → b ≠ e := fun b n z => by
    subst z
    rcases he with r | r
    · exact hx b n r
    · rw [n] at r; cases r
  have hm : ∀ b u, H b = some u → ¬ Mut (some u) → b ≠ x := fun b u q nm z => by subst z; rw [q] at mu; exact nm mu
  refine ⟨fun b u q n _ _ => k b u (hb b n) q, fun b u q n _ _ => ⟨u.slots, k b u (hb b n) q⟩, fun b u q n _ => by rw [upd_ne (hx b n)]; exact n, fun b u q _ => ?_,
    fun b xs q => by rw [upd_ne (hm b _ q fun z => z)]; exact q, fun b u xs q => by rw [upd_ne (hm b _ q fun z => z)]; exact q, fun b ps q => ⟨#[], by rw [upd_ne (hm b _ q fun z => z), q]; simp⟩⟩
  by_cases hbe : b = e
  · subst hbe; exact heo
  · exact ⟨u, k b u hbe q⟩
end
noncomputable def trk (h : Heap) (H : Hp) : List Addr := (List.range h.objs.size).filter fun a => (H a).isSome
noncomputable def hidT (h : Heap) (H : Hp) : Heap := PySem.W.hideAll h (trk h H)
theorem hidT_size (h : Heap) (H : Hp) : (hidT h H).objs.size = h.objs.size := PySem.W.hideAll_size _ _
theorem hidT_get {h : Heap} {H : Hp} {b : Addr} {o : Obj} (e : h.get? b = some o) (n : H b = none) : (hidT h H).get? b = some o :=
  PySem.W.hideAll_get _ e fun hm => by
    have q : (H b).isSome = true := (List.mem_filter.mp hm).2
    rw [n] at q; simp at q
theorem of_hidT {h : Heap} {H : Hp} {b : Addr} {o : Obj} (e : (hidT h H).get? b = some o) : h.get? b = some o ∧ H b = none := by
  have e' : h.get? b = some o := PySem.W.of_hideAll (trk h H) e
  refine ⟨e', ?_⟩
  cases q : H b with
  | none => rfl
  | some x =>
    have hm : b ∈ trk h H := List.mem_filter.mpr ⟨List.mem_range.mpr (Heap.lt_size e'), by simp [q]⟩
    have z : (hidT h H).get? b = none := PySem.W.hideAll_none (trk h H) hm
    rw [z] at e; cases e
end L2
namespace L2
open PySem PySem.Spec PyProof.Rows
structure Mod (K : PySem.W.Frag) (mg : Str → Option Value) (base : Heap) : Prop where
  kin : K.In base
  glob : base.Ns mainGlobals mg
  blt : ∃ mb, base.Ns builtinsNs mb ∧ ∀ x : Str, x ≠ "__name__" → mb x = bootBuiltins x
  nolimit : base.NoLimit
structure Cx where
  prog : Program
  w : World
  K : PySem.W.Frag
  mg : Str → Option Value
  base : Heap
  A : Around
  N : List Str
  s₀ : Shared
  H₀ : Hp
  env : Env
  outer : List Env
  stack : List Env
  ex : List Addr
  fn : Str → Bool
  calm : Bool
  pn : List (Addr × Obj)
  xe : Value → Shared → Prop
noncomputable def frs (l : List Env) : List Addr := l.filterMap (·.frame)
noncomputable abbrev Cx.fs (X : Cx) : List Addr := frs X.outer
noncomputable def Vis (sc : Scope) (x : Str) : Prop := sc.names.lookup x = some .local ∨ sc.names.lookup x = some .cell ∨ sc.names.lookup x = some .free
noncomputable def Loc (sc : Scope) (x : Str) : Prop := sc.names.lookup x = some .local ∨ sc.names.lookup x = some .cell
noncomputable def Look (env : Env) (h : Heap) (m : Str → Option Value) (x : Str) (u : Value) : Prop :=
  (env.kindOf x = some .local ∧ m x = some u) ∨ ((env.kindOf x = some .cell ∨ env.kindOf x = some .free) ∧ ∃ c, env.cells.lookup x = some c ∧ h.IsCell c (some u))
structure Cx.Ok (X : Cx) : Prop where
  mod : Mod X.K X.mg X.base
  kind : X.env.scope.kind = .function
  glob : X.env.globals = mainGlobals
  blt : X.env.builtins = builtinsNs
  above : X.s₀.heap.objs.size ≤ X.env.locals
  inj : ∀ x y c, X.env.cells.lookup x = some c → X.env.cells.lookup y = some c → x = y
  has : ∀ x, (X.env.kindOf x = some .cell ∨ X.env.kindOf x = some .free) → ∃ c, X.env.cells.lookup x = some c
  cab : ∀ x c, X.fn x = true → X.env.cells.lookup x = some c → X.s₀.heap.objs.size ≤ c
  hd : X.calm = true → X.A.handled = none
  frames : X.A.frames = some X.stack
  stk : X.stack = X.outer ∨ (X.stack = X.env :: X.outer ∧ X.env.frame = some X.env.locals)
  exf : ∀ b ∈ X.ex, b ≠ X.env.locals ∧ ∀ x c, X.env.cells.lookup x = some c → c ≠ b
  bs : ∀ b o, X.base.get? b = some o → X.s₀.heap.get? b = some o ∧ X.H₀ b = none
  bsz : X.base.objs.size ≤ X.s₀.heap.objs.size
  noex : ∀ b o, X.base.get? b = some o → b ∉ X.ex
  exfs : ∀ b ∈ X.ex, b ∉ X.fs
  funs : X.s₀.heap.FunFrames X.base X.outer
  frf : ∀ b ∈ X.fs, X.H₀ b = none
structure Inv (X : Cx) (pins : List (Addr × Obj)) (σ : List (Option V)) (H : Hp) (s : Shared) : Prop where
  ok : X.Ok
  os : s.os = X.s₀.os
  bare : AllBare s.gens
  base : Un X.fs X.ex X.H₀ H X.s₀.heap s.heap
  loc : ∃ m, s.heap.Ns X.env.locals m ∧ ∀ (i : Nat) (x : Str) (v : V), X.N[i]? = some x → σ[i]? = some (some v) → Vis X.env.scope x → ∃ u, RelV v u ∧ Look X.env s.heap m x u
  cell : ∀ x c, X.env.cells.lookup x = some c → ∃ v, s.heap.IsCell c v
  free : H X.env.locals = none
  freeC : ∀ x c, X.env.cells.lookup x = some c → H c = none
  pin : ∀ p ∈ X.pn ++ pins, s.heap.get? p.1 = some p.2 ∧ H p.1 = none ∧ p.1 ≠ X.env.locals ∧ p.1 ∉ X.fs ∧ ∀ v, p.2.data ≠ .cell v
  hok : HOk X.prog X.w H s.heap
  len : σ.length = X.N.length
section
variable {X : Cx} {pins : List (Addr × Obj)} {σ : List (Option V)} {H H' : Hp} {s : Shared} {h' : Heap}
theorem Cx.Ok.nofr (ok : X.Ok) {b : Addr} {o : Obj} (e : X.base.get? b = some o) : b ∉ X.fs := fun hb => by
  have := (ok.funs.mem hb).1
  rw [e] at this; cases this
theorem Inv.bs (I : Inv X pins σ H s) : ∀ b o, X.base.get? b = some o → s.heap.get? b = some o ∧ H b = none := fun b o e =>
  ⟨I.base.keep b o (I.ok.bs b o e).1 (I.ok.bs b o e).2 (I.ok.nofr e) (I.ok.noex b o e), I.base.free b o (I.ok.bs b o e).1 (I.ok.bs b o e).2 (I.ok.noex b o e)⟩
theorem Inv.bk (I : Inv X pins σ H s) : ∀ b o, X.base.get? b = some o → s.heap.get? b = some o := fun b o e => (I.bs b o e).1
theorem Inv.mod (I : Inv X pins σ H s) : Mod X.K X.mg X.base := I.ok.mod
theorem Inv.kIn (I : Inv X pins σ H s) : X.K.In s.heap := I.ok.mod.kin.keeps I.bk
theorem Inv.lt (I : Inv X pins σ H s) : X.env.locals < s.heap.objs.size := let ⟨_, hn, _⟩ := I.loc; hn.lt
theorem Inv.sz (I : Inv X pins σ H s) : X.s₀.heap.objs.size ≤ s.heap.objs.size := Nat.le_trans I.ok.above (Nat.le_of_lt I.lt)
theorem Inv.nofs (I : Inv X pins σ H s) {a : Addr} (h : s.heap.objs.size ≤ a) : a ∉ X.fs := fun hb => by
  obtain ⟨_, o, ho, _⟩ := I.ok.funs.mem hb
  exact absurd (Nat.lt_of_lt_of_le (Heap.lt_size ho) (Nat.le_trans I.sz h)) (Nat.lt_irrefl _)
theorem Inv.cne (I : Inv X pins σ H s) : ∀ x c, X.env.cells.lookup x = some c → c ≠ X.env.locals := fun x c e z => by
  obtain ⟨v, o, ho, hd⟩ := I.cell x c e
  obtain ⟨m, ⟨o', es, ep, ho', hd', _⟩, _⟩ := I.loc
  rw [z, ho'] at ho; cases ho; rw [hd'] at hd; cases hd
theorem Inv.funs (I : Inv X pins σ H s) : s.heap.FunFrames X.base X.outer := by
  have all : ∀ (l : List Env), (∀ b ∈ frs l, b ∈ X.fs) → X.s₀.heap.FunFrames X.base l → s.heap.FunFrames X.base l := by
    intro l
    induction l with
    | nil => intro _ _; trivial
    | cons env r ih =>
      intro hs hl
      obtain ⟨hk, ⟨L, o, hf, hn, ho, hd⟩, hr⟩ := hl
      have hL : L ∈ X.fs := hs L (by unfold frs; rw [List.filterMap_cons, hf]; exact List.mem_cons_self)
      obtain ⟨sl, e⟩ := I.base.slot L o ho (I.ok.frf L hL) hL fun z => I.ok.exfs L z hL
      exact ⟨hk, ⟨L, _, hf, hn, e, hd⟩, ih (fun b hb => hs b (by unfold frs; rw [List.filterMap_cons, hf]; exact List.mem_cons_of_mem _ hb)) hr⟩
  exact all X.outer (fun _ hb => hb) I.ok.funs
theorem Inv.stack (I : Inv X pins σ H s) : s.heap.FunFrames X.base X.stack := by
  rcases I.ok.stk with e | ⟨e, hf⟩
  · rw [e]; exact I.funs
  · rw [e]
    obtain ⟨m, hn, _⟩ := I.loc
    refine .cons (by rw [I.ok.kind]; decide) hf hn ?_ I.funs
    exact Heap.get?_none_of_le (Nat.le_trans I.ok.bsz I.ok.above)
theorem Inv.stkSub (I : Inv X pins σ H s) : ∀ b ∈ frs X.stack, b ∈ X.env.locals :: X.fs := fun b hb => by
  rcases I.ok.stk with e | ⟨e, hf⟩
  · rw [e] at hb; exact List.mem_cons_of_mem _ hb
  · rw [e] at hb
    unfold frs at hb
    rw [List.filterMap_cons, hf] at hb
    exact hb
theorem Inv.stkFree (I : Inv X pins σ H s) : ∀ b ∈ frs X.stack, H b = none := fun b hb => by
  rcases List.mem_cons.mp (I.stkSub b hb) with e | hb
  · rw [e]; exact I.free
  · obtain ⟨_, o, ho, _⟩ := I.ok.funs.mem hb
    exact I.base.free b o ho (I.ok.frf b hb) fun z => I.ok.exfs b z hb
theorem Inv.step {g' : Array GenState} {t' : Nat} {d' : Drawn} {ch : List Addr} (I : Inv X pins σ H s)
    (hch : ∀ b ∈ ch, (b ∈ X.ex ∨ X.s₀.heap.objs.size ≤ b) ∧ b ≠ X.env.locals ∧ (∀ x c, X.env.cells.lookup x = some c → c ≠ b) ∧ ∀ p ∈ X.pn ++ pins, p.1 ≠ b)
    (keep : ∀ b o, b ≠ X.env.locals → b ∉ X.fs → b ∉ ch → s.heap.get? b = some o → H b = none → h'.get? b = some o)
    (slot : ∀ b o, b ≠ X.env.locals → b ∈ X.fs → b ∉ ch → s.heap.get? b = some o → H b = none → ∃ sl, h'.get? b = some { o with slots := sl }) (free : ∀ b o, b ∉ ch → s.heap.get? b = some o → H b = none → H' b = none)
    (there : ∀ b o, b ∉ ch → s.heap.get? b = some o → ∃ o', h'.get? b = some o')
    (tups : ∀ b xs, H b = some (.tup xs) → H' b = some (.tup xs)) (frzs : ∀ b o u, H b = some (.frz o u) → H' b = some (.frz o u)) (tbls : ∀ b ps, H b = some (.tbl ps) → ∃ more, H' b = some (.tbl (ps ++ more)))
    (ns : ∀ m, s.heap.Ns X.env.locals m → h'.Ns X.env.locals m) (hok : HOk X.prog X.w H' h') (hg : AllBare g') :
    Inv X pins σ H' { s with heap := h', gens := g', drawn := d', toks := t' } := by
  have neL : ∀ b o, X.s₀.heap.get? b = some o → b ≠ X.env.locals := fun b o e => Nat.ne_of_lt (Nat.lt_of_lt_of_le (Heap.lt_size e) I.ok.above)
  have neC : ∀ b o, X.s₀.heap.get? b = some o → b ∉ X.ex → b ∉ ch := fun b o e hx hb => by
    rcases (hch b hb).1 with z | z
    · exact hx z
    · exact absurd (Nat.lt_of_lt_of_le (Heap.lt_size e) z) (Nat.lt_irrefl _)
  have cellK : ∀ x c, X.env.cells.lookup x = some c → ∀ v, s.heap.IsCell c v → h'.IsCell c v := fun x c e v ⟨o, ho, hd⟩ => by
    have nch : c ∉ ch := fun z => (hch c z).2.2.1 x c e rfl
    by_cases hc : c ∈ X.fs
    · obtain ⟨sl, q⟩ := slot c o (I.cne x c e) hc nch ho (I.freeC x c e)
      exact ⟨_, q, hd⟩
    · exact ⟨o, keep c o (I.cne x c e) hc nch ho (I.freeC x c e), hd⟩
  refine ⟨I.ok, I.os, hg, ⟨fun b o e n hb hx => ?_, fun b o e n hb hx => ?_, fun b o e n hx => ?_, fun b o e hx => ?_, fun b xs e => tups b xs (I.base.tups b xs e), fun b o xs e => frzs b o xs (I.base.frzs b o xs e), fun b ps e => ?_⟩, ?_, fun x c e => ?_, ?_, fun x c e => ?_, fun p hp => ?_, hok, I.len⟩
  · exact keep b o (neL b o e) hb (neC b o e hx) (I.base.keep b o e n hb hx) (I.base.free b o e n hx)
  · obtain ⟨sl, e1⟩ := I.base.slot b o e n hb hx
    obtain ⟨sl', e2⟩ := slot b _ (neL b o e) hb (neC b o e hx) e1 (I.base.free b o e n hx)
    exact ⟨sl', e2⟩
  · obtain ⟨o', e1⟩ := I.base.there b o e hx
    exact free b o' (neC b o e hx) e1 (I.base.free b o e n hx)
  · obtain ⟨o', e1⟩ := I.base.there b o e hx
    exact there b o' (neC b o e hx) e1
  · obtain ⟨m1, e1⟩ := I.base.tbls b ps e
    obtain ⟨m2, e2⟩ := tbls b _ e1
    exact ⟨m1 ++ m2, by rw [e2, Array.append_assoc]⟩
  · obtain ⟨m, hn, hl⟩ := I.loc
    refine ⟨m, ns m hn, fun i x v e1 e2 e3 => ?_⟩
    obtain ⟨u, r, l⟩ := hl i x v e1 e2 e3
    refine ⟨u, r, ?_⟩
    rcases l with l | ⟨k, c, e, z⟩
    · exact .inl l
    · exact .inr ⟨k, c, e, cellK x c e _ z⟩
  · obtain ⟨v, z⟩ := I.cell x c e
    exact ⟨v, cellK x c e v z⟩
  · obtain ⟨m, ⟨o, _, _, ho, _⟩, _⟩ := I.loc
    exact free _ o (fun z => (hch _ z).2.1 rfl) ho I.free
  · obtain ⟨v, o, ho, hd⟩ := I.cell x c e
    exact free c o (fun z => (hch c z).2.2.1 x c e rfl) ho (I.freeC x c e)
  · obtain ⟨e, n, ne, nf, d⟩ := I.pin p hp
    have nch : p.1 ∉ ch := fun z => (hch p.1 z).2.2.2 p hp rfl
    exact ⟨keep p.1 p.2 ne nf nch e n, free p.1 p.2 nch e n, ne, nf, d⟩
theorem Inv.un {t' : Nat} (I : Inv X pins σ H s) (u : Un X.fs [] H H' s.heap h') (hok : HOk X.prog X.w H' h') : Inv X pins σ H' { s with heap := h', toks := t' } := by
  obtain ⟨m, ⟨o, es, ep, ho, r⟩, _⟩ := id I.loc
  obtain ⟨sl, hL⟩ := u.any ho I.free (by simp)
  exact I.step (g' := s.gens) (d' := s.drawn) (ch := []) (fun _ z => nomatch z) (fun b o _ hb _ e n => u.keep b o e n hb (by simp)) (fun b o _ hb _ e n => u.slot b o e n hb (by simp)) (fun b o _ e n => u.free b o e n (by simp)) (fun b o _ e => u.there b o e (by simp)) u.tups u.frzs u.tbls (fun m' hm => by
    obtain ⟨o', es', ep', ho', r'⟩ := hm
    rw [ho] at ho'; cases ho'
    exact ⟨_, es', ep', hL, r'⟩) hok I.bare
theorem Inv.call {g' : Array GenState} {t' : Nat} {d' : Drawn} {ch : List Addr} (I : Inv X pins σ H s) (u : Un (frs X.stack) ch H H' s.heap h') (hok : HOk X.prog X.w H' h') (hg : AllBare g')
    (hch : ∀ b ∈ ch, (b ∈ X.ex ∨ X.s₀.heap.objs.size ≤ b) ∧ b ≠ X.env.locals ∧ (∀ x c, X.env.cells.lookup x = some c → c ≠ b) ∧ ∀ p ∈ X.pn ++ pins, p.1 ≠ b) :
    Inv X pins σ H' { s with heap := h', gens := g', drawn := d', toks := t' } := by
  obtain ⟨m, ⟨o, es, ep, ho, r⟩, _⟩ := id I.loc
  obtain ⟨sl, hL⟩ := u.any ho I.free fun z => (hch _ z).2.1 rfl
  exact I.step (ch := ch) hch (fun b o hL hb hc e n => u.keep b o e n (fun z => (List.mem_cons.mp (I.stkSub b z)).elim hL hb) hc) (fun b o _ _ hc e n => u.any e n hc) (fun b o hc e n => u.free b o e n hc) (fun b o hc e => u.there b o e hc) u.tups u.frzs u.tbls (fun m' hm => by
    obtain ⟨o', es', ep', ho', r'⟩ := hm
    rw [ho] at ho'; cases ho'
    exact ⟨_, es', ep', hL, r'⟩) hok hg
theorem Inv.turned {t' : Nat} {it : Addr} (I : Inv X pins σ H s) (k : ∀ b o, b ≠ it → s.heap.get? b = some o → h'.get? b = some o) (hn : H it = none) (hL : it ≠ X.env.locals)
    (h1 : it ∈ X.ex ∨ X.s₀.heap.objs.size ≤ it) (h2 : ∀ x c, X.env.cells.lookup x = some c → c ≠ it) (h3 : ∀ p ∈ X.pn ++ pins, p.1 ≠ it) : Inv X pins σ H { s with heap := h', toks := t' } := by
  have nit : ∀ b u, H b = some u → b ≠ it := fun b u e z => by rw [z, hn] at e; cases e
  refine I.step (g' := s.gens) (d' := s.drawn) (ch := [it]) (fun b hb => ?_) (fun b o _ _ hc e _ => k b o (fun z => hc (by simp [z])) e) (fun b o _ _ hc e _ => ⟨o.slots, k b o (fun z => hc (by simp [z])) e⟩) (fun _ _ _ _ n => n)
    (fun b o hc e => ⟨o, k b o (fun z => hc (by simp [z])) e⟩) (fun _ _ e => e) (fun _ _ _ e => e) (fun b ps e => ⟨#[], by rw [e]; simp⟩) (fun m hm => ?_) (fun b u e => ?_) I.bare
  · have e : b = it := by simpa using hb
    subst e
    exact ⟨h1, hL, h2, h3⟩
  · obtain ⟨o, es, ep, ho, r⟩ := hm
    exact ⟨o, es, ep, k _ o (Ne.symm hL) ho, r⟩
  · refine (I.hok b u e).stay (fun c v hc q => k c v ?_ q) (fun _ q => q) fun _ _ q => q
    rcases hc with z | z
    · rw [z]; exact nit b u e
    · exact nit c _ z
theorem Inv.tok (I : Inv X pins σ H s) (t : Nat) : Inv X pins σ H { s with toks := t } := I.un (h' := s.heap) (t' := t) Un.refl I.hok
theorem Inv.kept {t' : Nat} (I : Inv X pins σ H s) (k : ∀ b u, s.heap.get? b = some u → h'.get? b = some u) : Inv X pins σ H { s with heap := h', toks := t' } := I.un (Un.kept k) (I.hok.kept k)
theorem Inv.laid {a : Addr} {o : HO} {t' : Nat} (I : Inv X pins σ H s) (k : ∀ b u, s.heap.get? b = some u → h'.get? b = some u) (hp : s.heap.objs.size ≤ a) (new : ObjOk X.prog X.w (upd H a o) h' a o) :
    Inv X pins σ (upd H a o) { s with heap := h', toks := t' } := I.un (Un.laid k hp (I.hok.fresh hp)) (I.hok.laid k hp new)
theorem Inv.write {x e : Addr} {o : HO} {t' : Nat} (I : Inv X pins σ H s) (mu : Mut (H x)) (he : e = x ∨ H e = some (.own x)) (k : ∀ b u, b ≠ e → s.heap.get? b = some u → h'.get? b = some u) (heo : ∃ u, h'.get? e = some u)
    (new : ObjOk X.prog X.w (upd H x o) h' x o) : Inv X pins σ (upd H x o) { s with heap := h', toks := t' } := I.un (Un.write mu he k heo) (I.hok.write mu he k heo new)
theorem Inv.pins_of {pins' : List (Addr × Obj)} (I : Inv X pins σ H s) (h : ∀ p ∈ pins', s.heap.get? p.1 = some p.2 ∧ H p.1 = none ∧ p.1 ≠ X.env.locals ∧ p.1 ∉ X.fs ∧ ∀ v, p.2.data ≠ .cell v) : Inv X pins' σ H s :=
  ⟨I.ok, I.os, I.bare, I.base, I.loc, I.cell, I.free, I.freeC, fun p hp => (List.mem_append.mp hp).elim (fun z => I.pin p (List.mem_append_left _ z)) (h p), I.hok, I.len⟩
theorem nodup_ix {N : List Str} (hN : N.Nodup) {i j : Nat} {x : Str} (a : N[i]? = some x) (b : N[j]? = some x) : i = j := by
  obtain ⟨h1, e1⟩ := List.getElem?_eq_some_iff.mp a
  obtain ⟨h2, e2⟩ := List.getElem?_eq_some_iff.mp b
  exact (List.getElem_inj hN).mp (e1.trans e2.symm)
theorem store_ok2 {M : Model} {A : Around} {E : Value → Shared → Prop} {i : Nat} {x : Str} {v : V} {u : Value} {Q : Unit → Shared → Prop} (I : Inv X pins σ H s) (hN : X.N.Nodup) (hi : X.N[i]? = some x) (hx : Loc X.env.scope x) (r : RelV v u)
    (h : ∀ s', Inv X pins (σ.set i (some v)) H s' → (∃ a, Heap.SameBut a s.heap s'.heap ∧ (a = X.env.locals ∨ X.env.cells.lookup x = some a)) → Q () s') (hf : X.fn x = true ∨ X.env.scope.names.lookup x = some .local := by first | exact .inl rfl | exact .inr rfl | assumption) : wpAny M A (storeName X.env x u) Q E s := by
  obtain ⟨m, hn, hl⟩ := id I.loc
  have hcls : (X.env.scope.kind == .class || (X.env.scope.kind == .module && X.env.locals != X.env.globals)) = false := by rw [I.ok.kind]; rfl
  have hiσ : i < σ.length := by rw [I.len]; exact (List.getElem?_eq_some_iff.mp hi).1
  have cne := I.cne
  have tracked : ∀ {a : Addr} {h' : Heap}, (∃ o, s.heap.get? a = some o ∧ H a = none) → Heap.SameBut a s.heap h' → HOk X.prog X.w H h' := fun {a h'} ha hs b ob e => by
    obtain ⟨_, _, hfree⟩ := ha
    refine (I.hok b ob e).stay (fun c w' hc q => (hs.2 c ?_).trans q) (fun _ q => q) fun _ _ q => q
    rintro rfl
    rcases hc with rfl | hc
    · rw [hfree] at e; cases e
    · rw [hfree] at hc; cases hc
  rcases hx with hk | hk
  · refine wpAny_storeName_local hk hn (fun h' hn' hs => ?_) hcls
    obtain ⟨oL, _, _, hoL, _⟩ := id hn
    refine h _ ⟨I.ok, I.os, I.bare, ⟨fun b o e n hb hx => ?_, fun b o e n hb hx => ?_, I.base.free, fun b o e hx => ?_, I.base.tups, I.base.frzs, I.base.tbls⟩, ⟨_, hn', fun j y v' e1 e2 e3 => ?_⟩, fun y c e => ?_, I.free, I.freeC, fun p hp => ?_, tracked ⟨oL, hoL, I.free⟩ hs, by simpa using I.len⟩ ⟨_, hs, .inl rfl⟩
    · exact (hs.2 b (Nat.ne_of_lt (Nat.lt_of_lt_of_le (Heap.lt_size e) I.ok.above))).trans (I.base.keep b o e n hb hx)
    · obtain ⟨sl, e1⟩ := I.base.slot b o e n hb hx
      exact ⟨sl, (hs.2 b (Nat.ne_of_lt (Nat.lt_of_lt_of_le (Heap.lt_size e) I.ok.above))).trans e1⟩
    · obtain ⟨o', e1⟩ := I.base.there b o e hx
      exact ⟨o', (hs.2 b (Nat.ne_of_lt (Nat.lt_of_lt_of_le (Heap.lt_size e) I.ok.above))).trans e1⟩
    · by_cases hj : j = i
      · subst hj
        rw [hi] at e1; cases e1
        rw [List.getElem?_set_self hiσ] at e2
        cases e2
        exact ⟨u, r, .inl ⟨hk, by simp⟩⟩
      · rw [List.getElem?_set_ne (Ne.symm hj)] at e2
        obtain ⟨u', r', q⟩ := hl j y v' e1 e2 e3
        refine ⟨u', r', ?_⟩
        rcases q with ⟨k, e⟩ | ⟨k, c, e, z⟩
        · refine .inl ⟨k, ?_⟩
          have : y ≠ x := fun e => hj (nodup_ix hN e1 (e ▸ hi))
          simp [this, e]
        · exact .inr ⟨k, c, e, z.sameBut hs (cne y c e)⟩
    · obtain ⟨w', z⟩ := I.cell y c e
      exact ⟨w', z.sameBut hs (cne y c e)⟩
    · obtain ⟨e, n, ne, nf, d⟩ := I.pin p hp
      exact ⟨(hs.2 p.1 ne).trans e, n, ne, nf, d⟩
  · have hfn : X.fn x = true := by
      rcases hf with z | z
      · exact z
      · rw [z] at hk; cases hk
    obtain ⟨c, hc⟩ := I.ok.has x (.inl hk)
    obtain ⟨w', z⟩ := I.cell x c hc
    refine wpAny_storeName_cell I.ok.kind hk hc z (fun h' hc' hs => ?_)
    obtain ⟨oc, hoc, hocd⟩ := id z
    refine h { s with heap := h' } ⟨I.ok, I.os, I.bare, ⟨fun b o e n hb hx => ?_, fun b o e n hb hx => ?_, I.base.free, fun b o e hx => ?_, I.base.tups, I.base.frzs, I.base.tbls⟩, ⟨m, hn.sameBut hs (Ne.symm (cne x c hc)), fun j y v' e1 e2 e3 => ?_⟩, fun y c' e => ?_, I.free, I.freeC, fun p hp => ?_, tracked ⟨oc, hoc, I.freeC x c hc⟩ hs, by simpa using I.len⟩ ⟨c, hs, .inr hc⟩
    · exact (hs.2 b (Nat.ne_of_lt (Nat.lt_of_lt_of_le (Heap.lt_size e) (I.ok.cab x c hfn hc)))).trans (I.base.keep b o e n hb hx)
    · obtain ⟨sl, e1⟩ := I.base.slot b o e n hb hx
      exact ⟨sl, (hs.2 b (Nat.ne_of_lt (Nat.lt_of_lt_of_le (Heap.lt_size e) (I.ok.cab x c hfn hc)))).trans e1⟩
    · obtain ⟨o', e1⟩ := I.base.there b o e hx
      exact ⟨o', (hs.2 b (Nat.ne_of_lt (Nat.lt_of_lt_of_le (Heap.lt_size e) (I.ok.cab x c hfn hc)))).trans e1⟩
    · by_cases hj : j = i
      · subst hj
        rw [hi] at e1; cases e1
        rw [List.getElem?_set_self hiσ] at e2
        cases e2
        exact ⟨u, r, .inr ⟨.inl hk, c, hc, hc'⟩⟩
      · rw [List.getElem?_set_ne (Ne.symm hj)] at e2
        obtain ⟨u', r', q⟩ := hl j y v' e1 e2 e3
        refine ⟨u', r', ?_⟩
        rcases q with q | ⟨k, c', e, z'⟩
        · exact .inl q
        · refine .inr ⟨k, c', e, z'.sameBut hs ?_⟩
          rintro rfl
          exact hj (nodup_ix hN e1 (I.ok.inj _ _ _ e hc ▸ hi))
    · by_cases hcc : c' = c
      · subst hcc; exact ⟨_, hc'⟩
      · obtain ⟨w2, z2⟩ := I.cell y c' e
        exact ⟨w2, z2.sameBut hs hcc⟩
    · obtain ⟨e, n, ne, nf, d⟩ := I.pin p hp
      refine ⟨(hs.2 p.1 ?_).trans e, n, ne, nf, d⟩
      intro q
      rw [q, hoc] at e
      have q' : oc = p.2 := Option.some.inj e
      exact d w' (by rw [← q']; exact hocd)
theorem store_ok {M : Model} {A : Around} {E : Value → Shared → Prop} {i : Nat} {x : Str} {v : V} {u : Value} {Q : Unit → Shared → Prop} (I : Inv X pins σ H s) (hN : X.N.Nodup) (hi : X.N[i]? = some x) (hx : Loc X.env.scope x) (r : RelV v u)
    (h : ∀ s', Inv X pins (σ.set i (some v)) H s' → Q () s') (hf : X.fn x = true ∨ X.env.scope.names.lookup x = some .local := by first | exact .inl rfl | exact .inr rfl | assumption) : wpAny M A (storeName X.env x u) Q E s :=
  store_ok2 I hN hi hx r (fun s' I' _ => h s' I') hf
theorem Inv.call' {s' : Shared} {ch : List Addr} (I : Inv X pins σ H s) (ho : s'.os = s.os) (u : Un (frs X.stack) ch H H' s.heap s'.heap) (hok : HOk X.prog X.w H' s'.heap) (hg : AllBare s'.gens)
    (hch : ∀ b ∈ ch, (b ∈ X.ex ∨ X.s₀.heap.objs.size ≤ b) ∧ b ≠ X.env.locals ∧ (∀ x c, X.env.cells.lookup x = some c → c ≠ b) ∧ ∀ p ∈ X.pn ++ pins, p.1 ≠ b) : Inv X pins σ H' s' := by
  obtain ⟨h', g', d', t', o'⟩ := s'
  have e : o' = s.os := ho
  subst e
  exact I.call (g' := g') (t' := t') (d' := d') u hok hg hch
end
noncomputable abbrev XK := Value → Option Addr → Hp → Prop
noncomputable abbrev St := List (Option V)
noncomputable abbrev VK := V → Hp → Prop
noncomputable abbrev TE := St → Hp → VK → Prop
noncomputable abbrev TT := St → Hp → (Bool → Hp → Prop) → Prop
noncomputable abbrev TA := St → Hp → (List V → Hp → Prop) → Prop
structure Ends where
  nx : St → Hp → Prop
  rt : VK
  bk : St → Hp → Prop := fun _ _ => False
  ct : St → Hp → Prop := fun _ _ => False
noncomputable abbrev TS := Ends → St → Hp → Prop
noncomputable def EP (X : Cx) (pins : List (Addr × Obj)) (σ : St) (Q : VK) (u : Value) (s' : Shared) : Prop := ∃ v H', Inv X pins σ H' s' ∧ RelV v u ∧ Q v H'
noncomputable def TP (X : Cx) (pins : List (Addr × Obj)) (σ : St) (Q : Bool → Hp → Prop) (b : Bool) (s' : Shared) : Prop := ∃ H', Inv X pins σ H' s' ∧ Q b H'
noncomputable def AP (X : Cx) (pins : List (Addr × Obj)) (σ : St) (Q : List V → Hp → Prop) (us : List Value) (s' : Shared) : Prop := ∃ vs H', Inv X pins σ H' s' ∧ Vals vs us ∧ Q vs H'
noncomputable def SP (X : Cx) (pins : List (Addr × Obj)) (D : Ends) (f : Flow) (s' : Shared) : Prop :=
  match f with
  | .next => ∃ σ' H', Inv X pins σ' H' s' ∧ D.nx σ' H'
  | .brk => ∃ σ' H', Inv X pins σ' H' s' ∧ D.bk σ' H'
  | .cont => ∃ σ' H', Inv X pins σ' H' s' ∧ D.ct σ' H'
  | .ret u => ∃ v σ' H', Inv X pins σ' H' s' ∧ RelV v u ∧ D.rt v H'
noncomputable def PE (X : Cx) (e : Expr) (t : TE) : Prop :=
  ∀ (pins : List (Addr × Obj)) (s : Shared) (σ : St) (H : Hp) (Q : VK), Inv X pins σ H s → t σ H Q → wpAny (model X.prog X.w) X.A (eval e X.env) (EP X pins σ Q) X.xe s
noncomputable def PT (X : Cx) (e : Expr) (t : TT) : Prop :=
  ∀ (pins : List (Addr × Obj)) (s : Shared) (σ : St) (H : Hp) (Q : Bool → Hp → Prop), Inv X pins σ H s → t σ H Q → wpAny (model X.prog X.w) X.A (isTrue e X.env (eval e X.env)) (TP X pins σ Q) X.xe s
noncomputable def PW (X : Cx) (e : Expr) (t : TT) : Prop :=
  ∀ (whole : Sem Value) (pins : List (Addr × Obj)) (s : Shared) (σ : St) (H : Hp) (Q : Bool → Hp → Prop), Inv X pins σ H s → t σ H Q → wpAny (model X.prog X.w) X.A (isTrue e X.env whole) (TP X pins σ Q) X.xe s
theorem PW.pt {X : Cx} {e : Expr} {t : TT} (h : PW X e t) : PT X e t := h _
noncomputable def PA (X : Cx) (es : List Expr) (t : TA) : Prop :=
  ∀ (pos : Pos) (pins : List (Addr × Obj)) (s : Shared) (σ : St) (H : Hp) (Q : List V → Hp → Prop), Inv X pins σ H s → t σ H Q → wpAny (model X.prog X.w) X.A (spliced (backTo pos (starEach es X.env))) (AP X pins σ Q) X.xe s
noncomputable def PS (X : Cx) (st : Stmt) (t : TS) : Prop :=
  ∀ (pins : List (Addr × Obj)) (s : Shared) (σ : St) (H : Hp) (D : Ends), Inv X pins σ H s → t D σ H → wpAny (model X.prog X.w) X.A (exec st X.env) (SP X pins D) X.xe s
noncomputable def PSs (X : Cx) (st : List Stmt) (t : TS) : Prop :=
  ∀ (pins : List (Addr × Obj)) (s : Shared) (σ : St) (H : Hp) (D : Ends), Inv X pins σ H s → t D σ H → wpAny (model X.prog X.w) X.A (execs st X.env) (SP X pins D) X.xe s
theorem thn {α : Type} {t : Sem α} {Q Q' : α → Shared → Prop} {M : Model} {A : Around} {E : Value → Shared → Prop} {s : Shared} (h : wpAny M A t Q E s) (hQ : ∀ a s, Q a s → Q' a s) : wpAny M A t Q' E s := wpAny_mono h hQ fun _ _ x => x
end L2
namespace L2
open PySem PySem.Spec PyProof.Rows
section
variable {X : Cx}
inductive tVar (i : Nat) (σ : St) (H : Hp) (Q : VK) : Prop
  | mk (v : _) (h0 : σ[i]? = some (some v)) (h1 : Q v H) : tVar i σ H Q
noncomputable def tC (v : V) : TE := fun _ H Q => Q v H
theorem pe_var {i : Nat} {x : Str} {pos : Pos} (hN : X.N[i]? = some x) (hv : Vis X.env.scope x) (hd : (x == ("__debug__" : Str)) = false := by decide) (hcd : (x == ("__classdict__" : Str)) = false := by decide) : PE X (.Name x pos) (tVar i) := by
  intro pins s σ H Q I h
  obtain ⟨v, e, h⟩ := h
  obtain ⟨m, hn, hl⟩ := I.loc
  obtain ⟨u, r, l⟩ := hl i x v hN e hv
  have fin : EP X pins σ Q u s := ⟨v, H, I, r, h⟩
  rcases l with ⟨hk, hm⟩ | ⟨hk, c, hc, hcell⟩
  · exact wpAny_Name (wpAny_loadName_local I.ok.kind hk hn hm fin) hd
  · rcases hk with hk | hk
    · exact wpAny_Name (wpAny_loadName_cell I.ok.kind hk hc hcell fin) hd
    · exact wpAny_Name (wpAny_loadName_free I.ok.kind hk hc hcell fin hcd) hd
theorem pe_int {i j pos} : PE X (.Constant (.int i) j pos) (tC (.int i)) := fun _ _ _ H _ I h => wpAny_Constant_int ⟨.int i, H, I.tok _, ⟨_, rfl⟩, h⟩
theorem pe_bl {b j pos} : PE X (.Constant (.bool b) j pos) (tC (.bl b)) := fun _ _ _ H _ I h => Constant_bool ⟨.bl b, H, I, rfl, h⟩
theorem pe_non {j pos} : PE X (.Constant .none j pos) (tC .non) := fun _ _ _ H _ I h => Constant_none ⟨.non, H, I, rfl, h⟩
theorem pe_str {x j pos} : PE X (.Constant (.str x) j pos) (tC (.str x)) := fun _ _ _ H _ I h => Calls.Constant_str ⟨.str x, H, I.tok _, ⟨_, rfl⟩, h⟩
noncomputable def Gl (X : Cx) (x : Str) : Prop := X.env.kindOf x = some .globalImplicit
theorem ld_glob {E : Value → Shared → Prop} {pins : List (Addr × Obj)} {s : Shared} {σ : St} {H : Hp} {x : Str} {u : Value} {pos : Pos} {Q : Value → Shared → Prop} (I : Inv X pins σ H s) (hg : Gl X x) (hm : X.mg x = some u) (h : Q u s)
    (hd : (x == ("__debug__" : Str)) = false := by decide) : wpAny (model X.prog X.w) X.A (eval (.Name x pos) X.env) Q E s :=
  Calls.Name_function_global I.ok.kind hg (Calls.loadGlobal_global (by rw [I.ok.glob]; exact I.mod.glob.keeps I.bk) hm h) hd
theorem ld_blt {E : Value → Shared → Prop} {pins : List (Addr × Obj)} {s : Shared} {σ : St} {H : Hp} {x : Str} {u : Value} {pos : Pos} {Q : Value → Shared → Prop} (I : Inv X pins σ H s) (hg : Gl X x) (hm : X.mg x = none) (hv : bootBuiltins x = some u) (h : Q u s)
    (hn : x ≠ "__name__" := by decide) (hd : (x == ("__debug__" : Str)) = false := by decide) : wpAny (model X.prog X.w) X.A (eval (.Name x pos) X.env) Q E s := by
  obtain ⟨mb, h1, h2⟩ := I.mod.blt
  exact Calls.Name_function_global I.ok.kind hg (Calls.loadGlobal_builtin (by rw [I.ok.glob]; exact I.mod.glob.keeps I.bk) hm (by rw [I.ok.blt]; exact h1.keeps I.bk) ((h2 x hn).trans hv) h) hd
theorem pe_glob {x : Str} {v : V} {u : Value} {pos : Pos} (hg : Gl X x) (hm : X.mg x = some u) (r : RelV v u) (hd : (x == ("__debug__" : Str)) = false := by decide) : PE X (.Name x pos) (tC v) :=
  fun _ _ _ H _ I h => ld_glob I hg hm ⟨v, H, I, r, h⟩ hd
theorem pe_bltn {x : Str} {v : V} {u : Value} {pos : Pos} (hg : Gl X x) (hm : X.mg x = none) (hv : bootBuiltins x = some u) (r : RelV v u) (hn : x ≠ "__name__" := by decide) (hd : (x == ("__debug__" : Str)) = false := by decide) : PE X (.Name x pos) (tC v) :=
  fun _ _ _ H _ I h => ld_blt I hg hm hv ⟨v, H, I, r, h⟩ hn hd
variable {a b : Expr} {ta tb : TE} {pos : Pos}
noncomputable def PC (X : Cx) (op : CmpOp) (a b : Expr) (t : TE) : Prop :=
  ∀ (pins : List (Addr × Obj)) (s : Shared) (σ : St) (H : Hp) (Q : VK), Inv X pins σ H s → t σ H Q →
    wpAny (model X.prog X.w) X.A (eval a X.env) (fun v s₁ => wpAny (model X.prog X.w) X.A (eval b X.env) (fun u s₂ => wpAny (model X.prog X.w) X.A (compareOp op v u) (EP X pins σ Q) X.xe s₂) X.xe s₁) X.xe s
inductive tBR  (Q : (Bool → Hp → Prop)) (x : V) (H1 : Hp) : Prop
  | mk (c : _) (h0 : x = .bl c) (h1 : Q c H1) : tBR Q x H1
noncomputable def tB (t : TE) : TT := fun σ H Q => t σ H fun x H1 => tBR Q x H1
theorem pe_cmp {op : CmpOp} {t : TE} (h : PC X op a b t) (h1 : behindInMarks op b = false := by first | exact nobehind _ (by decide) (by decide) | rfl) : PE X (.Compare a [op] [b] pos) t := fun pins s σ H Q I hw => wpAny_Compare1 (h pins s σ H Q I hw) h1
theorem pt_cmp {op : CmpOp} {t : TE} (h : PC X op a b t) (h1 : behindInMarks op b = false := by first | exact nobehind _ (by decide) (by decide) | rfl) : PT X (.Compare a [op] [b] pos) (tB t) := by
  intro pins s σ H Q I hw
  refine wpAny_isTrue_Compare1 (thn (h pins s σ H _ I hw) fun v s1 h1 => thn h1 fun u s2 h2 => thn h2 fun c s3 ⟨x, H1, I1, r1, q1⟩ => ?_) h1
  obtain ⟨d, rfl, q⟩ := q1
  cases r1
  exact wpAny_truthy_bool ⟨H1, I1, q⟩
theorem pt_val {e : Expr} {t : TE} (h : PE X e t) (he : ∀ whole, isTrue e X.env whole = (do let v ← whole; standAt e.pos; holding [v] (truthy v)) := by intro _; rfl) : PT X e (tB t) := by
  intro pins s σ H Q I hw
  refine isTrue_plain (thn (h pins s σ H _ I hw) fun v s1 ⟨x, H1, I1, r1, q1⟩ => ?_) (he _)
  obtain ⟨d, rfl, q⟩ := q1
  cases r1
  exact wpAny_truthy_bool ⟨H1, I1, q⟩
variable {tA tB' : TT} {rest : List Expr}
noncomputable def tAnd (t u : TT) : TT := fun σ H Q => t σ H fun c H1 => if c = true then u σ H1 Q else Q false H1
noncomputable def tOr (t u : TT) : TT := fun σ H Q => t σ H fun c H1 => if c = true then Q true H1 else u σ H1 Q
noncomputable def tNot (t : TT) : TT := fun σ H Q => t σ H fun c H1 => Q (!c) H1
theorem pw_and1 (ha : PT X a tA) : PW X (.BoolOp .And [a] pos) tA := by
  intro wh pins s σ H Q I h
  refine isTrue_and (thn (ha pins s σ H Q I h) fun c s1 e => ?_)
  cases c with
  | true => exact isTrue_and_nil e
  | false => exact e
theorem pw_or1 (ha : PT X a tA) : PW X (.BoolOp .Or [a] pos) tA := by
  intro wh pins s σ H Q I h
  refine isTrue_or (thn (ha pins s σ H Q I h) fun c s1 e => ?_)
  cases c with
  | false => exact isTrue_or_nil e
  | true => exact e
theorem pw_and (ha : PT X a tA) (hb : PW X (.BoolOp .And (b :: rest) pos) tB') : PW X (.BoolOp .And (a :: b :: rest) pos) (tAnd tA tB') := by
  intro wh pins s σ H Q I h
  refine isTrue_and (thn (ha pins s σ H _ I h) fun c s1 ⟨H1, I1, q1⟩ => ?_)
  cases c with
  | true => exact hb wh pins s1 σ H1 Q I1 q1
  | false => exact ⟨H1, I1, q1⟩
theorem pw_or (ha : PT X a tA) (hb : PW X (.BoolOp .Or (b :: rest) pos) tB') : PW X (.BoolOp .Or (a :: b :: rest) pos) (tOr tA tB') := by
  intro wh pins s σ H Q I h
  refine isTrue_or (thn (ha pins s σ H _ I h) fun c s1 ⟨H1, I1, q1⟩ => ?_)
  cases c with
  | true => exact ⟨H1, I1, q1⟩
  | false => exact hb wh pins s1 σ H1 Q I1 q1
theorem pt_not (ha : PT X a tA) : PT X (.UnaryOp .Not a pos) (tNot tA) := by
  intro pins s σ H Q I h
  exact isTrue_not (ha pins s σ H (fun c H1 => Q (!c) H1) I h)
inductive tAndVR (tb : TE) (σ : St) (Q : VK) (x : V) (H1 : Hp) : Prop
  | mk (c : _) (h0 : x = .bl c) (h1 : if c = true then tb σ H1 Q else Q (.bl false) H1) : tAndVR tb σ Q x H1
noncomputable def tAndV (ta tb : TE) : TE := fun σ H Q => ta σ H fun x H1 => tAndVR tb σ Q x H1
inductive tNotVR  (Q : VK) (x : V) (H1 : Hp) : Prop
  | mk (c : _) (h0 : x = .bl c) (h1 : Q (.bl (!c)) H1) : tNotVR Q x H1
noncomputable def tNotV (ta : TE) : TE := fun σ H Q => ta σ H fun x H1 => tNotVR Q x H1
theorem pe_one {op} {t : TE} (h : PE X a t) : PE X (.BoolOp op [a] pos) t := fun pins s σ H Q I hw => BoolOp_one (h pins s σ H Q I hw)
theorem pe_and (ha : PE X a ta) (hb : PE X (.BoolOp .And (b :: rest) pos) tb) : PE X (.BoolOp .And (a :: b :: rest) pos) (tAndV ta tb) := by
  intro pins s σ H Q I h
  refine BoolOp_and (thn (ha pins s σ H _ I h) fun v s1 ⟨x, H1, I1, r1, q1⟩ => ?_)
  obtain ⟨c, rfl, q1⟩ := q1
  cases r1
  refine wpAny_truthy_bool ?_
  cases c with
  | true => exact hb pins s1 σ H1 Q I1 q1
  | false => exact ⟨.bl false, H1, I1, rfl, q1⟩
theorem pe_not (ha : PE X a ta) : PE X (.UnaryOp .Not a pos) (tNotV ta) := by
  intro pins s σ H Q I h
  refine UnaryOp_ (thn (ha pins s σ H _ I h) fun v s1 ⟨x, H1, I1, r1, q1⟩ => ?_)
  obtain ⟨c, rfl, q1⟩ := q1
  cases r1
  exact not_of (wpAny_truthy_bool ⟨.bl (!c), H1, I1, rfl, q1⟩)
noncomputable def tIf (t : TT) (ta tb : TE) : TE := fun σ H Q => t σ H fun c H1 => if c = true then ta σ H1 Q else tb σ H1 Q
theorem pe_ifExp {c : Expr} (hc : PT X c tA) (ha : PE X a ta) (hb : PE X b tb) : PE X (.IfExp c a b pos) (tIf tA ta tb) := by
  intro pins s σ H Q I h
  refine wpAny_IfExp (thn (hc pins s σ H _ I h) fun d s1 ⟨H1, I1, q1⟩ => ?_)
  cases d with
  | true => exact ha pins s1 σ H1 Q I1 q1
  | false => exact hb pins s1 σ H1 Q I1 q1
end
end L2
namespace L2
open PySem PySem.Spec PyProof.Rows
noncomputable def SqL (K : PySem.W.Frag) (H : Hp) (a : Addr) (xs : List V) : Prop :=
  Rd H a (.lst xs) ∨
    ∃ (o : Obj) (its : Array Value) (n : Nat), K.lookup a = some o ∧ o.cls = .type "list" ∧ o.dict = none ∧ o.data = .seq its n ∧ its.size ≤ sizeLine ∧ Vals xs its.toList
noncomputable def SqT (K : PySem.W.Frag) (H : Hp) (a : Addr) (xs : List V) : Prop :=
  Rd H a (.tup xs) ∨
    ∃ (o : Obj) (its : Array Value) (n : Nat), K.lookup a = some o ∧ o.cls = .type "tuple" ∧ o.data = .seq its n ∧ its.size ≤ sizeLine ∧ Vals xs its.toList
noncomputable def absV : Value → Option V
  | .none => some .non
  | .bool b => some (.bl b)
  | .int i _ => some (.int i)
  | .str x _ => some (.str x)
  | .bytes b _ => some (.byt b)
  | .float b _ => some (.flt b)
  | .ref a => some (.ref a)
  | .type n => some (.ty n)
  | _ => none
theorem RelV.abs {x : V} {u : Value} (r : RelV x u) : absV u = some x := by
  cases x with
  | non => cases r; rfl
  | bl _ => cases r; rfl
  | int _ => obtain ⟨t, rfl⟩ := r; rfl
  | str _ => obtain ⟨t, rfl⟩ := r; rfl
  | byt _ => obtain ⟨t, rfl⟩ := r; rfl
  | flt _ => obtain ⟨t, rfl⟩ := r; rfl
  | ref _ => cases r; rfl
  | ty _ => cases r; rfl
theorem RelV.inj {x y : V} {u : Value} (r : RelV x u) (q : RelV y u) : x = y := Option.some.inj (r.abs.symm.trans q.abs)
theorem Vals.inj : ∀ {xs ys : List V} {us : List Value}, Vals xs us → Vals ys us → xs = ys
  | _, _, _, .nil, .nil => rfl
  | _, _, _, .cons r t, .cons r' t' => by rw [r.inj r', Vals.inj t t']
section
variable {X : Cx} {pins : List (Addr × Obj)} {σ : St} {H : Hp} {s : Shared} {a : Addr} {xs ys : List V}
theorem SqL.of {K : PySem.W.Frag} (h : H a = some (.lst xs)) : SqL K H a xs := .inl (.inl h)
theorem SqT.of {K : PySem.W.Frag} (h : H a = some (.tup xs)) : SqT K H a xs := .inl (.inl h)
theorem Inv.list (I : Inv X pins σ H s) (h : SqL X.K H a xs) : ∃ its : List Value, Vals xs its ∧ PlainL s.heap a its.toArray ∧ xs.length ≤ sizeLine := by
  rcases h with h | ⟨o, its, n, hk, hc, hd, hs, hz, r⟩
  · obtain ⟨z, its, n, r, e⟩ := h.ok I.hok
    exact ⟨its, r, ⟨_, n, e, rfl, rfl, rfl⟩, z⟩
  · refine ⟨its.toList, r, ⟨o, n, I.kIn a o hk, hc, hd, by simpa using hs⟩, ?_⟩
    have e := r.length
    simp only [Array.length_toList] at e
    omega
theorem Inv.tuple (I : Inv X pins σ H s) (h : SqT X.K H a xs) : ∃ its : List Value, Vals xs its ∧ IsTup s.heap a its.toArray ∧ xs.length ≤ sizeLine := by
  rcases h with h | ⟨o, its, n, hk, hc, hs, hz, r⟩
  · obtain ⟨z, its, r, p⟩ := h.ok I.hok
    exact ⟨its, r, p, z⟩
  · refine ⟨its.toList, r, ⟨o, I.kIn a o hk, hc, n, by simpa using hs⟩, ?_⟩
    have e := r.length
    simp only [Array.length_toList] at e
    omega
theorem Inv.list_inj (I : Inv X pins σ H s) (h : SqL X.K H a xs) (h' : SqL X.K H a ys) : xs = ys := by
  obtain ⟨its, r, ⟨o, n, e, _, _, d⟩, _⟩ := I.list h
  obtain ⟨its', r', ⟨o', n', e', _, _, d'⟩, _⟩ := I.list h'
  rw [e] at e'; cases e'
  rw [d] at d'
  injection d' with d1 _
  have : its = its' := by simpa using congrArg Array.toList d1
  subst this
  exact r.inj r'
theorem Inv.tuple_inj (I : Inv X pins σ H s) (h : SqT X.K H a xs) (h' : SqT X.K H a ys) : xs = ys := by
  obtain ⟨its, r, ⟨o, e, _, n, d⟩, _⟩ := I.tuple h
  obtain ⟨its', r', ⟨o', e', _, n', d'⟩, _⟩ := I.tuple h'
  rw [e] at e'; cases e'
  rw [d] at d'
  injection d' with d1 _
  have : its = its' := by simpa using congrArg Array.toList d1
  subst this
  exact r.inj r'
end
noncomputable abbrev Cx.wish (X : Cx) (E : Value → Shared → Prop) : Cx := { X with xe := E }
noncomputable abbrev Cx.nox (X : Cx) : Cx := X.wish fun _ _ => False
theorem Cx.Ok.wish {X : Cx} (ok : X.Ok) (E : Value → Shared → Prop) : (X.wish E).Ok :=
  ⟨ok.mod, ok.kind, ok.glob, ok.blt, ok.above, ok.inj, ok.has, ok.cab, ok.hd, ok.frames, ok.stk, ok.exf, ok.bs, ok.bsz, ok.noex, ok.exfs, ok.funs, ok.frf⟩
theorem Cx.Ok.unwish {X : Cx} {E : Value → Shared → Prop} (ok : (X.wish E).Ok) : X.Ok :=
  ⟨ok.mod, ok.kind, ok.glob, ok.blt, ok.above, ok.inj, ok.has, ok.cab, ok.hd, ok.frames, ok.stk, ok.exf, ok.bs, ok.bsz, ok.noex, ok.exfs, ok.funs, ok.frf⟩
section
variable {X : Cx} {pins : List (Addr × Obj)} {σ : St} {H : Hp} {s : Shared} {E : Value → Shared → Prop}
theorem Inv.wish (I : Inv X pins σ H s) (E : Value → Shared → Prop) : Inv (X.wish E) pins σ H s := ⟨I.ok.wish E, I.os, I.bare, I.base, I.loc, I.cell, I.free, I.freeC, I.pin, I.hok, I.len⟩
theorem Inv.unwish (I : Inv (X.wish E) pins σ H s) : Inv X pins σ H s := ⟨I.ok.unwish, I.os, I.bare, I.base, I.loc, I.cell, I.free, I.freeC, I.pin, I.hok, I.len⟩
theorem SP.unwish {D : Ends} {f : Flow} {s' : Shared} (h : SP (X.wish E) pins D f s') : SP X pins D f s' := by
  cases f with
  | next => obtain ⟨σ', H', I, q⟩ := h; exact ⟨σ', H', I.unwish, q⟩
  | brk => obtain ⟨σ', H', I, q⟩ := h; exact ⟨σ', H', I.unwish, q⟩
  | cont => obtain ⟨σ', H', I, q⟩ := h; exact ⟨σ', H', I.unwish, q⟩
  | ret u => obtain ⟨v, σ', H', I, r, q⟩ := h; exact ⟨v, σ', H', I.unwish, r, q⟩
theorem PSs.nox {st : List Stmt} {t : TS} (h : PSs X.nox st t) : PSs X st t := fun pins s σ H D I hw =>
  wpAny_mono (h pins s σ H D (I.wish _) hw) (fun _ _ q => q.unwish) fun _ _ z => False.elim z
end
section
variable {X : Cx} {st : Stmt} {rest : List Stmt} {t u : TS} {e : Expr} {te : TE} {pos : Pos}
noncomputable def tNext : TS := fun D σ H => D.nx σ H
noncomputable def tSeq (t u : TS) : TS := fun D σ H => t { D with nx := u D } σ H
theorem pss_nil : PSs X [] tNext := fun _ _ σ H _ I h => wpAny_execs_nil ⟨σ, H, I, h⟩
theorem pss_cons (h1 : PS X st t) (h2 : PSs X rest u) : PSs X (st :: rest) (tSeq t u) := by
  intro pins s σ H D I h
  refine wpAny_execs_cons (thn (h1 pins s σ H { D with nx := u D } I h) fun f s1 q => ?_)
  cases f with
  | next =>
    obtain ⟨σ', H', I', q⟩ := q
    exact h2 pins s1 σ' H' D I' q
  | ret v => exact q
  | brk => exact q
  | cont => exact q
theorem pss_one (h1 : PS X st t) : PSs X [st] t := by
  intro pins s σ H D I h
  refine wpAny_execs_cons (thn (h1 pins s σ H D I h) fun f s1 q => ?_)
  cases f with
  | next => exact wpAny_execs_nil q
  | ret v => exact q
  | brk => exact q
  | cont => exact q
theorem Inv.quiet {pins : List (Addr × Obj)} {σ : St} {H : Hp} {s : Shared} (I : Inv X pins σ H s) : interactive X.env = false := by simp [interactive, I.ok.kind]
noncomputable def tDrop (te : TE) : TS := fun D σ H => te σ H fun _ H1 => D.nx σ H1
theorem ps_expr (he : PE X e te) (hs : swapsWith e none pos.line X.env = pure false := by rfl) : PS X (.Expr e pos) (tDrop te) := by
  intro pins s σ H D I h
  exact wpAny_Expr_any (thn (he pins s σ H _ I h) fun v s1 ⟨x, H1, I1, r1, q1⟩ => ⟨σ, H1, I1, q1⟩) I.quiet hs
noncomputable def tRet (te : TE) : TS := fun D σ H => te σ H D.rt
theorem ps_ret (he : PE X e te) : PS X (.Return (some e) pos) (tRet te) := by
  intro pins s σ H D I h
  exact wpAny_Return_some (thn (he pins s σ H _ I h) fun v s1 ⟨x, H1, I1, r1, q1⟩ => ⟨x, σ, H1, I1, r1, q1⟩)
noncomputable def tIfS (c : TT) (t u : TS) : TS := fun D σ H => c σ H fun b H1 => if b = true then t D σ H1 else u D σ H1
theorem ps_if {c : Expr} {a b : List Stmt} {tc : TT} (hc : PT X c tc) (ha : PSs X a t) (hb : PSs X b u) : PS X (.If c a b pos) (tIfS tc t u) := by
  intro pins s σ H D I h
  refine wpAny_If (thn (hc pins s σ H _ I h) fun d s1 ⟨H1, I1, q1⟩ => ?_)
  cases d with
  | true => exact ha pins s1 σ H1 D I1 q1
  | false => exact hb pins s1 σ H1 D I1 q1
end
noncomputable abbrev TG := V → St → Hp → (St → Hp → Prop) → Prop
noncomputable abbrev TGs := List V → St → Hp → (St → Hp → Prop) → Prop
noncomputable def PG (X : Cx) (target : Expr) (t : TG) : Prop :=
  ∀ (pins : List (Addr × Obj)) (s : Shared) (σ : St) (H : Hp) (v : V) (u : Value) (Q : St → Hp → Prop), Inv X pins σ H s → RelV v u → t v σ H Q →
    wpAny (model X.prog X.w) X.A (assign target X.env u) (fun _ s' => ∃ σ' H', Inv X pins σ' H' s' ∧ Q σ' H') X.xe s
noncomputable def PGs (X : Cx) (ts : List Expr) (t : TGs) : Prop :=
  ∀ (pins : List (Addr × Obj)) (s : Shared) (σ : St) (H : Hp) (vs : List V) (us : List Value) (Q : St → Hp → Prop), Inv X pins σ H s → Vals vs us → t vs σ H Q →
    wpAny (model X.prog X.w) X.A (assignInOrder ((assignEach ts X.env).map (·.2)) us) (fun _ s' => ∃ σ' H', Inv X pins σ' H' s' ∧ Q σ' H') X.xe s
section
variable {X : Cx} {pos : Pos}
noncomputable def gName (i : Nat) : TG := fun v σ H Q => Q (σ.set i (some v)) H
theorem pg_name {i : Nat} {x : Str} (hN : X.N.Nodup) (hi : X.N[i]? = some x) (hx : Loc X.env.scope x) (hf : X.fn x = true ∨ X.env.scope.names.lookup x = some .local := by first | exact .inl rfl | exact .inr rfl | assumption) : PG X (.Name x pos) (gName i) := by
  intro pins s σ H v u Q I r h
  exact wpAny_assign_Name (store_ok I hN hi hx r (fun s' I' => ⟨_, H, I', h⟩) hf)
noncomputable def gNil : TGs := fun vs σ H Q => vs = [] ∧ Q σ H
noncomputable def gCons (t : TG) (u : TGs) : TGs := fun vs σ H Q => ∃ v r, vs = v :: r ∧ t v σ H fun σ' H' => u r σ' H' Q
theorem pgs_nil : PGs X [] gNil := by
  intro pins s σ H vs us Q I r h
  obtain ⟨e, h⟩ := h
  subst e
  cases r
  exact assignInOrder_nil ⟨σ, H, I, h⟩
theorem pgs_cons {e : Expr} {es : List Expr} {t : TG} {u : TGs} (h1 : PG X e t) (h2 : PGs X es u)
    (hs : (assignEach (e :: es) X.env).map (·.2) = assign e X.env :: (assignEach es X.env).map (·.2) := by rfl) : PGs X (e :: es) (gCons t u) := by
  intro pins s σ H vs us Q I r h
  obtain ⟨v, vr, e1, h⟩ := h
  subst e1
  cases r with
  | cons r rr =>
    rw [hs]
    refine assignInOrder_cons (thn (h1 pins s σ H _ _ _ I r h) fun _ s1 ⟨σ1, H1, I1, q1⟩ => ?_)
    exact h2 pins s1 σ1 H1 _ _ Q I1 rr q1
noncomputable def gTup (K : PySem.W.Frag) (n : Nat) (t : TGs) : TG := fun v σ H Q => ∃ a xs, v = .ref a ∧ SqT K H a xs ∧ xs.length = n ∧ t xs σ H Q
theorem pg_tup {es : List Expr} {k : Nat} {t : TGs} {n : Nat} (hc : X.calm = true) (h : PGs X es t)
    (hn : (assignEach es X.env).length = n := by rfl) (hst : (assignEach es X.env).findIdx? (·.1) = none := by rfl) : PG X (.Tuple es k pos) (gTup X.K n t) := by
  intro pins s σ H v u Q I r hw
  obtain ⟨a, xs, e1, hq, hl, hw⟩ := hw
  subst e1
  cases r
  obtain ⟨its, rv, ht, hz⟩ := I.tuple hq
  refine assign_Tuple_tuple (I.ok.hd hc) ht (by simp [hn, ← hl, rv.length]) hst fun h' hx => ?_
  have I1 : Inv X pins σ H { s with heap := h' } := I.kept (t' := s.toks) fun b o e => hx b o (Nat.ne_of_lt (Heap.lt_size e)) e
  exact h pins _ σ H xs _ Q I1 (by simpa using rv) hw
noncomputable def tAsg (te : TE) (g : TG) : TS := fun D σ H => te σ H fun x H1 => g x σ H1 D.nx
theorem ps_set {i : Nat} {x : Str} {e : Expr} {te : TE} {pos' : Pos} (hN : X.N.Nodup) (hi : X.N[i]? = some x) (hx : Loc X.env.scope x) (he : PE X e te) (hs : swapsWith e (some (.Name x pos')) pos.line X.env = pure false := by rfl) (hf : X.fn x = true ∨ X.env.scope.names.lookup x = some .local := by first | exact .inl rfl | exact .inr rfl | assumption) :
    PS X (.Assign [.Name x pos'] e pos) (tAsg te (gName i)) := by
  intro pins s σ H D I h
  refine wpAny_Assign_Name (thn (he pins s σ H _ I h) fun v s1 ⟨y, H1, I1, r1, q1⟩ => ?_) hs
  exact store_ok I1 hN hi hx r1 (fun s2 I2 => ⟨_, H1, I2, q1⟩) hf
end
section
variable {X : Cx} {pos : Pos}
noncomputable def tWhile (c : TT) (tb : TS) : TS := fun D σ H => ∃ W : Nat → St → Hp → Prop, (∃ m, W m σ H) ∧ ∀ m σ H, W m σ H →
  c σ H fun b H1 => if b = true then ∃ N : St → Hp → Prop, (∀ σ' H', N σ' H' → ∃ m', m' < m ∧ W m' σ' H') ∧ tb { D with nx := N, ct := N, bk := D.nx } σ H1 else D.nx σ H1
theorem ps_while {c : Expr} {body : List Stmt} {tc : TT} {tb : TS} (hp : PassesOwn (model X.prog X.w) X.A X.env X.xe) (hc : PT X c tc) (hb : PSs X body tb) : PS X (.While c body [] pos) (tWhile tc tb) := by
  intro pins s σ H D I h
  obtain ⟨W, ⟨m0, w0⟩, turn⟩ := h
  refine wpAny_While (codeAny_whileLoop (fun n s' => ∃ σ' H', Inv X pins σ' H' s' ∧ W n σ' H') ?_ m0 ⟨σ, H, I, w0⟩)
  rintro n s1 ⟨σ1, H1, I1, w1⟩
  refine wpAny_passesOwn hp (thn (hc pins s1 σ1 H1 _ I1 (turn n σ1 H1 w1)) fun b s2 ⟨H2, I2, q2⟩ => ?_)
  cases b with
  | true =>
    obtain ⟨N, hN, q2⟩ := q2
    rw [if_pos rfl]
    refine wpAny_passesOwn hp (thn (hb pins s2 σ1 H2 _ I2 q2) fun f s3 q3 => ?_)
    cases f with
    | next =>
      obtain ⟨σ3, H3, I3, n3⟩ := q3
      obtain ⟨m', hm, w3⟩ := hN σ3 H3 n3
      exact ⟨m', hm, σ3, H3, I3, w3⟩
    | cont =>
      obtain ⟨σ3, H3, I3, n3⟩ := q3
      obtain ⟨m', hm, w3⟩ := hN σ3 H3 n3
      exact ⟨m', hm, σ3, H3, I3, w3⟩
    | brk => exact q3
    | ret v => exact q3
  | false =>
    rw [if_neg Bool.false_ne_true]
    exact wpAny_execs_nil ⟨σ1, H2, I2, q2⟩
end
structure It where
  go : Nat → Hp → Prop
  yld : Nat → Hp → V → Hp → Prop
  stop : Nat → Hp → Prop
noncomputable def FpOk (X : Cx) (pins : List (Addr × Obj)) (H : Hp) (b : Addr) : Prop :=
  H b = none ∧ b ≠ X.env.locals ∧ b ∉ X.fs ∧ (b ∈ X.ex ∨ X.s₀.heap.objs.size ≤ b) ∧ (∀ x c, X.env.cells.lookup x = some c → c ≠ b) ∧ ∀ p ∈ X.pn ++ pins, p.1 ≠ b
theorem Inv.fpOk {X : Cx} {pins : List (Addr × Obj)} {σ : St} {H H' : Hp} {s : Shared} {b : Addr} (I : Inv X pins σ H s) (hb : s.heap.objs.size ≤ b) (hn : H' b = none) : FpOk X pins H' b := by
  refine ⟨hn, Nat.ne_of_gt (Nat.lt_of_lt_of_le I.lt hb), I.nofs hb, .inr (Nat.le_trans I.sz hb), fun x c e z => ?_, fun p hp z => ?_⟩
  · obtain ⟨v, q⟩ := I.cell x c e
    exact absurd (Nat.lt_of_lt_of_le q.lt (by rw [z]; exact hb)) (Nat.lt_irrefl _)
  · exact absurd (Nat.lt_of_lt_of_le (Heap.lt_size (I.pin p hp).1) (by rw [z]; exact hb)) (Nat.lt_irrefl _)
structure Turn (P : Program) (w : World) (K : PySem.W.Frag) (tg : Expr) (J : It) (fp : List Addr) (it : Addr) (tn : Nat → Heap → Prop) : Prop where
  mem : it ∈ fp
  obj : ∀ i h, tn i h → ∀ b ∈ fp, ∃ o, h.get? b = some o ∧ ∀ v, o.data ≠ .cell v
  keep : ∀ i h h', tn i h → (∀ b ∈ fp, ∀ o, h.get? b = some o → h'.get? b = some o) → tn i h'
  item : ∀ (X : Cx), X.prog = P → X.w = w → X.K = K → X.calm = true → ∀ (i : Nat) (pins : List (Addr × Obj)) (s : Shared) (σ : St) (H : Hp) (E : Value → Shared → Prop), Inv X pins σ H s → (∀ b ∈ fp, FpOk X pins H b) → tn i s.heap → J.go i H →
    wpAny (model P w) X.A (pyNext (.ref it)) (fun r s1 => ∃ u, r = some u ∧
      wpAny (model P w) X.A (letOwnedTupleGo tg (.ref it) u) (fun _ s2 => ∃ x H', Inv X pins σ H' s2 ∧ RelV x u ∧ J.yld i H x H' ∧ tn (i + 1) s2.heap ∧ ∀ b ∈ fp, H' b = none) E s1) E s
  done : ∀ (X : Cx), X.prog = P → X.w = w → X.K = K → X.calm = true → ∀ (i : Nat) (pins : List (Addr × Obj)) (s : Shared) (σ : St) (H : Hp) (E : Value → Shared → Prop), Inv X pins σ H s → (∀ b ∈ fp, FpOk X pins H b) → tn i s.heap → J.stop i H →
    wpAny (model P w) X.A (pyNext (.ref it)) (fun r s1 => r = none ∧ Inv X pins σ H s1) E s
  self : ∀ (A : Around) (i : Nat) (s : Shared) (Q : Value → Shared → Prop) (E : Value → Shared → Prop), tn i s.heap → Q (.ref it) s → wpAny (model P w) A (pyIter (.ref it)) Q E s
noncomputable abbrev TI := St → Hp → (It → Hp → Prop) → Prop
noncomputable def PIE (X : Cx) (pins : List (Addr × Obj)) (σ : St) (tg : Expr) (R : It → Hp → Prop) (itv : Value) (s2 : Shared) : Prop :=
  ∃ (it : Addr) (fp : List Addr) (tn : Nat → Heap → Prop) (J : It) (H' : Hp), itv = .ref it ∧ Inv X pins σ H' s2 ∧ Turn X.prog X.w X.K tg J fp it tn ∧ tn 0 s2.heap ∧ (∀ b ∈ fp, FpOk X pins H' b) ∧ R J H'
noncomputable def PI (X : Cx) (tg iter : Expr) (wi : TI) : Prop :=
  ∀ (pins : List (Addr × Obj)) (s : Shared) (σ : St) (H : Hp) (R : It → Hp → Prop), Inv X pins σ H s → wi σ H R →
    wpAny (model X.prog X.w) X.A (eval iter X.env) (fun v s1 => wpAny (model X.prog X.w) X.A (pyIter v) (PIE X pins σ tg R) X.xe s1) X.xe s
theorem go_of {M : Model} {A : Around} {E : Value → Shared → Prop} {s : Shared} {tg : Expr} {it : Addr} {u : Value} {o : Obj} {n : String} {vs : Array Value} {Q : Unit → Shared → Prop} (ho : s.heap.get? it = some o) (hc : o.cls = .type n) (hd : o.data = .fields vs)
    (hn : ["enumerate", "zip", "dict_itemiterator", "dict_reverseitemiterator", "odict_iterator", "itertools.zip_longest", "itertools.pairwise"].contains n = false) (hQ : Q () s) : wpAny M A (letOwnedTupleGo tg (.ref it) u) Q E s := by
  unfold letOwnedTupleGo
  cases tg <;> first
    | exact wpAny_pure hQ
    | (cases u <;> first
        | exact wpAny_pure hQ
        | (refine wpAny_bind (wpAny_load ho ?_)
           rw [hc, hd]
           show wpAny M A (if (["enumerate", "zip", "dict_itemiterator", "dict_reverseitemiterator", "odict_iterator", "itertools.zip_longest", "itertools.pairwise"].contains n && vs[0]? == some (rawInt _)) = true then _ else _) Q E s
           rw [if_neg (by intro h; rw [hn, Bool.false_and] at h; cases h)]
           exact wpAny_pure hQ))
noncomputable def Itl (K : PySem.W.Frag) (a : Addr) : It :=
  ⟨fun i H => ∃ xs x, SqL K H a xs ∧ xs[i]? = some x, fun i H x H' => H' = H ∧ ∀ xs, SqL K H a xs → xs[i]? = some x, fun i H => ∃ xs, SqL K H a xs ∧ xs.length ≤ i⟩
noncomputable def Itt (K : PySem.W.Frag) (a : Addr) : It :=
  ⟨fun i H => ∃ xs x, SqT K H a xs ∧ xs[i]? = some x, fun i H x H' => H' = H ∧ ∀ xs, SqT K H a xs → xs[i]? = some x, fun i H => ∃ xs, SqT K H a xs ∧ xs.length ≤ i⟩
noncomputable def Itr (lo : Int) (n : Nat) : It := ⟨fun i _ => i < n, fun i H x H' => H' = H ∧ x = .int (lo + i), fun i _ => n ≤ i⟩
theorem turn_list {P : Program} {w : World} {K : PySem.W.Frag} {tg : Expr} (a it : Addr) : Turn P w K tg (Itl K a) [it] it (fun i h => h.IsListIter it a i) where
  mem := by simp
  obj := fun i h st b hb => by
    have e : b = it := by simpa using hb
    subst e
    obtain ⟨o, e, c, d⟩ := st
    exact ⟨o, e, fun v z => by rw [d] at z; cases z⟩
  keep := fun i h h' st k => st.at fun o e => k it (by simp) o e
  item := by
    intro X hP hw hK hc i pins s σ H E I hf st hg
    subst hP hw hK
    obtain ⟨xs, x, hq, hx⟩ := hg
    obtain ⟨its, rv, p, hz⟩ := I.list hq
    obtain ⟨u, hu, ru⟩ := rv.get hx
    obtain ⟨f0, f1, f2, f3, f4, f5⟩ := hf it (by simp)
    refine wpAny_pyNext_list_item st p.isList (x := u) (by simpa using hu) fun h' st' sb => ?_
    have I1 : Inv X pins σ H { s with heap := h' } := I.turned (t' := s.toks) (fun b o hb e => (sb.2 b hb).trans e) f0 f1 f3 f4 f5
    obtain ⟨o, e, c, d⟩ := id st'
    exact ⟨u, rfl, go_of (s := { s with heap := h' }) e c d (by decide) ⟨x, H, I1, ru, ⟨rfl, fun ys hy => by rw [I.list_inj hy hq]; exact hx⟩, st', fun b hb => (hf b hb).1⟩⟩
  done := by
    intro X hP hw hK hc i pins s σ H E I hf st hg
    subst hP hw hK
    obtain ⟨xs, hq, hx⟩ := hg
    obtain ⟨its, rv, p, hz⟩ := I.list hq
    obtain ⟨f0, f1, f2, f3, f4, f5⟩ := hf it (by simp)
    have hl := rv.length
    exact wpAny_pyNext_list_end (I.ok.hd hc) st p.isList (by simp; omega) fun h' eb => ⟨rfl, I.turned (t' := s.toks) (fun b o hb e => eb b o hb e) f0 f1 f3 f4 f5⟩
  self := fun _ _ _ _ _ st h => wpAny_pyIter_listiter st h
theorem turn_tuple {P : Program} {w : World} {K : PySem.W.Frag} {tg : Expr} (a it : Addr) : Turn P w K tg (Itt K a) [it] it (fun i h => h.IsTupleIter it a i) where
  mem := by simp
  obj := fun i h st b hb => by
    have e : b = it := by simpa using hb
    subst e
    obtain ⟨o, e, c, d⟩ := st
    exact ⟨o, e, fun v z => by rw [d] at z; cases z⟩
  keep := fun i h h' st k => st.at fun o e => k it (by simp) o e
  item := by
    intro X hP hw hK hc i pins s σ H E I hf st hg
    subst hP hw hK
    obtain ⟨xs, x, hq, hx⟩ := hg
    obtain ⟨its, rv, p, hz⟩ := I.tuple hq
    obtain ⟨u, hu, ru⟩ := rv.get hx
    obtain ⟨f0, f1, f2, f3, f4, f5⟩ := hf it (by simp)
    refine wpAny_pyNext_tuple_item st (show s.heap.IsTuple a its.toArray from p) (x := u) (by simpa using hu) fun h' st' sb => ?_
    have I1 : Inv X pins σ H { s with heap := h' } := I.turned (t' := s.toks) (fun b o hb e => (sb.2 b hb).trans e) f0 f1 f3 f4 f5
    obtain ⟨o, e, c, d⟩ := id st'
    exact ⟨u, rfl, go_of (s := { s with heap := h' }) e c d (by decide) ⟨x, H, I1, ru, ⟨rfl, fun ys hy => by rw [I.tuple_inj hy hq]; exact hx⟩, st', fun b hb => (hf b hb).1⟩⟩
  done := by
    intro X hP hw hK hc i pins s σ H E I hf st hg
    subst hP hw hK
    obtain ⟨xs, hq, hx⟩ := hg
    obtain ⟨its, rv, p, hz⟩ := I.tuple hq
    obtain ⟨f0, f1, f2, f3, f4, f5⟩ := hf it (by simp)
    have hl := rv.length
    exact wpAny_pyNext_tuple_end (I.ok.hd hc) st (show s.heap.IsTuple a its.toArray from p) (by simp; omega) fun h' eb => ⟨rfl, I.turned (t' := s.toks) (fun b o hb e => eb b o hb e) f0 f1 f3 f4 f5⟩
  self := fun _ _ _ _ _ st h => wpAny_pyIter_tupleiter st h
theorem turn_range {P : Program} {w : World} {K : PySem.W.Frag} {tg : Expr} (it : Addr) (lo : Int) (n : Nat) : Turn P w K tg (Itr lo n) [it] it (fun i h => IsRangeIter h it (lo + (i : Nat) * 1) ((n : Int) - (i : Nat)) 1) where
  mem := by simp
  obj := fun i h st b hb => by
    have e : b = it := by simpa using hb
    subst e
    exact ⟨_, st, fun v z => by
      have z' : Data.fields _ = Data.cell v := z
      cases z'⟩
  keep := fun i h h' st k => k it (by simp) _ st
  item := by
    intro X hP hw hK hc i pins s σ H E I hf st hg
    subst hP hw hK
    obtain ⟨f0, f1, f2, f3, f4, f5⟩ := hf it (by simp)
    have W := Walks.range (prog := X.prog) (w := X.w) (I.ok.hd hc) it lo 1 n
    refine W.item i s _ _ hg st fun v h' tk hv st' kk => ?_
    obtain ⟨t, rfl⟩ := hv
    have I1 : Inv X pins σ H { s with heap := h', toks := tk } := I.turned (fun b o hb e => kk b o (by simpa using hb) e) f0 f1 f3 f4 f5
    refine ⟨_, rfl, go_of (s := { s with heap := h', toks := tk }) (n := "range_iterator") st' rfl rfl (by decide) ⟨.int (lo + i), H, I1, ⟨t, ?_⟩, ⟨rfl, rfl⟩, st', fun b hb => (hf b hb).1⟩⟩
    rw [Int.mul_one]
  done := by
    intro X hP hw hK hc i pins s σ H E I hf st hg
    subst hP hw hK
    obtain ⟨f0, f1, f2, f3, f4, f5⟩ := hf it (by simp)
    exact wpAny_pyNext_range_end (I.ok.hd hc) st (by have : n ≤ i := hg; omega) fun h' eb => ⟨rfl, I.turned (t' := s.toks) (fun b o hb e => eb b o hb e) f0 f1 f3 f4 f5⟩
  self := fun _ _ _ _ _ st h => wpAny_pyIter_rangeiter st h
end L2
namespace L2
open PySem PySem.Spec PyProof.Rows
section
variable {X : Cx} {tg : Expr}
noncomputable def iList (K : PySem.W.Frag) (tl : TE) : TI := fun σ H R => tl σ H fun x H1 => ∃ a, x = .ref a ∧ (∃ xs, SqL K H1 a xs) ∧ R (Itl K a) H1
noncomputable def iTup (K : PySem.W.Frag) (tl : TE) : TI := fun σ H R => tl σ H fun x H1 => ∃ a, x = .ref a ∧ (∃ xs, SqT K H1 a xs) ∧ R (Itt K a) H1
theorem pi_list {l : Expr} {tl : TE} (hl : PE X l tl) : PI X tg l (iList X.K tl) := by
  intro pins s σ H R I h
  refine thn (hl pins s σ H _ I h) fun v s1 ⟨x, H1, I1, r1, q1⟩ => ?_
  obtain ⟨a, e, ⟨xs, hq⟩, q⟩ := q1
  subst e
  cases r1
  obtain ⟨its, rv, p, hz⟩ := I1.list hq
  refine wpAny_pyIter_list p.isList ?_
  refine ⟨s1.heap.objs.size, [s1.heap.objs.size], _, _, H1, rfl, I1.kept (t' := s1.toks) fun b o e => Heap.get?_push_of_some _ e, turn_list a _, ⟨_, Heap.get?_push_size _ rfl, rfl, rfl⟩, fun b hb => ?_, q⟩
  have e : b = s1.heap.objs.size := by simpa using hb
  subst e
  exact I1.fpOk (Nat.le_refl _) (I1.hok.fresh (Nat.le_refl _))
theorem pi_tup {l : Expr} {tl : TE} (hl : PE X l tl) : PI X tg l (iTup X.K tl) := by
  intro pins s σ H R I h
  refine thn (hl pins s σ H _ I h) fun v s1 ⟨x, H1, I1, r1, q1⟩ => ?_
  obtain ⟨a, e, ⟨xs, hq⟩, q⟩ := q1
  subst e
  cases r1
  obtain ⟨its, rv, p, hz⟩ := I1.tuple hq
  refine wpAny_pyIter_tuple (show s1.heap.IsTuple a its.toArray from p) ?_
  refine ⟨s1.heap.objs.size, [s1.heap.objs.size], _, _, H1, rfl, I1.kept (t' := s1.toks) fun b o e => Heap.get?_push_of_some _ e, turn_tuple a _, ⟨_, Heap.get?_push_size _ rfl, rfl, rfl⟩, fun b hb => ?_, q⟩
  have e : b = s1.heap.objs.size := by simpa using hb
  subst e
  exact I1.fpOk (Nat.le_refl _) (I1.hok.fresh (Nat.le_refl _))
theorem range_it {pins : List (Addr × Obj)} {σ : St} {H : Hp} {s : Shared} {R : It → Hp → Prop} {E : Value → Shared → Prop} {lo hi : Int} {t u v : Tok} {tk : Nat} (I : Inv X pins σ H s) (h1 : -(2 ^ 62) ≤ lo) (h2 : lo < 2 ^ 62) (h3 : -(2 ^ 62) ≤ hi) (h4 : hi < 2 ^ 62)
    (q : R (Itr lo (hi - lo).toNat) H) : wpAny (model X.prog X.w) X.A (pyIter (.ref s.heap.objs.size)) (PIE X pins σ tg R) E { s with heap := s.heap.push { cls := .type "range", data := .fields #[.int lo t, .int hi u, .int 1 v] }, toks := tk } := by
  refine wpAny_pyIter_range (IsRange.new ..) (small_one h1 h2 h3 h4) ?_
  have I1 : Inv X pins σ H { s with heap := s.heap.push { cls := .type "range", data := .fields #[.int lo t, .int hi u, .int 1 v] }, toks := tk } := I.kept fun b o e => Heap.get?_push_of_some _ e
  refine ⟨(s.heap.push { cls := .type "range", data := .fields #[.int lo t, .int hi u, .int 1 v] }).objs.size, [(s.heap.push { cls := .type "range", data := .fields #[.int lo t, .int hi u, .int 1 v] }).objs.size], _, _, H, rfl,
    I1.kept (t' := tk) fun b o e => Heap.get?_push_of_some _ e, turn_range _ lo (hi - lo).toNat, ?_, fun b hb => ?_, q⟩
  · have e1 : lo + ((0 : Nat) : Int) * 1 = lo := by simp
    have e2 : (((hi - lo).toNat : Nat) : Int) - ((0 : Nat) : Int) = Builtin.Range.rangeSize lo hi 1 := by rw [rangeSize_one]; split <;> omega
    show IsRangeIter _ _ (lo + ((0 : Nat) : Int) * 1) ((((hi - lo).toNat : Nat) : Int) - ((0 : Nat) : Int)) 1
    rw [e1, e2]
    exact Heap.get?_push_size _ rfl
  · have e : b = (s.heap.push { cls := .type "range", data := .fields #[.int lo t, .int hi u, .int 1 v] }).objs.size := by simpa using hb
    subst e
    exact I1.fpOk (Nat.le_refl _) (I1.hok.fresh (Nat.le_refl _))
noncomputable def iRng1 (ta : TA) : TI := fun σ H R => ta σ H fun vs H1 => ∃ j : Int, vs = [.int j] ∧ -(2 ^ 62) ≤ j ∧ j < 2 ^ 62 ∧ R (Itr 0 j.toNat) H1
noncomputable def iRng2 (ta : TA) : TI := fun σ H R => ta σ H fun vs H1 => ∃ i j : Int, vs = [.int i, .int j] ∧ (-(2 ^ 62) ≤ i ∧ i < 2 ^ 62 ∧ -(2 ^ 62) ≤ j ∧ j < 2 ^ 62) ∧ R (Itr i (j - i).toNat) H1
theorem pi_range1 {a : Expr} {ta : TA} {p pos : Pos} (hg : Gl X "range") (hm : X.mg "range" = none) (ha : PA X [a] ta) (hs : starEach [a] X.env = [(false, eval a X.env)] := by rfl) : PI X tg (.Call (.Name "range" p) [a] [] pos) (iRng1 ta) := by
  intro pins s σ H R I h
  refine Call_ (ld_blt I hg hm boot_range (PyProof.Rows.callWith_type1 (thn (ha pos pins s σ H _ I h) fun us s1 ⟨vs, H1, I1, r1, q1⟩ => ?_) hs rfl))
  obtain ⟨j, e, q1, q2, q⟩ := q1
  subst e
  cases r1 with
  | cons r rr =>
    cases rr
    obtain ⟨t, rfl⟩ := r
    exact call_range_1 (range_it I1 (by omega) (by omega) q1 q2 (by simpa using q))
theorem pi_range2 {a b : Expr} {ta : TA} {p pos : Pos} (hg : Gl X "range") (hm : X.mg "range" = none) (ha : PA X [a, b] ta) (hs : starEach [a, b] X.env = [(false, eval a X.env), (false, eval b X.env)] := by rfl) (hs2 : starEach [b] X.env = [(false, eval b X.env)] := by rfl) :
    PI X tg (.Call (.Name "range" p) [a, b] [] pos) (iRng2 ta) := by
  intro pins s σ H R I h
  refine Call_ (ld_blt I hg hm boot_range (PyProof.Rows.callWith_type1 (thn (ha pos pins s σ H _ I h) fun us s1 ⟨vs, H1, I1, r1, q1⟩ => ?_) (by rw [hs, hs2]) (by rw [hs2]; rfl)))
  obtain ⟨i, j, e, ⟨q1, q2, q3, q4⟩, q⟩ := q1
  subst e
  cases r1 with
  | cons r rr =>
    cases rr with
    | cons r' rr =>
      cases rr
      obtain ⟨t, rfl⟩ := r
      obtain ⟨t', rfl⟩ := r'
      exact call_range_2 (range_it I1 q1 q2 q3 q4 q)
noncomputable def tFor (wi : TI) (g : TG) (tb : TS) : TS := fun D σ H => wi σ H fun J H1 => ∃ W : Nat → Nat → St → Hp → Prop, (∃ m, W 0 m σ H1) ∧ ∀ i m σ H, W i m σ H →
  (J.stop i H ∧ D.nx σ H) ∨ (J.go i H ∧ ∃ N : St → Hp → Prop, (∀ σ' H', N σ' H' → ∃ m', m' < m ∧ W (i + 1) m' σ' H') ∧ ∀ x H', J.yld i H x H' → g x σ H' fun σ2 H2 => tb { D with nx := N, ct := N, bk := D.nx } σ2 H2)
noncomputable def pinsAt (fp : List Addr) (h : Heap) : List (Addr × Obj) := fp.filterMap fun b => (h.get? b).map fun o => (b, o)
theorem mem_pinsAt {fp : List Addr} {h : Heap} {b : Addr} {o : Obj} (hb : b ∈ fp) (e : h.get? b = some o) : (b, o) ∈ pinsAt fp h := List.mem_filterMap.mpr ⟨b, hb, by rw [e]; rfl⟩
theorem of_pinsAt {fp : List Addr} {h : Heap} {p : Addr × Obj} (hp : p ∈ pinsAt fp h) : p.1 ∈ fp ∧ h.get? p.1 = some p.2 := by
  obtain ⟨b, hb, e⟩ := List.mem_filterMap.mp hp
  cases q : h.get? b with
  | none => rw [q] at e; cases e
  | some o =>
    rw [q] at e
    have e' : (b, o) = p := Option.some.inj e
    subst e'
    exact ⟨hb, q⟩
theorem Inv.pinned {pins : List (Addr × Obj)} {σ : St} {H : Hp} {s : Shared} {fp : List Addr} (I : Inv X pins σ H s) (hf : ∀ b ∈ fp, FpOk X pins H b) (ho : ∀ b ∈ fp, ∃ o, s.heap.get? b = some o ∧ ∀ v, o.data ≠ .cell v) : Inv X (pins ++ pinsAt fp s.heap) σ H s :=
  I.pins_of fun p hp => (List.mem_append.mp hp).elim (fun z => I.pin p (List.mem_append_right _ z)) fun z => by
    obtain ⟨hb, e⟩ := of_pinsAt z
    obtain ⟨f0, f1, f2, _⟩ := hf p.1 hb
    obtain ⟨o, e', d⟩ := ho p.1 hb
    rw [e] at e'; cases e'
    exact ⟨e, f0, f1, f2, d⟩
theorem Inv.unpinned {pins pl : List (Addr × Obj)} {σ : St} {H : Hp} {s : Shared} (I : Inv X (pins ++ pl) σ H s) : Inv X pins σ H s := I.pins_of fun p hp => I.pin p (List.mem_append_right _ (List.mem_append_left _ hp))
theorem ps_for {iter : Expr} {body : List Stmt} {wi : TI} {g : TG} {tb : TS} {pos : Pos} (hp : PassesOwn (model X.prog X.w) X.A X.env X.xe) (hc : X.calm = true) (hi : PI X tg iter wi) (hg : PG X tg g) (hb : PSs X body tb)
    (hs : ∀ x, foldedSetIterable iter X.env x = pure x := by intro _; rfl) : PS X (.For tg iter body [] pos) (tFor wi g tb) := by
  intro pins s σ H D I h
  refine wpAny_For (thn (hi pins s σ H _ I h) fun v s1 h1 => thn h1 fun itv s2 h2 => ?_) hs
  obtain ⟨it, fp, tn, J, H2, e, I2, T, st2, f2, W, ⟨m0, w0⟩, turn⟩ := h2
  subst e
  have stat : ∀ {H' : Hp}, (∀ b ∈ fp, H' b = none) → ∀ b ∈ fp, FpOk X pins H' b := fun hn b hb => ⟨hn b hb, (f2 b hb).2⟩
  refine codeAny_forLoop_any (fun n s' => ∃ i σ' H', Inv X pins σ' H' s' ∧ tn i s'.heap ∧ (∀ b ∈ fp, H' b = none) ∧ W i n σ' H') ?_ m0 ⟨0, σ, H2, I2, st2, fun b hb => (f2 b hb).1, w0⟩
  rintro n s3 ⟨i, σ3, H3, I3, st3, fr3, w3⟩
  rcases turn i n σ3 H3 w3 with ⟨stop, qn⟩ | ⟨go, N, hN, step⟩
  · refine wpAny_passesOwn hp (thn (T.done X rfl rfl rfl hc i pins s3 σ3 H3 X.xe I3 (stat fr3) st3 stop) fun r s4 ⟨hr, I4⟩ => ?_)
    subst hr
    exact wpAny_execs_nil ⟨σ3, H3, I4, qn⟩
  · refine wpAny_passesOwn hp (thn (T.item X rfl rfl rfl hc i pins s3 σ3 H3 X.xe I3 (stat fr3) st3 go) fun r s4 ⟨u, hr, h4⟩ => ?_)
    subst hr
    refine wpAny_passesOwn hp (thn h4 fun _ s5 ⟨x, H5, I5, r5, y5, st5, fr5⟩ => ?_)
    have I5' := I5.pinned (stat fr5) (T.obj _ _ st5)
    refine wpAny_passesOwn hp (thn (hg _ s5 σ3 H5 x u _ I5' r5 (step x H5 y5)) fun _ s6 ⟨σ6, H6, I6, q6⟩ => ?_)
    refine wpAny_passesOwn hp (thn (hb _ s6 σ6 H6 _ I6 q6) fun f s7 q7 => ?_)
    have again : ∀ {σ7 : St} {H7 : Hp}, Inv X (pins ++ pinsAt fp s5.heap) σ7 H7 s7 → N σ7 H7 → ∃ m, m < n ∧ ∃ i σ' H', Inv X pins σ' H' s7 ∧ tn i s7.heap ∧ (∀ b ∈ fp, H' b = none) ∧ W i m σ' H' := fun {σ7 H7} I7 n7 => by
      obtain ⟨m', hm, w7⟩ := hN σ7 H7 n7
      refine ⟨m', hm, i + 1, σ7, H7, I7.unpinned, T.keep _ _ _ st5 fun b hb o e => (I7.pin (b, o) (List.mem_append_right _ (List.mem_append_right _ (mem_pinsAt hb e)))).1, fun b hb => ?_, w7⟩
      obtain ⟨o, e, d⟩ := T.obj _ _ st5 b hb
      exact (I7.pin (b, o) (List.mem_append_right _ (List.mem_append_right _ (mem_pinsAt hb e)))).2.1
    cases f with
    | next => obtain ⟨σ7, H7, I7, n7⟩ := q7; exact again I7 n7
    | cont => obtain ⟨σ7, H7, I7, n7⟩ := q7; exact again I7 n7
    | brk => obtain ⟨σ7, H7, I7, q7⟩ := q7; exact ⟨σ7, H7, I7.unpinned, q7⟩
    | ret v => obtain ⟨x7, σ7, H7, I7, r7, q7⟩ := q7; exact ⟨x7, σ7, H7, I7.unpinned, r7, q7⟩
end
theorem for_list {K : PySem.W.Frag} {a : Addr} {xs : List V} {g : TG} {tb : TS} {D : Ends} {σ : St} {H : Hp} (Pv : Nat → St → Hp → Prop) (h0 : Pv 0 σ H) (hl : ∀ i σ H, i ≤ xs.length → Pv i σ H → SqL K H a xs)
    (hs : ∀ i x σ H, xs[i]? = some x → Pv i σ H → g x σ H fun σ2 H2 => tb { D with nx := Pv (i + 1), ct := Pv (i + 1), bk := D.nx } σ2 H2) (hd : ∀ σ H, Pv xs.length σ H → D.nx σ H) :
    ∃ W : Nat → Nat → St → Hp → Prop, (∃ m, W 0 m σ H) ∧ ∀ i m σ H, W i m σ H →
      ((Itl K a).stop i H ∧ D.nx σ H) ∨ ((Itl K a).go i H ∧ ∃ N : St → Hp → Prop, (∀ σ' H', N σ' H' → ∃ m', m' < m ∧ W (i + 1) m' σ' H') ∧ ∀ x H', (Itl K a).yld i H x H' → g x σ H' fun σ2 H2 => tb { D with nx := N, ct := N, bk := D.nx } σ2 H2) := by
  refine ⟨fun i m σ H => m = xs.length - i ∧ i ≤ xs.length ∧ Pv i σ H, ⟨xs.length, by simp, Nat.zero_le _, h0⟩, ?_⟩
  rintro i m σ H ⟨rfl, hi, p⟩
  have q := hl i σ H hi p
  by_cases hlt : i < xs.length
  · refine .inr ⟨⟨xs, xs[i], q, by simp [hlt]⟩, Pv (i + 1), fun σ' H' p' => ⟨xs.length - (i + 1), by omega, rfl, hlt, p'⟩, fun x H' y => ?_⟩
    obtain ⟨e, y⟩ := y
    subst e
    exact hs i x σ _ (y xs q) p
  · have e : i = xs.length := by omega
    subst e
    exact .inl ⟨⟨xs, q, Nat.le_refl _⟩, hd σ H p⟩
theorem for_tup {K : PySem.W.Frag} {a : Addr} {xs : List V} {g : TG} {tb : TS} {D : Ends} {σ : St} {H : Hp} (Pv : Nat → St → Hp → Prop) (h0 : Pv 0 σ H) (hl : ∀ i σ H, i ≤ xs.length → Pv i σ H → SqT K H a xs)
    (hs : ∀ i x σ H, xs[i]? = some x → Pv i σ H → g x σ H fun σ2 H2 => tb { D with nx := Pv (i + 1), ct := Pv (i + 1), bk := D.nx } σ2 H2) (hd : ∀ σ H, Pv xs.length σ H → D.nx σ H) :
    ∃ W : Nat → Nat → St → Hp → Prop, (∃ m, W 0 m σ H) ∧ ∀ i m σ H, W i m σ H →
      ((Itt K a).stop i H ∧ D.nx σ H) ∨ ((Itt K a).go i H ∧ ∃ N : St → Hp → Prop, (∀ σ' H', N σ' H' → ∃ m', m' < m ∧ W (i + 1) m' σ' H') ∧ ∀ x H', (Itt K a).yld i H x H' → g x σ H' fun σ2 H2 => tb { D with nx := N, ct := N, bk := D.nx } σ2 H2) := by
  refine ⟨fun i m σ H => m = xs.length - i ∧ i ≤ xs.length ∧ Pv i σ H, ⟨xs.length, by simp, Nat.zero_le _, h0⟩, ?_⟩
  rintro i m σ H ⟨rfl, hi, p⟩
  have q := hl i σ H hi p
  by_cases hlt : i < xs.length
  · refine .inr ⟨⟨xs, xs[i], q, by simp [hlt]⟩, Pv (i + 1), fun σ' H' p' => ⟨xs.length - (i + 1), by omega, rfl, hlt, p'⟩, fun x H' y => ?_⟩
    obtain ⟨e, y⟩ := y
    subst e
    exact hs i x σ _ (y xs q) p
  · have e : i = xs.length := by omega
    subst e
    exact .inl ⟨⟨xs, q, Nat.le_refl _⟩, hd σ H p⟩
theorem for_range {lo : Int} {n : Nat} {g : TG} {tb : TS} {D : Ends} {σ : St} {H : Hp} (Pv : Nat → St → Hp → Prop) (h0 : Pv 0 σ H)
    (hs : ∀ i σ H, i < n → Pv i σ H → g (.int (lo + i)) σ H fun σ2 H2 => tb { D with nx := Pv (i + 1), ct := Pv (i + 1), bk := D.nx } σ2 H2) (hd : ∀ σ H, Pv n σ H → D.nx σ H) :
    ∃ W : Nat → Nat → St → Hp → Prop, (∃ m, W 0 m σ H) ∧ ∀ i m σ H, W i m σ H →
      ((Itr lo n).stop i H ∧ D.nx σ H) ∨ ((Itr lo n).go i H ∧ ∃ N : St → Hp → Prop, (∀ σ' H', N σ' H' → ∃ m', m' < m ∧ W (i + 1) m' σ' H') ∧ ∀ x H', (Itr lo n).yld i H x H' → g x σ H' fun σ2 H2 => tb { D with nx := N, ct := N, bk := D.nx } σ2 H2) := by
  refine ⟨fun i m σ H => m = n - i ∧ i ≤ n ∧ Pv i σ H, ⟨n, by simp, Nat.zero_le _, h0⟩, ?_⟩
  rintro i m σ H ⟨rfl, hi, p⟩
  by_cases hlt : i < n
  · refine .inr ⟨hlt, Pv (i + 1), fun σ' H' p' => ⟨n - (i + 1), by omega, rfl, hlt, p'⟩, fun x H' y => ?_⟩
    obtain ⟨e, y⟩ := y
    subst e y
    exact hs i σ _ hlt p
  · have e : i = n := by omega
    subst e
    exact .inl ⟨Nat.le_refl _, hd σ H p⟩
end L2
namespace L2
open PySem PySem.Spec PyProof.Rows
noncomputable abbrev R2 := V → V → Hp → VK → Prop
noncomputable def OpR (X : Cx) (f : Value → Value → Sem Value) (r : R2) : Prop :=
  ∀ (pins : List (Addr × Obj)) (s : Shared) (σ : St) (H : Hp) (x y : V) (v u : Value) (Q : VK), Inv X pins σ H s → RelV x v → RelV y u → r x y H Q →
    wpAny (model X.prog X.w) X.A (f v u) (EP X pins σ Q) X.xe s
noncomputable def UnR (X : Cx) (f : Value → Sem Value) (r : V → Hp → VK → Prop) : Prop :=
  ∀ (pins : List (Addr × Obj)) (s : Shared) (σ : St) (H : Hp) (x : V) (v : Value) (Q : VK), Inv X pins σ H s → RelV x v → r x H Q →
    wpAny (model X.prog X.w) X.A (f v) (EP X pins σ Q) X.xe s
noncomputable def CallR (X : Cx) (f : Value) (r : List V → Hp → VK → Prop) : Prop :=
  ∀ (pins : List (Addr × Obj)) (s : Shared) (σ : St) (H : Hp) (xs : List V) (us : List Value) (Q : VK), Inv X pins σ H s → Vals xs us → r xs H Q →
    wpAny (model X.prog X.w) X.A (call f us) (EP X pins σ Q) X.xe s
noncomputable def TruR (X : Cx) (r : V → Hp → (Bool → Hp → Prop) → Prop) : Prop :=
  ∀ (pins : List (Addr × Obj)) (s : Shared) (σ : St) (H : Hp) (x : V) (v : Value) (Q : Bool → Hp → Prop), Inv X pins σ H s → RelV x v → r x H Q →
    wpAny (model X.prog X.w) X.A (truthy v) (TP X pins σ Q) X.xe s
noncomputable def tOp (r : R2) (ta tb : TE) : TE := fun σ H Q => ta σ H fun x H1 => tb σ H1 fun y H2 => r x y H2 Q
noncomputable def tUn (r : V → Hp → VK → Prop) (ta : TE) : TE := fun σ H Q => ta σ H fun x H1 => r x H1 Q
inductive rI (C : Int → Int → Prop) (g : Int → Int → V) (x : V) (y : V) (H : Hp) (Q : VK) : Prop
  | mk (i : _) (j : _) (h0 : x = .int i) (h1 : y = .int j) (h2 : C i j) (h3 : Q (g i j) H) : rI C g x y H Q
inductive rI0 (g : Int → Int → V) (x : V) (y : V) (H : Hp) (Q : VK) : Prop
  | mk (i : _) (j : _) (h0 : x = .int i) (h1 : y = .int j) (h2 : Q (g i j) H) : rI0 g x y H Q
inductive rU (g : Int → V) (x : V) (H : Hp) (Q : VK) : Prop
  | mk (i : _) (h0 : x = .int i) (h1 : Q (g i) H) : rU g x H Q
section
variable {X : Cx} {a b c : Expr} {ta tb tc : TE} {pos : Pos}
theorem binT (ha : PE X a ta) (hb : PE X b tb) {pins : List (Addr × Obj)} {s : Shared} {σ : St} {H : Hp} {R : V → V → Hp → Prop} (I : Inv X pins σ H s)
    (h : ta σ H fun x H1 => tb σ H1 fun y H2 => R x y H2) {Q : Value → Shared → Prop} {f : Value → Value → Sem Value}
    (hf : ∀ v u s2 x y H2, Inv X pins σ H2 s2 → RelV x v → RelV y u → R x y H2 → wpAny (model X.prog X.w) X.A (f v u) Q X.xe s2) :
    wpAny (model X.prog X.w) X.A (eval a X.env) (fun v s₁ => wpAny (model X.prog X.w) X.A (eval b X.env) (fun u s₂ => wpAny (model X.prog X.w) X.A (f v u) Q X.xe s₂) X.xe s₁) X.xe s := by
  refine thn (ha pins s σ H _ I h) fun v s1 ⟨x, H1, I1, r1, q1⟩ => ?_
  refine thn (hb pins s1 σ H1 _ I1 q1) fun u s2 ⟨y, H2, I2, r2, q2⟩ => ?_
  exact hf v u s2 x y H2 I2 r1 r2 q2
theorem pe_op {op : Operator} {r : R2} (ho : OpR X (binaryOp op) r) (ha : PE X a ta) (hb : PE X b tb) : PE X (.BinOp a op b pos) (tOp r ta tb) := by
  intro pins s σ H Q I h
  exact wpAny_BinOp (binT ha hb I h fun v u s2 x y H2 I2 rx ry q => ho pins s2 σ H2 x y v u Q I2 rx ry q)
theorem pe_un {op : UnaryOp} {r : V → Hp → VK → Prop} (ho : UnR X (unaryOp op) r) (ha : PE X a ta) : PE X (.UnaryOp op a pos) (tUn r ta) := by
  intro pins s σ H Q I h
  exact UnaryOp_ (thn (ha pins s σ H _ I h) fun v s1 ⟨x, H1, I1, r1, q1⟩ => ho pins s1 σ H1 x v Q I1 r1 q1)
theorem opI {f : Value → Value → Sem Value} {C : Int → Int → Prop} {g : Int → Int → Int}
    (rule : ∀ (i j : Int) (t u : Tok) (s : Shared) (Q : Value → Shared → Prop) (E : Value → Shared → Prop), C i j → Q (.int (g i j) s.toks) { s with toks := s.toks + 1 } → wpAny (model X.prog X.w) X.A (f (.int i t) (.int j u)) Q E s) :
    OpR X f (rI C fun i j => .int (g i j)) := by
  intro pins s σ H x y v u Q I rx ry h
  obtain ⟨i, j, rfl, rfl, hc, q⟩ := h
  obtain ⟨t, rfl⟩ := rx
  obtain ⟨t', rfl⟩ := ry
  exact rule i j t t' s _ _ hc ⟨.int (g i j), H, I.tok _, ⟨_, rfl⟩, q⟩
theorem opI0 {f : Value → Value → Sem Value} {g : Int → Int → Int}
    (rule : ∀ (i j : Int) (t u : Tok) (s : Shared) (Q : Value → Shared → Prop) (E : Value → Shared → Prop), Q (.int (g i j) s.toks) { s with toks := s.toks + 1 } → wpAny (model X.prog X.w) X.A (f (.int i t) (.int j u)) Q E s) :
    OpR X f (rI0 fun i j => .int (g i j)) := by
  intro pins s σ H x y v u Q I rx ry h
  obtain ⟨i, j, rfl, rfl, q⟩ := h
  obtain ⟨t, rfl⟩ := rx
  obtain ⟨t', rfl⟩ := ry
  exact rule i j t t' s _ _ ⟨.int (g i j), H, I.tok _, ⟨_, rfl⟩, q⟩
theorem opB0 {f : Value → Value → Sem Value} {g : Int → Int → Bool}
    (rule : ∀ (i j : Int) (t u : Tok) (s : Shared) (Q : Value → Shared → Prop) (E : Value → Shared → Prop), Q (.bool (g i j)) s → wpAny (model X.prog X.w) X.A (f (.int i t) (.int j u)) Q E s) :
    OpR X f (rI0 fun i j => .bl (g i j)) := by
  intro pins s σ H x y v u Q I rx ry h
  obtain ⟨i, j, rfl, rfl, q⟩ := h
  obtain ⟨t, rfl⟩ := rx
  obtain ⟨t', rfl⟩ := ry
  exact rule i j t t' s _ _ ⟨.bl (g i j), H, I, rfl, q⟩
noncomputable def CDiv (i j : Int) : Prop := 0 < j ∧ j < 1073741824
noncomputable def CMul (i j : Int) : Prop := (-(2 ^ 64) < i ∧ i < 2 ^ 64) ∨ (-(2 ^ 64) < j ∧ j < 2 ^ 64)
theorem CMul.ok {i j : Int} (h : CMul i j) : IntMulOk i j := by
  rcases h with ⟨h1, h2⟩ | ⟨h1, h2⟩
  · exact .of_left (intBits_le_64 h1 h2)
  · exact .of_right (intBits_le_64 h1 h2)
theorem op_add : OpR X (binaryOp .Add) (rI0 fun i j => .int (i + j)) := opI0 fun _ _ _ _ _ _ _ q => add_int q
theorem op_sub : OpR X (binaryOp .Sub) (rI0 fun i j => .int (i - j)) := opI0 fun _ _ _ _ _ _ _ q => sub_int q
theorem op_mul : OpR X (binaryOp .Mult) (rI CMul fun i j => .int (i * j)) := opI fun _ _ _ _ _ _ _ hc q => mul_int q hc.ok
theorem op_fdiv : OpR X (binaryOp .FloorDiv) (rI CDiv fun i j => .int (i / j)) := opI fun i j _ _ _ _ _ hc q => by
  have h1 : (0 : Int) < j := hc.1
  have h2 : j < 1073741824 := hc.2
  exact floordiv_int (by omega) (by rw [Int.fdiv_eq_ediv_of_nonneg i (by omega)]; exact q) (.inl (PyProof.noPylong_small (by omega)))
theorem op_mod : OpR X (binaryOp .Mod) (rI (fun _ j => 0 < j) fun i j => .int (i % j)) := opI fun i j _ _ _ _ _ hc q => by
  have h1 : (0 : Int) < j := hc
  exact mod_int' (by omega) (by rw [Int.fmod_eq_emod_of_nonneg i (by omega)]; exact q)
theorem unI {f : Value → Sem Value} {g : Int → Int}
    (rule : ∀ (i : Int) (t : Tok) (s : Shared) (Q : Value → Shared → Prop) (E : Value → Shared → Prop), Q (.int (g i) s.toks) { s with toks := s.toks + 1 } → wpAny (model X.prog X.w) X.A (f (.int i t)) Q E s) :
    UnR X f (rU fun i => .int (g i)) := by
  intro pins s σ H x v Q I rx h
  obtain ⟨i, rfl, q⟩ := h
  obtain ⟨t, rfl⟩ := rx
  exact rule i t s _ _ ⟨.int (g i), H, I.tok _, ⟨_, rfl⟩, q⟩
theorem un_neg : UnR X (unaryOp .USub) (rU fun i => .int (-i)) := unI fun _ _ _ _ _ q => neg_int q
end
noncomputable def scal : V → V → Bool
  | .non, .non => true | .non, .int _ => true | .int _, .non => true | .non, .bl _ => true | .bl _, .non => true | .non, .str _ => true | .str _, .non => true
  | .int _, .int _ => true | .bl _, .bl _ => true | .str _, .str _ => true | .byt _, .byt _ => true
  | .int _, .str _ => true | .str _, .int _ => true | .bl _, .str _ => true | .str _, .bl _ => true
  | _, _ => false
inductive rEq  (x : V) (y : V) (H : Hp) (Q : VK) : Prop
  | mk  (h0 : scal x y = true) (h1 : Q (.bl (decide (x = y))) H) : rEq x y H Q
inductive rNe  (x : V) (y : V) (H : Hp) (Q : VK) : Prop
  | mk  (h0 : scal x y = true) (h1 : Q (.bl (!decide (x = y))) H) : rNe x y H Q
theorem dec_int {i j : Int} : decide (V.int i = V.int j) = (i == j) := by
  rw [Bool.eq_iff_iff]
  simp
theorem dec_bl {i j : Bool} : decide (V.bl i = V.bl j) = (i == j) := by
  rw [Bool.eq_iff_iff]
  simp
theorem dec_str {i j : Str} : decide (V.str i = V.str j) = (i == j) := by
  rw [Bool.eq_iff_iff]
  simp
theorem dec_byt {i j : Array UInt8} : decide (V.byt i = V.byt j) = (i.toList == j.toList) := by
  rw [Bool.eq_iff_iff]
  cases i
  cases j
  simp
section
variable {X : Cx} {a b c : Expr} {ta tb tc : TE} {pos : Pos}
theorem fin_bl {pins : List (Addr × Obj)} {σ : St} {H : Hp} {s : Shared} {Q : VK} {k k' : Bool} (I : Inv X pins σ H s) (q : Q (.bl k) H) (e : k = k') : EP X pins σ Q (.bool k') s := by
  subst e
  exact ⟨.bl k, H, I, rfl, q⟩
theorem op_eq : OpR X (compareOp .Eq) rEq := by
  intro pins s σ H x y v u Q I rx ry h
  obtain ⟨hs, q⟩ := h
  cases x with
  | non =>
    cases rx
    cases y with
    | non => cases ry; exact PySem.EqNone.eq_none_none (fin_bl I q (by simp))
    | bl j => cases ry; exact PySem.EqNone.eq_none_bool (fin_bl I q (by simp))
    | int j => obtain ⟨t', rfl⟩ := ry; exact PySem.EqNone.eq_none_int (fin_bl I q (by simp))
    | str j => obtain ⟨t', rfl⟩ := ry; exact PySem.EqNone.eq_none_str (fin_bl I q (by simp))
    | _ => exact absurd (show false = true from hs) Bool.false_ne_true
  | bl i =>
    cases rx
    cases y with
    | non => cases ry; exact PySem.EqNone.eq_bool_none (fin_bl I q (by simp))
    | bl j => cases ry; exact eq_bool (fin_bl I q dec_bl)
    | str j => obtain ⟨t', rfl⟩ := ry; exact PySem.EqMixed.eq_bool_str (fin_bl I q (by simp))
    | _ => exact absurd (show false = true from hs) Bool.false_ne_true
  | int i =>
    obtain ⟨t, rfl⟩ := rx
    cases y with
    | non => cases ry; exact PySem.EqNone.eq_int_none (fin_bl I q (by simp))
    | int j => obtain ⟨t', rfl⟩ := ry; exact eq_int (fin_bl I q dec_int)
    | str j => obtain ⟨t', rfl⟩ := ry; exact PySem.EqMixed.eq_int_str (fin_bl I q (by simp))
    | _ => exact absurd (show false = true from hs) Bool.false_ne_true
  | str i =>
    obtain ⟨t, rfl⟩ := rx
    cases y with
    | non => cases ry; exact PySem.EqNone.eq_str_none (fin_bl I q (by simp))
    | bl j => cases ry; exact PySem.EqMixed.eq_str_bool (fin_bl I q (by simp))
    | int j => obtain ⟨t', rfl⟩ := ry; exact PySem.EqMixed.eq_str_int (fin_bl I q (by simp))
    | str j => obtain ⟨t', rfl⟩ := ry; exact eq_str (fin_bl I q dec_str)
    | _ => exact absurd (show false = true from hs) Bool.false_ne_true
  | byt i =>
    obtain ⟨t, rfl⟩ := rx
    cases y with
    | byt j => obtain ⟨t', rfl⟩ := ry; exact PySem.W.eq_bytes (fin_bl I q dec_byt)
    | _ => exact absurd (show false = true from hs) Bool.false_ne_true
  | _ => cases y <;> exact absurd (show false = true from hs) Bool.false_ne_true
theorem op_ne : OpR X (compareOp .NotEq) rNe := by
  intro pins s σ H x y v u Q I rx ry h
  obtain ⟨hs, q⟩ := h
  cases x with
  | non =>
    cases rx
    cases y with
    | non => cases ry; exact PySem.EqNone.ne_none_none (fin_bl I q (by simp))
    | bl j => cases ry; exact PySem.EqNone.ne_none_bool (fin_bl I q (by simp))
    | int j => obtain ⟨t', rfl⟩ := ry; exact PySem.EqNone.ne_none_int (fin_bl I q (by simp))
    | str j => obtain ⟨t', rfl⟩ := ry; exact PySem.EqNone.ne_none_str (fin_bl I q (by simp))
    | _ => exact absurd (show false = true from hs) Bool.false_ne_true
  | bl i =>
    cases rx
    cases y with
    | non => cases ry; exact PySem.EqNone.ne_bool_none (fin_bl I q (by simp))
    | bl j => cases ry; exact ne_bool (fin_bl I q (congrArg not dec_bl))
    | str j => obtain ⟨t', rfl⟩ := ry; exact PySem.EqMixed.ne_bool_str (fin_bl I q (by simp))
    | _ => exact absurd (show false = true from hs) Bool.false_ne_true
  | int i =>
    obtain ⟨t, rfl⟩ := rx
    cases y with
    | non => cases ry; exact PySem.EqNone.ne_int_none (fin_bl I q (by simp))
    | int j => obtain ⟨t', rfl⟩ := ry; exact ne_int (fin_bl I q (congrArg not dec_int))
    | str j => obtain ⟨t', rfl⟩ := ry; exact PySem.EqMixed.ne_int_str (fin_bl I q (by simp))
    | _ => exact absurd (show false = true from hs) Bool.false_ne_true
  | str i =>
    obtain ⟨t, rfl⟩ := rx
    cases y with
    | non => cases ry; exact PySem.EqNone.ne_str_none (fin_bl I q (by simp))
    | bl j => cases ry; exact PySem.EqMixed.ne_str_bool (fin_bl I q (by simp))
    | int j => obtain ⟨t', rfl⟩ := ry; exact PySem.EqMixed.ne_str_int (fin_bl I q (by simp))
    | str j => obtain ⟨t', rfl⟩ := ry; exact ne_str (fin_bl I q (congrArg not dec_str))
    | _ => exact absurd (show false = true from hs) Bool.false_ne_true
  | byt i =>
    obtain ⟨t, rfl⟩ := rx
    cases y with
    | byt j => obtain ⟨t', rfl⟩ := ry; exact PySem.W.ne_bytes (fin_bl I q (congrArg not dec_byt))
    | _ => exact absurd (show false = true from hs) Bool.false_ne_true
  | _ => cases y <;> exact absurd (show false = true from hs) Bool.false_ne_true
theorem op_lt : OpR X (compareOp .Lt) (rI0 fun i j => .bl (decide (i < j))) := opB0 fun _ _ _ _ _ _ _ q => lt_int q
theorem op_gt : OpR X (compareOp .Gt) (rI0 fun i j => .bl (decide (j < i))) := opB0 fun _ _ _ _ _ _ _ q => gt_int q
theorem op_ge : OpR X (compareOp .GtE) (rI0 fun i j => .bl (decide (j ≤ i))) := opB0 fun _ _ _ _ _ _ _ q => ge_int q
theorem op_isN : OpR X (compareOp .Is) (fun x y H Q => y = .non ∧ Q (.bl (decide (x = .non))) H) := by
  intro pins s σ H x y v u Q I rx ry h
  obtain ⟨rfl, q⟩ := h
  cases ry
  refine is_none_gen (fin_bl I q ?_)
  cases x <;> first
    | (cases rx; rfl)
    | (obtain ⟨t, rfl⟩ := rx; rfl)
theorem op_notN : OpR X (compareOp .IsNot) (fun x y H Q => y = .non ∧ Q (.bl (!decide (x = .non))) H) := by
  intro pins s σ H x y v u Q I rx ry h
  obtain ⟨rfl, q⟩ := h
  cases ry
  refine isnot_none_gen (fin_bl I q ?_)
  cases x <;> first
    | (cases rx; rfl)
    | (obtain ⟨t, rfl⟩ := rx; rfl)
theorem nomark (b : Expr) {op : CmpOp} (h : op ≠ .In := by decide) (h2 : op ≠ .NotIn := by decide) : behindInMarks op b = false := by
  have e1 : (op == CmpOp.In) = false := by cases op <;> first | rfl | exact absurd rfl h
  have e2 : (op == CmpOp.NotIn) = false := by cases op <;> first | rfl | exact absurd rfl h2
  cases b <;> simp [behindInMarks, e1, e2]
theorem pe_cmpR {op : CmpOp} {r : R2} (ho : OpR X (compareOp op) r) (ha : PE X a ta) (hb : PE X b tb) (hm : behindInMarks op b = false) : PE X (.Compare a [op] [b] pos) (tOp r ta tb) := by
  intro pins s σ H Q I h
  exact wpAny_Compare1 (binT ha hb I h fun v u s2 x y H2 I2 rx ry q => ho pins s2 σ H2 x y v u Q I2 rx ry q) hm
inductive tTestR  (Q : (Bool → Hp → Prop)) (x : V) (H' : Hp) : Prop
  | mk (k : _) (h0 : x = .bl k) (h1 : Q k H') : tTestR Q x H'
noncomputable def tTest (t : TE) : TT := fun σ H Q => t σ H fun x H' => tTestR Q x H'
theorem pt_cmpR {op : CmpOp} {r : R2} (ho : OpR X (compareOp op) r) (ha : PE X a ta) (hb : PE X b tb) (hm : behindInMarks op b = false) : PT X (.Compare a [op] [b] pos) (tTest (tOp r ta tb)) := by
  intro pins s σ H Q I h
  refine wpAny_isTrue_Compare1 (thn (ha pins s σ H _ I h) fun v s1 ⟨x, H1, I1, r1, q1⟩ => thn (hb pins s1 σ H1 _ I1 q1) fun u s2 ⟨y, H2, I2, r2, q2⟩ =>
    thn (ho pins s2 σ H2 x y v u _ I2 r1 r2 q2) fun c s3 ⟨z, H3, I3, r3, k, e, q3⟩ => ?_) hm
  subst e
  cases r3
  exact wpAny_truthy_bool ⟨H3, I3, q3⟩
noncomputable def TruV (K : PySem.W.Frag) (x : V) (H : Hp) (k : Bool) : Prop :=
  match x with
  | .non => k = false
  | .bl b => k = b
  | .int i => k = (i != 0)
  | .str y => y.length ≤ sizeLine ∧ k = ((y.length : Int) != 0)
  | .byt y => y.size ≤ sizeLine ∧ k = ((y.size : Int) != 0)
  | .ref p => (∃ xs, SqL K H p xs ∧ k = !xs.isEmpty) ∨ (∃ xs, SqT K H p xs ∧ k = !xs.isEmpty) ∨ ∃ kvs, H p = some (.dK kvs) ∧ k = !kvs.isEmpty
  | _ => False
theorem isEmpty_kv {κ : Type} {kvs : List (κ × V)} {vs : List (κ × Value)} (r : KV kvs vs) : (!vs.isEmpty) = !kvs.isEmpty := by
  cases r <;> rfl
theorem isEmpty_of {xs : List V} {its : List Value} (r : Vals xs its) : (!its.toArray.isEmpty) = !xs.isEmpty := by
  cases r <;> simp
theorem line63 : (sizeLine : Nat) < 2 ^ 63 := by rw [sizeLine_eq]; decide
theorem tru_ok : TruR X (fun x H Q => ∃ k, TruV X.K x H k ∧ Q k H) := by
  intro pins s σ H x v Q I rx h
  obtain ⟨k, e, q⟩ := h
  have hl := line63
  have hs : sizeLine = 16777216 := sizeLine_eq
  cases x with
  | non =>
    cases rx
    have e' : k = false := e
    subst e'
    exact truthy_none ⟨H, I, q⟩
  | bl b =>
    cases rx
    have e' : k = b := e
    subst e'
    exact wpAny_truthy_bool ⟨H, I, q⟩
  | int i =>
    obtain ⟨t, rfl⟩ := rx
    have e' : k = (i != 0) := e
    subst e'
    exact PySem.P.truthy_int ⟨H, I, q⟩
  | str y =>
    obtain ⟨t, rfl⟩ := rx
    obtain ⟨hy, e'⟩ : y.length ≤ sizeLine ∧ k = ((y.length : Int) != 0) := e
    subst e'
    exact PySem.P.truthy_str (by omega) ⟨H, I.tok _, q⟩
  | byt y =>
    obtain ⟨t, rfl⟩ := rx
    obtain ⟨hy, e'⟩ : y.size ≤ sizeLine ∧ k = ((y.size : Int) != 0) := e
    subst e'
    exact PySem.W.truthy_bytes (by omega) ⟨H, I.tok _, q⟩
  | ref p =>
    cases rx
    have e' : (∃ xs, SqL X.K H p xs ∧ k = !xs.isEmpty) ∨ (∃ xs, SqT X.K H p xs ∧ k = !xs.isEmpty) ∨ ∃ kvs, H p = some (.dK kvs) ∧ k = !kvs.isEmpty := e
    rcases e' with ⟨xs, hx, e'⟩ | ⟨xs, hx, e'⟩ | ⟨kvs, hx, e'⟩
    · subst e'
      obtain ⟨its, r, pl, hz⟩ := I.list hx
      have hlen := r.length
      exact wpAny_truthy_list pl.isList (by simp only [List.size_toArray]; omega) ⟨H, I.tok _, by rw [isEmpty_of r]; exact q⟩
    · subst e'
      obtain ⟨its, r, pl, hz⟩ := I.tuple hx
      have hlen := r.length
      exact truthy_tuple pl (by simp only [List.size_toArray]; omega) ⟨H, I.tok _, by rw [isEmpty_of r]; exact q⟩
    · subst e'
      obtain ⟨hz, hS, vs, r, m⟩ : kvs.length ≤ sizeLine ∧ (p == sysModules) = false ∧ ∃ vs, KV kvs vs ∧ s.heap.DictOf (mixKind X.prog X.w) p vs := I.hok p _ hx
      have hlen : kvs.length = vs.length := Paired.length r
      exact wpAny_truthy_dict hS m (by omega) ⟨H, I.tok _, by rw [isEmpty_kv r]; exact q⟩
  | _ => exact (show False from e).elim
theorem pt_truth (ha : PE X a ta) (he : ∀ whole, isTrue a X.env whole = (do let v ← whole; standAt a.pos; holding [v] (truthy v))) :
    PT X a (fun σ H Q => ta σ H fun x H' => ∃ k, TruV X.K x H' k ∧ Q k H') := by
  intro pins s σ H Q I h
  exact isTrue_plain (thn (ha pins s σ H _ I h) fun v s1 ⟨x, H1, I1, r1, q1⟩ => tru_ok pins s1 σ H1 x v Q I1 r1 q1) (he _)
theorem vals1 {x : V} {us : List Value} (r : Vals [x] us) : ∃ u, us = [u] ∧ RelV x u := by
  cases r with
  | cons r1 r2 => cases r2; exact ⟨_, rfl, r1⟩
theorem vals2 {x y : V} {us : List Value} (r : Vals [x, y] us) : ∃ u w', us = [u, w'] ∧ RelV x u ∧ RelV y w' := by
  cases r with
  | cons r1 r2 =>
    cases r2 with
    | cons r3 r4 => cases r4; exact ⟨_, _, rfl, r1, r3⟩
theorem call_abs : CallR X (.builtin "abs") (fun xs H Q => ∃ i, xs = [.int i] ∧ Q (.int (if i < 0 then -i else i)) H) := by
  intro pins s σ H xs us Q I r h
  obtain ⟨i, rfl, q⟩ := h
  obtain ⟨u, rfl, t, rfl⟩ := vals1 r
  exact call_abs_int fun u tk => ⟨.int (if i < 0 then -i else i), H, I.tok _, ⟨_, rfl⟩, q⟩
theorem call_int1 : CallR X (.type "int") (fun xs H Q => (∃ i, xs = [.int i] ∧ Q (.int i) H) ∨ ∃ k, xs = [.bl k] ∧ Q (.int (if k then 1 else 0)) H) := by
  intro pins s σ H xs us Q I r h
  rcases h with ⟨i, rfl, q⟩ | ⟨k, rfl, q⟩
  · obtain ⟨u, rfl, t, rfl⟩ := vals1 r
    exact call_int_int ⟨.int i, H, I, ⟨_, rfl⟩, q⟩
  · obtain ⟨u, rfl, r1⟩ := vals1 r
    cases r1
    exact call_int_bool ⟨.int (if k then 1 else 0), H, I.tok _, ⟨_, rfl⟩, q⟩
end
end L2
namespace L2
open PySem PySem.Spec PyProof.Rows
structure ObjM (h : Heap) (x dx C : Addr) (mA : Str → Option Value) : Prop where
  obj : h.get? x = some (PySem.W.instObj C dx)
  ns : h.Ns1 dx mA
  ne : dx ≠ x
theorem lookIn_ns {h : Heap} {dx : Addr} {mA : Str → Option Value} (n : h.Ns1 dx mA) : ∃ od, h.get? dx = some od ∧ ∀ name, PySem.W.lookIn name od = some (mA name) := by
  obtain ⟨o, es, ep, ho, hd, hk, _, hm⟩ := n
  refine ⟨o, ho, fun name => ?_⟩
  have e := hm name
  unfold nsFind findBy at e
  rw [← Array.find?_toList] at e
  unfold PySem.W.lookIn
  rw [hd]
  dsimp only
  split
  · rename_i y q
    rw [q] at e
    exact congrArg some e
  · rename_i q
    rw [q] at e
    have a : es.toList.any (·.refKey) = false := by
      rw [List.any_eq_false]
      intro y hy
      obtain ⟨z, t, hkey⟩ := hk y (Array.mem_toList_iff.mp hy)
      simp [DictEntry.refKey, hkey]
    have a' : ¬ es.toList.any (·.refKey) = true := by rw [a]; exact Bool.false_ne_true
    rw [if_neg a']
    exact congrArg some e
theorem ObjM.look {h : Heap} {x dx C : Addr} {mA : Str → Option Value} (I : ObjM h x dx C mA) : ∃ od, PySem.W.InstAt h x (PySem.W.instObj C dx) C (some od) ∧ ∀ name, PySem.W.lookIn name od = some (mA name) :=
  let ⟨od, ho, hl⟩ := lookIn_ns I.ns
  ⟨od, ⟨I.obj, rfl, rfl, ho⟩, hl⟩
section
variable {prog : Program} {w : World} {A : Around} {E : Value → Shared → Prop} {s : Shared} {K : PySem.W.Frag} {x dx C f : Addr} {mA : Str → Option Value} {name : Str} {v : Value}
theorem get_map {expr : Bool} {Q : Value → Shared → Prop} (X : K.In s.heap) (I : ObjM s.heap x dx C mA) (hg : PySem.W.plainGet K C name = true) (hh : PySem.W.hasDictIn K C = true)
    (ha : PySem.W.findIn K (.ref C) name = some none) (hv : mA name = some v) (hv' : PySem.W.handedIn v = true) (h : Q v { s with toks := s.toks + 1 }) :
    wpAny (model prog w) A (getAttr (.ref x) name expr) Q E s := by
  obtain ⟨od, J, hl⟩ := I.look
  exact PySem.W.get_value X J (PySem.W.plainGet_of hg).1 (PySem.W.findObj_own hh ha rfl (by rw [hl, hv])) hv' h
theorem get_meth {pl : Sem Bool} {Q : Value × List Value → Shared → Prop} (X : K.In s.heap) (I : ObjM s.heap x dx C mA) (hg : PySem.W.plainGet K C name = true)
    (hf : PySem.W.findIn K (.ref C) name = some (some (.ref f))) (ht : PySem.W.isFn K (.ref f) = true) (hv : mA name = none) (h : Q (.ref f, [.ref x]) s) :
    wpAny (model prog w) A (getMethod (.ref x) name pl) Q E s := by
  obtain ⟨od, J, hl⟩ := I.look
  exact PySem.W.method_fn X J (PySem.W.plainGet_of hg).1 (PySem.W.plainGet_of hg).2 hf (beq_iff_eq.mp ht) (by show (PySem.W.lookIn name od).map (·.isSome) = some false; rw [hl, hv]; rfl) h
theorem set_map {ns : List Str} {Q : Unit → Shared → Prop} (X : K.In s.heap) (I : ObjM s.heap x dx C mA)
    (hs : PySem.W.findIn K (.ref C) "__setattr__" = some (some (.builtin "object.__setattr__"))) (hp : PySem.W.plainOver K C = true) (ht : PySem.W.takerIn K C name = some none) (hh : PySem.W.hasDictIn K C = true)
    (hw : PySem.Within mA ns) (hsz : ns.length ≤ sizeLine)
    (h : ∀ h', ObjM h' x dx C (fun y => if y = name then some v else mA y) → Heap.SameBut dx s.heap h' → Q () { s with heap := h', toks := s.toks + 2 }) :
    wpAny (model prog w) A (setAttr (.ref x) name v) Q E s := by
  obtain ⟨od, J, hl⟩ := I.look
  refine PySem.W.set_plain X J hs (PySem.W.osa_open (s := { s with toks := s.toks + 1 }) (r := none) X J hp ht fun b => ?_)
  obtain ⟨cd, hc, hd'⟩ := PySem.W.any_some hh
  have hx : s.heap.get? x = some ⟨.ref C, some dx, .plain, #[]⟩ := I.obj
  refine wpAny_bind (wpAny_pure (wpAny_bind (wpAny_bind (wpAny_loadPart hx (wpAny_bind (PySem.W.Looks.here (s := { s with toks := s.toks + 1 }) (PySem.W.looks_clsIn X hc) ?_))))))
  rw [hd']
  refine wpAny_pure (a := some dx) (wpAny_bind (wpAny_pure (wpAny_bind ?_)))
  refine wpAny_nsSet1 (s := { s with toks := s.toks + 1 }) I.ns fun h' hn2 hs2 => ?_
  obtain ⟨oD, esD, epD, hoD, hdD, hcD⟩ := hn2.count (PySem.Within.cons name v hw)
  refine wpAny_bind (wpAny_lookBehind hoD (by rw [hdD]; exact pastItsLine_dict (Nat.le_trans hcD (by rw [List.length_cons]; omega))) ?_)
  exact wpAny_pure (h _ ⟨(hs2.2 _ (Ne.symm I.ne)).trans I.obj, hn2, I.ne⟩ hs2)
theorem make_map {R : Result → Shared → Prop} {vs : List Value} {kw : List (Str × Value)} (X : K.In s.heap) (hm : PySem.W.makesIn K C = true)
    (hi : PySem.W.findIn K (.ref C) "__init__" = some (some (.ref f))) (hf : PySem.W.typeIn K (.ref f) = some (.type "function"))
    (h : codeAny (model prog w) (A.under (.builtin "type.__call__" ⟨.ref C :: vs, kw⟩)) (.call (.ref f) ⟨.ref (s.heap.objs.size + 1) :: vs, kw⟩) (PySem.W.InitBack (s.heap.objs.size + 1) R)
      { s with heap := (s.heap.push PySem.W.emptyDict).push (PySem.W.instObj C s.heap.objs.size) }) :
    codeAny (model prog w) A (.call (.ref C) ⟨vs, kw⟩) R s := by
  obtain ⟨hh, g, d, t, os⟩ := s
  exact PySem.W.make_core (PySem.W.makes_of X hm) (PySem.W.looks_findIn X hi) (fun self => PySem.W.bind_fn X self hf) (.inl rfl) h
end
noncomputable def putF (f : Str) (v : V) : List (Str × V) → List (Str × V)
  | [] => [(f, v)]
  | (g, x) :: r => if g = f then (g, v) :: r else (g, x) :: putF f v r
theorem lookup_putF (f g : Str) (v : V) : ∀ fs : List (Str × V), (putF f v fs).lookup g = if g = f then some v else fs.lookup g
  | [] => by
    show List.lookup g [(f, v)] = _
    by_cases h : g = f
    · have hb : (g == f) = true := beq_iff_eq.mpr h
      simp only [List.lookup, hb, if_pos h]
    · have hb : (g == f) = false := beq_eq_false_iff_ne.mpr h
      simp only [List.lookup, hb, if_neg h]
  | (k, x) :: r => by
    have ih := lookup_putF f g v r
    rw [show putF f v ((k, x) :: r) = (if k = f then (k, v) :: r else (k, x) :: putF f v r) from rfl]
    by_cases hk : k = f
    · rw [if_pos hk]
      by_cases h : g = k
      · have hb : (g == k) = true := beq_iff_eq.mpr h
        simp only [List.lookup, hb, if_pos (h.trans hk)]
      · have hb : (g == k) = false := beq_eq_false_iff_ne.mpr h
        simp only [List.lookup, hb, if_neg (fun e : g = f => h (e.trans hk.symm))]
    · rw [if_neg hk]
      by_cases h : g = k
      · have hb : (g == k) = true := beq_iff_eq.mpr h
        simp only [List.lookup, hb, if_neg (fun e : g = f => hk (h.symm.trans e))]
      · have hb : (g == k) = false := beq_eq_false_iff_ne.mpr h
        simp only [List.lookup, hb]
        exact ih
theorem keys_putF (f : Str) (v : V) : ∀ fs : List (Str × V), f ∈ (putF f v fs).map (·.1) ∧ ∀ g, g ∈ fs.map (·.1) → g ∈ (putF f v fs).map (·.1)
  | [] => ⟨by simp [putF], fun g h => by simp at h⟩
  | (k, x) :: r => by
    obtain ⟨i1, i2⟩ := keys_putF f v r
    rw [show putF f v ((k, x) :: r) = (if k = f then (k, v) :: r else (k, x) :: putF f v r) from rfl]
    by_cases hk : k = f
    · rw [if_pos hk]
      subst hk
      exact ⟨by simp, fun g h => by simpa using h⟩
    · rw [if_neg hk]
      refine ⟨?_, fun g h => ?_⟩
      · rw [List.map_cons]
        exact List.mem_cons_of_mem _ i1
      · rw [List.map_cons] at h ⊢
        rcases List.mem_cons.mp h with e | e
        · exact List.mem_cons.mpr (.inl e)
        · exact List.mem_cons_of_mem _ (i2 g e)
theorem length_putF (f : Str) (v : V) : ∀ fs : List (Str × V), (putF f v fs).length ≤ fs.length + 1
  | [] => by simp [putF]
  | (k, x) :: r => by
    have ih := length_putF f v r
    rw [show putF f v ((k, x) :: r) = (if k = f then (k, v) :: r else (k, x) :: putF f v r) from rfl]
    by_cases hk : k = f
    · rw [if_pos hk, List.length_cons, List.length_cons]; omega
    · rw [if_neg hk, List.length_cons, List.length_cons]; omega
theorem RelO.some_of {v : V} {o : Option Value} (r : RelO (some v) o) : ∃ u, o = some u ∧ RelV v u := by
  cases o with
  | none => exact (show False from r).elim
  | some u => exact ⟨u, rfl, r⟩
theorem RelO.none_of {o : Option Value} (r : RelO none o) : o = none := by
  cases o with
  | none => rfl
  | some u => exact (show False from r).elim
theorem handed_of {v : V} {u : Value} (r : RelV v u) : PySem.W.handedIn u = true := by
  cases v with
  | non => cases (show u = Value.none from r); rfl
  | bl b => cases (show u = Value.bool b from r); rfl
  | int i => obtain ⟨t, e⟩ := (show ∃ t, u = Value.int i t from r); cases e; rfl
  | str x => obtain ⟨t, e⟩ := (show ∃ t, u = Value.str x t from r); cases e; rfl
  | byt b => obtain ⟨t, e⟩ := (show ∃ t, u = Value.bytes b t from r); cases e; rfl
  | flt b => obtain ⟨t, e⟩ := (show ∃ t, u = Value.float b t from r); cases e; rfl
  | ref a => cases (show u = Value.ref a from r); rfl
  | ty n => cases (show u = Value.type n from r); rfl
section
variable {P : Program} {w : World} {H H' : Hp} {h h' : Heap} {a C dx : Addr} {fs fs' : List (Str × V)}
theorem ins_get (hok : HOk P w H h) (e : H a = some (.ins C dx fs)) : ∃ mA, ObjM h a dx C mA ∧ (∀ f, RelO (fs.lookup f) (mA f)) ∧ PySem.Within mA (fs.map (·.1)) ∧ fs.length ≤ 1000 ∧ H dx = some (.own a) := by
  obtain ⟨d, z, ne, ob, mA, n, r, q⟩ := (show ObjOk P w H h a (.ins C dx fs) from hok a _ e)
  exact ⟨mA, ⟨ob, n, ne⟩, r, q, z, d⟩
end
structure Cls (K : PySem.W.Frag) (C : Addr) : Prop where
  pg : PySem.W.plainGet K C Str.empty = true
  hd : PySem.W.hasDictIn K C = true
  po : PySem.W.plainOver K C = true
  sa : PySem.W.findIn K (.ref C) "__setattr__" = some (some (.builtin "object.__setattr__"))
theorem Cls.get {K : PySem.W.Frag} {C : Addr} (c : Cls K C) (f : Str) : PySem.W.plainGet K C f = true := c.pg
noncomputable def NoAttr (K : PySem.W.Frag) (C : Addr) (f : Str) : Prop := PySem.W.findIn K (.ref C) f = some none
theorem NoAttr.taker {K : PySem.W.Frag} {C : Addr} {f : Str} (n : NoAttr K C f) : PySem.W.takerIn K C f = some none := by
  unfold PySem.W.takerIn
  rw [show PySem.W.findIn K (.ref C) f = some none from n]
  rfl
structure Meth (K : PySem.W.Frag) (C : Addr) (m : Str) (f : Addr) : Prop where
  at_ : PySem.W.findIn K (.ref C) m = some (some (.ref f))
  fn : PySem.W.isFn K (.ref f) = true
  kp : PySem.W.keepIn K (.ref f) = true
section
variable {X : Cx} {pins : List (Addr × Obj)} {σ : St} {H : Hp} {s : Shared} {a C dx : Addr} {fs : List (Str × V)} {f : Str} {v : V} {A : Around} {E : Value → Shared → Prop}
theorem getattr_ok {b : Bool} {Q : Value → Shared → Prop} (I : Inv X pins σ H s) (e : H a = some (.ins C dx fs)) (c : Cls X.K C) (n : NoAttr X.K C f) (l : fs.lookup f = some v)
    (h : ∀ u s', Inv X pins σ H s' → RelV v u → Q u s') : wpAny (model X.prog X.w) A (getAttr (.ref a) f b) Q E s := by
  obtain ⟨mA, O, r, _, _, _⟩ := ins_get I.hok e
  obtain ⟨u, hu, ru⟩ := RelO.some_of (v := v) (o := mA f) (by rw [← l]; exact r f)
  exact get_map I.kIn O (c.get f) c.hd n hu (handed_of ru) (h u _ (I.tok _) ru)
theorem getmeth_ok {m : Str} {g : Addr} {pl : Sem Bool} {Q : Value × List Value → Shared → Prop} (I : Inv X pins σ H s) (e : H a = some (.ins C dx fs)) (c : Cls X.K C) (k : Meth X.K C m g) (l : fs.lookup m = none)
    (h : Q (.ref g, [.ref a]) s) : wpAny (model X.prog X.w) A (getMethod (.ref a) m pl) Q E s := by
  obtain ⟨mA, O, r, _, _, _⟩ := ins_get I.hok e
  have hn : mA m = none := RelO.none_of (by rw [← l]; exact r m)
  exact get_meth I.kIn O (c.get m) k.at_ k.fn hn h
theorem setattr_ok {y : V} {u : Value} {Q : Unit → Shared → Prop} (I : Inv X pins σ H s) (e : H a = some (.ins C dx fs)) (c : Cls X.K C) (n : NoAttr X.K C f) (hl : fs.length < 1000) (ry : RelV y u)
    (h : ∀ s', Inv X pins σ (upd H a (.ins C dx (putF f y fs))) s' → Q () s') : wpAny (model X.prog X.w) A (setAttr (.ref a) f u) Q E s := by
  obtain ⟨mA, O, r, wi, _, ho⟩ := ins_get I.hok e
  have hz : (fs.map (·.1)).length ≤ sizeLine := by rw [List.length_map, sizeLine_eq]; omega
  refine set_map I.kIn O c.sa c.po n.taker c.hd wi hz fun h' O' sb => h _ ?_
  have hd : ∃ o, h'.get? dx = some o := let ⟨o, _, _, e', _⟩ := O'.ns; ⟨o, e'⟩
  refine I.write (x := a) (e := dx) (by rw [e]; exact True.intro) (.inr ho) (fun b q hb z => (sb.2 b hb).trans z) hd ?_
  refine ⟨by rw [upd_ne O.ne]; exact ho, ?_, O.ne, O'.obj, _, O'.ns, fun g => ?_, fun g hg => ?_⟩
  · have := length_putF f y fs; omega
  · show RelO ((putF f y fs).lookup g) (if g = f then some u else mA g)
    rw [lookup_putF]
    by_cases q : g = f
    · rw [if_pos q, if_pos q]; exact ry
    · rw [if_neg q, if_neg q]; exact r g
  · by_cases q : g = f
    · rw [q]; exact (keys_putF f y fs).1
    · refine (keys_putF f y fs).2 g (wi g fun z => hg ?_)
      show (if g = f then some u else mA g) = none
      rw [if_neg q]; exact z
theorem Inv.made (I : Inv X pins σ H s) : Inv X pins σ (upd (upd H s.heap.objs.size (.own (s.heap.objs.size + 1))) (s.heap.objs.size + 1) (.ins C s.heap.objs.size []))
    { s with heap := (s.heap.push PySem.W.emptyDict).push (PySem.W.instObj C s.heap.objs.size) } := by
  have e1 : (s.heap.push PySem.W.emptyDict).get? s.heap.objs.size = some PySem.W.emptyDict := Heap.get?_push_size s.heap rfl
  have e2 : ((s.heap.push PySem.W.emptyDict).push (PySem.W.instObj C s.heap.objs.size)).get? (s.heap.objs.size + 1) = some (PySem.W.instObj C s.heap.objs.size) := by
    have := Heap.get?_push_size (s.heap.push PySem.W.emptyDict) (o := PySem.W.instObj C s.heap.objs.size) rfl
    rwa [Heap.size_push] at this
  have e3 : (s.heap.push PySem.W.emptyDict).Ns s.heap.objs.size (fun _ => none) := ⟨PySem.W.emptyDict, #[], _, e1, rfl, (fun e he => absurd he (by simp)), fun _ => rfl⟩
  have I1 := I.laid (a := s.heap.objs.size) (o := .own (s.heap.objs.size + 1)) (h' := s.heap.push PySem.W.emptyDict) (t' := s.toks) (fun b u q => Heap.get?_push_of_some _ q) (Nat.le_refl _) ⟨_, e1⟩
  refine I1.laid (a := s.heap.objs.size + 1) (o := .ins C s.heap.objs.size []) (t' := s.toks) (fun b u q => Heap.get?_push_of_some _ q) (Nat.le_of_eq (Heap.size_push _ _)) ?_
  have ne : s.heap.objs.size ≠ s.heap.objs.size + 1 := Nat.ne_of_lt (Nat.lt_succ_self _)
  refine ⟨by rw [upd_ne ne, upd_same], Nat.zero_le _, ne, e2, fun _ => none, (Heap.Ns1.of_empty e3).at fun o q => Heap.get?_push_of_some _ q, fun _ => True.intro, fun y hy => absurd rfl hy⟩
theorem attr_of {prog : Program} {w : World} {env : Env} {e : Expr} {f : Str} {pos : Pos} {s : Shared} {Q : Value → Shared → Prop} (hb : attributeBase e f env (eval e env) = eval e env)
    (h : wpAny (model prog w) A (eval e env) (fun o s₁ => wpAny (model prog w) A (getAttr o f true) Q E s₁) E s) : wpAny (model prog w) A (eval (.Attribute e f pos) env) Q E s :=
  Attribute_any_ h (by rw [arm_eval_Attribute, hb])
end
inductive tFldR (K : PySem.W.Frag) (f : Str) (Q : VK) (x : V) (H1 : Hp) : Prop
  | mk (a : _) (C : _) (dx : _) (fs : _) (v : _) (h0 : x = .ref a) (h1 : H1 a = some (.ins C dx fs)) (h2 : Cls K C) (h3 : NoAttr K C f) (h4 : fs.lookup f = some v) (h5 : Q v H1) : tFldR K f Q x H1
noncomputable def tFld (K : PySem.W.Frag) (ta : TE) (f : Str) : TE := fun σ H Q => ta σ H fun x H1 => tFldR K f Q x H1
noncomputable def sFld (K : PySem.W.Frag) (ta tv : TE) (f : Str) : TS := fun D σ H => tv σ H fun y H1 => ta σ H1 fun x H2 => ∃ a C dx fs, x = .ref a ∧ H2 a = some (.ins C dx fs) ∧ Cls K C ∧ NoAttr K C f ∧ fs.length < 1000 ∧
  D.nx σ (upd H2 a (.ins C dx (putF f y fs)))
section
variable {X : Cx} {o e value : Expr} {f : Str} {pos pos' tpos : Pos} {ta tv : TE}
theorem pe_fld (he : PE X e ta) (hb : attributeBase e f X.env (eval e X.env) = eval e X.env) : PE X (.Attribute e f pos) (tFld X.K ta f) := by
  intro pins s σ H Q I h
  refine attr_of hb (thn (he pins s σ H _ I h) fun u s1 ⟨x, H1, I1, rx, a, C, dx, fs, v, ex, ea, c, n, l, q⟩ => ?_)
  subst ex
  obtain rfl : u = Value.ref a := rx
  exact getattr_ok I1 ea c n l fun u' s2 I2 ru => ⟨v, H1, I2, ru, q⟩
theorem ps_fld (ha : PE X o ta) (hv : PE X value tv) (hs : swapsWith value (some (.Attribute o f pos')) pos.line X.env = pure false) : PS X (.Assign [.Attribute o f pos'] value pos) (sFld X.K ta tv f) := by
  intro pins s σ H D I h
  refine plainObj_wpAny_Assign_Attribute (thn (hv pins s σ H _ I h) fun u s1 ⟨y, H1, I1, ry, q⟩ => thn (ha pins s1 σ H1 _ I1 q) fun ov s2 ⟨x, H2, I2, rx, a, C, dx, fs, ex, ea, c, n, l, q2⟩ => ?_) hs
  subst ex
  obtain rfl : ov = Value.ref a := rx
  exact setattr_ok I2 ea c n l ry fun s3 I3 => ⟨σ, _, I3, q2⟩
end
section
variable {X : Cx} {pins : List (Addr × Obj)} {σ : St} {H : Hp} {s : Shared} {A : Around} {E : Value → Shared → Prop} {Q : Value → Shared → Prop} {c : Value} {b : Bool}
inductive TyOf (K : PySem.W.Frag) (H : Hp) : V → Value → Prop where
  | non : TyOf K H .non (.type "NoneType")
  | bl (x : Bool) : TyOf K H (.bl x) (.type "bool")
  | int (i : Int) : TyOf K H (.int i) (.type "int")
  | str (x : Str) : TyOf K H (.str x) (.type "str")
  | flt (x : UInt64) : TyOf K H (.flt x) (.type "float")
  | lst {a : Addr} {xs : List V} (e : H a = some (.lst xs)) : TyOf K H (.ref a) (.type "list")
  | frz {a : Addr} {o : Obj} {xs : List V} (e : H a = some (.frz o (.lst xs))) : TyOf K H (.ref a) (.type "list")
  | tup {a : Addr} {xs : List V} (e : H a = some (.tup xs)) : TyOf K H (.ref a) (.type "tuple")
  | dK {a : Addr} {kvs : List (Key × V)} (e : H a = some (.dK kvs)) : TyOf K H (.ref a) (.type "dict")
  | dT {a : Addr} {kvs : List (List Key × V)} (e : H a = some (.dT kvs)) : TyOf K H (.ref a) (.type "dict")
  | ins {a C dx : Addr} {fs : List (Str × V)} (e : H a = some (.ins C dx fs)) (cl : Cls K C) (ha : PySem.W.findIn K (.ref C) "__class__" = some (some (.builtin "object.__class__")))
      (hn : PySem.W.specialIn K (.builtin "object.__class__") "__get__" = some (some (.builtin "getset_descriptor.__get__"))) (htk : PySem.W.takesIn K (.builtin "object.__class__") = some true)
      (hm : PySem.W.mroIn K C (.type "object") = some true) : TyOf K H (.ref a) (.ref C)
theorem isinst_ok {x : V} {u t : Value} (I : Inv X pins σ H s) (rx : RelV x u) (ty : TyOf X.K H x t) (e : PySem.W.kitOne X.K t c = some b) (h : ∀ tk, Q (.bool b) { s with toks := tk }) :
    wpAny (model X.prog X.w) A (call (.builtin "isinstance") [u, c]) Q E s := by
  cases ty with
  | non => cases (show u = Value.none from rx); exact PySem.W.kia_one PySem.W.kitx_none I.kIn True.intro e (fun z => nomatch z) h
  | bl y => cases (show u = Value.bool y from rx); exact PySem.W.kia_one PySem.W.kitx_bool I.kIn True.intro e (fun z => nomatch z) h
  | int i => obtain ⟨t, q⟩ := (show ∃ t, u = Value.int i t from rx); cases q; exact PySem.W.kia_one PySem.W.kitx_int I.kIn True.intro e (fun z => nomatch z) h
  | str y => obtain ⟨t, q⟩ := (show ∃ t, u = Value.str y t from rx); cases q; exact PySem.W.kia_one PySem.W.kitx_str I.kIn True.intro e (fun z => nomatch z) h
  | flt y => obtain ⟨t, q⟩ := (show ∃ t, u = Value.float y t from rx); cases q; exact PySem.W.kia_one PySem.W.kitx_float I.kIn True.intro e (fun z => nomatch z) h
  | @lst a xs ea =>
    cases (show u = Value.ref a from rx)
    obtain ⟨_, _, n, _, h1⟩ := (show ObjOk X.prog X.w H s.heap a (.lst xs) from I.hok a _ ea)
    exact PySem.W.kia_one PySem.W.kitx_list I.kIn ⟨_, h1, rfl⟩ e (fun z => nomatch z) h
  | @frz a ob xs ea =>
    cases (show u = Value.ref a from rx)
    obtain ⟨_, _, _, n, _, h1⟩ := (show ObjOk X.prog X.w H s.heap a (.frz ob (.lst xs)) from I.hok a _ ea)
    exact PySem.W.kia_one PySem.W.kitx_list I.kIn ⟨_, h1, rfl⟩ e (fun z => nomatch z) h
  | @tup a xs ea =>
    cases (show u = Value.ref a from rx)
    obtain ⟨_, _, _, p⟩ := (show ObjOk X.prog X.w H s.heap a (.tup xs) from I.hok a _ ea)
    obtain ⟨o, h1, h2, _⟩ := p
    exact PySem.W.kia_one PySem.W.kitx_tuple I.kIn ⟨o, h1, h2⟩ e (fun z => nomatch z) h
  | @dK a kvs ea =>
    cases (show u = Value.ref a from rx)
    obtain ⟨_, _, vs, _, p⟩ := (show ObjOk X.prog X.w H s.heap a (.dK kvs) from I.hok a _ ea)
    obtain ⟨o, es, ep, h1, h2, _⟩ := p
    exact PySem.W.kia_one PySem.W.kitx_dict I.kIn ⟨o, h1, h2.1⟩ e (fun z => nomatch z) h
  | @dT a kvs ea =>
    cases (show u = Value.ref a from rx)
    obtain ⟨_, _, xs, _, o, es, ep, h1, h2, _⟩ := (show ObjOk X.prog X.w H s.heap a (.dT kvs) from I.hok a _ ea)
    exact PySem.W.kia_one PySem.W.kitx_dict I.kIn ⟨o, h1, h2.1⟩ e (fun z => nomatch z) h
  | @ins a C dx fs ea cl ha hn htk hm =>
    cases (show u = Value.ref a from rx)
    obtain ⟨mA, O, _⟩ := ins_get I.hok ea
    obtain ⟨od, J, _⟩ := O.look
    exact PySem.W.kia_one (PySem.W.kitx_own (cl.get _) cl.hd ha hn htk hm) I.kIn J e (fun z => nomatch z) h
end
end L2
namespace L2
open PySem PySem.Spec PyProof.Rows
structure Room (k : Nat) (A : Around) : Prop where
  hd : A.handled = none
  dp : A.depth + 3 * k + 5 < recursionLimit
  un : A.units + 16 * k + 200 < cLine
theorem Room.mono {j k : Nat} {A : Around} (r : Room k A) (h : j ≤ k) : Room j A := ⟨r.hd, by have := r.dp; omega, by have := r.un; omega⟩
theorem Room.deeper {k : Nat} {A : Around} (r : Room (k + 1) A) (env : Env) : Room k (A.deeper env) :=
  ⟨r.hd, by have := r.dp; show A.depth + 1 + 3 * k + 5 < _; omega, by have := r.un; show A.units + 3 + 16 * k + 200 < _; omega⟩
theorem make_depth {A : Around} {C : Addr} {us : List Value} {kw : List (Str × Value)} : (A.under (.builtin "type.__call__" ⟨.ref C :: us, kw⟩)).depth = A.depth + 1 := by
  first | rfl | simp [Around.under, Code.weight, Code.isCreation, Code.isGuard, Code.isCaller, Code.frames, Code.isFrame, guardIds]
theorem make_units {A : Around} {C : Addr} {us : List Value} {kw : List (Str × Value)} : (A.under (.builtin "type.__call__" ⟨.ref C :: us, kw⟩)).units = A.units + 1 := by
  first | rfl | simp [Around.under, Code.cUnits, Code.frames, Code.isFrame]
theorem Room.make {k : Nat} {A : Around} (r : Room (k + 1) A) (C : Addr) (us : List Value) (kw : List (Str × Value)) : Room k (A.under (.builtin "type.__call__" ⟨.ref C :: us, kw⟩)) :=
  ⟨r.hd, by have := r.dp; rw [make_depth]; omega, by have := r.un; rw [make_units]; omega⟩
theorem Room.depth {k : Nat} {A : Around} (r : Room k A) : A.depth < recursionLimit := by have := r.dp; omega
theorem Room.units {k : Nat} {A : Around} (r : Room k A) : A.units + 64 < cLine := by have := r.un; omega
noncomputable def tNil : TA := fun _ H Q => Q [] H
noncomputable def tCons (ta : TE) (tr : TA) : TA := fun σ H Q => ta σ H fun x H1 => tr σ H1 fun xs H2 => Q (x :: xs) H2
section
variable {X : Cx} {e : Expr} {es : List Expr} {te : TE} {t : TA} {pos : Pos}
theorem pa_nil : PA X [] tNil := fun _ _ _ _ H Q I h => Calls.spliced_nil ⟨[], H, I, .nil, h⟩
theorem pa_cons (ha : PE X e te) (hr : PA X es t) (hs : starEach (e :: es) X.env = (false, eval e X.env) :: starEach es X.env := by rfl) : PA X (e :: es) (tCons te t) := by
  intro pos pins s σ H Q I h
  rw [hs]
  show wpAny _ _ (spliced ((false, eval e X.env) :: backTo pos (starEach es X.env))) _ _ s
  refine Calls.spliced_cons (thn (ha pins s σ H _ I h) fun u s1 ⟨x, H1, I1, r1, q1⟩ => ?_)
  exact thn (hr pos pins s1 σ H1 _ I1 q1) fun us s2 ⟨xs, H2, I2, r2, q2⟩ => ⟨x :: xs, H2, I2, .cons r1 r2, q2⟩
inductive tTupR  (Q : VK) (xs : List V) (H1 : Hp) : Prop
  | mk  (h0 : xs.length ≤ sizeLine) (h1 : ∀ p, H1 p = none → Q (.ref p) (upd H1 p (.tup xs))) : tTupR Q xs H1
noncomputable def tTup (t : TA) : TE := fun σ H Q => t σ H fun xs H1 => tTupR Q xs H1
inductive tLstR  (Q : VK) (xs : List V) (H1 : Hp) : Prop
  | mk  (h0 : xs.length ≤ sizeLine) (h1 : ∀ p, H1 p = none → Q (.ref p) (upd H1 p (.lst xs))) : tLstR Q xs H1
noncomputable def tLst (t : TA) : TE := fun σ H Q => t σ H fun xs H1 => tLstR Q xs H1
theorem pe_tup {x1} (h : PA X es t) : PE X (.Tuple es x1 pos) (tTup t) := by
  intro pins s σ H Q I hq
  refine wpAny_Tuple_spliced (thn (h pos pins s σ H _ I hq) fun us s1 ⟨xs, H1, I1, r, z, q⟩ => ⟨by rw [← r.length]; exact z, ?_⟩)
  have hf : H1 s1.heap.objs.size = none := I1.hok.fresh (Nat.le_refl _)
  refine ⟨.ref s1.heap.objs.size, upd H1 s1.heap.objs.size (.tup xs), I1.laid (t' := s1.toks) (fun b u e => Heap.get?_push_of_some _ e) (Nat.le_refl _) ?_, rfl, q _ hf⟩
  exact ⟨z, us, r, ⟨_, Heap.get?_push_size _ rfl, rfl, _, rfl⟩⟩
theorem pe_lst (h : PA X es t) : PE X (.List es pos) (tLst t) := by
  intro pins s σ H Q I hq
  refine wpAny_List_spliced (thn (h pos pins s σ H _ I hq) fun us s1 ⟨xs, H1, I1, r, z, q⟩ => ⟨by rw [← r.length]; exact z, ?_⟩)
  have hf : H1 s1.heap.objs.size = none := I1.hok.fresh (Nat.le_refl _)
  refine ⟨.ref s1.heap.objs.size, upd H1 s1.heap.objs.size (.lst xs), I1.laid (t' := s1.toks) (fun b u e => Heap.get?_push_of_some _ e) (Nat.le_refl _) ?_, rfl, q _ hf⟩
  exact ⟨z, us, 0, r, Heap.get?_push_size _ rfl⟩
end
noncomputable abbrev Sp := List V → Hp → VK → XK → Prop
noncomputable abbrev CXT := List Env → Hp → Shared → XK → Value → Shared → Prop
structure Env0 (P : Program) (w : World) (K : PySem.W.Frag) (mg : Str → Option Value) (base : Heap) (A : Around) (outer : List Env) (s : Shared) (H : Hp) : Prop where
  frames : A.frames = some outer
  mod : Mod K mg base
  bs : ∀ b o, base.get? b = some o → s.heap.get? b = some o ∧ H b = none
  bsz : base.objs.size ≤ s.heap.objs.size
  funs : s.heap.FunFrames base outer
  frf : ∀ b ∈ frs outer, H b = none
  hok : HOk P w H s.heap
  bare : AllBare s.gens
noncomputable def CE (outer : List Env) (P : Program) (w : World) (H : Hp) (s : Shared) (Q : VK) (u : Value) (s' : Shared) : Prop :=
  ∃ v H', s'.os = s.os ∧ AllBare s'.gens ∧ Un (frs outer) [] H H' s.heap s'.heap ∧ HOk P w H' s'.heap ∧ RelV v u ∧ Q v H'
noncomputable def CR (CX : CXT) (outer : List Env) (P : Program) (w : World) (H : Hp) (s : Shared) (Q : VK) (E : XK) (r : Result) (s' : Shared) : Prop :=
  match r with
  | .ok (.ret u) => CE outer P w H s Q u s'
  | .ok _ => False
  | .error e => CX outer H s E e s'
structure FnOk (P : Program) (w : World) (K : PySem.W.Frag) (mg : Str → Option Value) (base : Heap) (CX : CXT) (k : Nat) (f : Addr) (fd : FuncData) (ps : List Str) (sp : Sp) : Prop where
  len : ∀ vs H Q E, sp vs H Q E → vs.length = ps.length
  run : ∀ (A : Around) (outer : List Env) (s : Shared) (H : Hp) (args : Args) (us : List Value) (vs : List V) (Q : VK) (E : XK), Room k A → Env0 P w K mg base A outer s H → BindsTo s fd args (ps.zip us) → Vals vs us → sp vs H Q E →
    codeAny (model P w) A (.call (.ref f) args) (CR CX outer P w H s Q E) s
theorem Env0.make {P : Program} {w : World} {K : PySem.W.Frag} {mg : Str → Option Value} {base : Heap} {A : Around} {outer : List Env} {s : Shared} {H : Hp} (e : Env0 P w K mg base A outer s H) (C : Addr) (us : List Value) (kw : List (Str × Value)) :
    Env0 P w K mg base (A.under (.builtin "type.__call__" ⟨.ref C :: us, kw⟩)) outer s H := ⟨by first | exact e.frames | (simpa [Around.under, Code.envs, Code.isFrame, pushEnvs] using e.frames), e.mod, e.bs, e.bsz, e.funs, e.frf, e.hok, e.bare⟩
section
variable {X : Cx} {pins : List (Addr × Obj)} {σ : St} {H : Hp} {s s' : Shared}
theorem Inv.env0 (I : Inv X pins σ H s) : Env0 X.prog X.w X.K X.mg X.base X.A X.stack s H :=
  ⟨I.ok.frames, I.ok.mod, I.bs, Nat.le_trans I.ok.bsz I.sz, I.stack, I.stkFree, I.hok, I.bare⟩
theorem Inv.after {Q : VK} {u : Value} (I : Inv X pins σ H s) (h : CE X.stack X.prog X.w H s Q u s') : EP X pins σ Q u s' := by
  obtain ⟨v, H', os, bare, un, hok, r, q⟩ := h
  obtain ⟨hh, g, d, t, os'⟩ := s'
  obtain rfl : os' = s.os := os
  exact ⟨v, H', I.call (h' := hh) (g' := g) (d' := d) (t' := t) (ch := []) un hok bare (fun b z => absurd z (by simp)), r, q⟩
end
noncomputable def tCall (sp : Sp) (dvs : List V) (E : XK) (t : TA) : TE := fun σ H Q => t σ H fun vs H1 => sp (vs ++ dvs) H1 Q E
inductive tMethR (C : Addr) (m : Str) (sp : Sp) (dvs : List V) (E : XK) (t : TA) (σ : St) (Q : VK) (x : V) (H1 : Hp) : Prop
  | mk (a : _) (dx : _) (fs : _) (h0 : x = .ref a) (h1 : H1 a = some (.ins C dx fs)) (h2 : fs.lookup m = none) (h3 : t σ H1 fun vs H2 => sp (x :: (vs ++ dvs)) H2 Q E) : tMethR C m sp dvs E t σ Q x H1
noncomputable def tMeth (C : Addr) (m : Str) (sp : Sp) (dvs : List V) (E : XK) (ta : TE) (t : TA) : TE := fun σ H Q => ta σ H fun x H1 => tMethR C m sp dvs E t σ Q x H1
noncomputable def tMake (C : Addr) (sp : Sp) (dvs : List V) (E : XK) (t : TA) : TE := fun σ H Q => t σ H fun vs H1 => ∀ x dx, H1 x = none → H1 dx = none → dx ≠ x →
  sp (.ref x :: (vs ++ dvs)) (upd (upd H1 dx (.own x)) x (.ins C dx [])) (fun v H2 => v = .non ∧ Q (.ref x) H2) E
noncomputable def Binds (K : PySem.W.Frag) (fd : FuncData) (ps : List Str) (ds : List Value) : Prop :=
  ∀ (s : Shared) (us : List Value), K.In s.heap → (us ++ ds).length = ps.length → BindsTo s fd ⟨us, []⟩ (ps.zip (us ++ ds))
theorem Binds.all {K : PySem.W.Frag} {fd : FuncData} {ps : List Str} (h : ∀ us : List Value, us.length = ps.length → bindArgs fd ⟨us, []⟩ = pure (ps.zip us)) : Binds K fd ps [] := fun s us _ hl => by
  rw [List.append_nil] at hl ⊢
  exact .of_eq (h us hl)
noncomputable def Passes (CX : CXT) (X : Cx) (E : XK) : Prop := ∀ (pins : List (Addr × Obj)) (σ : St) (H : Hp) (s : Shared) (e : Value) (s' : Shared), Inv X pins σ H s → CX X.stack H s E e s' → X.xe e s'
section
variable {X : Cx} {CX : CXT} {k : Nat} {f C : Addr} {fd : FuncData} {ps : List Str} {sp : Sp} {dvs : List V} {ds : List Value} {E : XK} {x m : Str} {p pos apos : Pos} {e o : Expr} {es : List Expr} {ta : TE} {t : TA}
theorem run_fn {pins : List (Addr × Obj)} {σ : St} {H : Hp} {s : Shared} {Q : VK} {us : List Value} {vs : List V} (F : FnOk X.prog X.w X.K X.mg X.base CX k f fd ps sp) (hr : Room k X.A) (hb : Binds X.K fd ps ds) (hd : Vals dvs ds) (hx : Passes CX X E)
    (I : Inv X pins σ H s) (r : Vals vs us) (h : sp (vs ++ dvs) H Q E) : wpAny (model X.prog X.w) X.A (call (.ref f) us) (EP X pins σ Q) X.xe s := by
  have r2 : Vals (vs ++ dvs) (us ++ ds) := r.append hd
  have hl : (us ++ ds).length = ps.length := by rw [← r2.length]; exact F.len _ _ _ _ h
  refine wpAny_call (codeAny_mono (F.run X.A X.stack s H ⟨us, []⟩ (us ++ ds) (vs ++ dvs) Q E hr I.env0 (hb s us I.kIn hl) r2 h) fun r s' hq => ?_)
  cases r with
  | error e => exact hx pins σ H s e s' I hq
  | ok fl =>
    cases fl with
    | ret u => exact I.after hq
    | next => exact False.elim hq
    | brk => exact False.elim hq
    | cont => exact False.elim hq
theorem pe_call (F : FnOk X.prog X.w X.K X.mg X.base CX k f fd ps sp) (hr : Room k X.A) (hg : Gl X x) (hm : X.mg x = some (.ref f)) (hk : PySem.W.keepIn X.K (.ref f) = true) (hb : Binds X.K fd ps ds) (hd : Vals dvs ds) (hx : Passes CX X E)
    (ha : PA X (e :: es) t) (hdb : (x == ("__debug__" : Str)) = false := by decide) (he : starEach (e :: es) X.env = (false, eval e X.env) :: starEach es X.env := by rfl) (hpl : (backTo pos (starEach es X.env)).any (·.1) = false := by rfl) :
    PE X (.Call (.Name x p) (e :: es) [] pos) (tCall sp dvs E t) := by
  intro pins s σ H Q I h
  refine wpAny_Call_Name_kw (ld_glob I hg hm ?_ hdb)
  refine PySem.W.callWith_K (h₀ := X.base) I.ok.mod.kin hk (thn (ha pos pins s σ H _ I h) fun us s1 ⟨vs, H1, I1, r, q⟩ => ⟨I1.kIn, ?_⟩) he hpl
  exact run_fn F hr hb hd hx I1 r q
theorem pe_meth {pl : Sem Bool} (he : PE X o ta) (c : Cls X.K C) (hm : Meth X.K C m f) (F : FnOk X.prog X.w X.K X.mg X.base CX k f fd ps sp) (hr : Room k X.A) (hb : Binds X.K fd ps ds) (hd : Vals dvs ds) (hx : Passes CX X E) (ha : PA X (e :: es) t)
    (hst : starEach (e :: es) X.env = (false, eval e X.env) :: starEach es X.env := by rfl) (hpl : (backTo pos (starEach es X.env)).any (·.1) = false := by rfl)
    (ht : eval (.Call (.Attribute o m apos) (e :: es) [] pos) X.env = (do
      let ov ← eval o X.env
      standAt apos.atName
      let (f, first) ← holding [ov] (getMethod ov m pl)
      callWith pos f first (backTo pos (starEach (e :: es) X.env)) (backToKw pos (keywordEach [] X.env))) := by rfl) :
    PE X (.Call (.Attribute o m apos) (e :: es) [] pos) (tMeth C m sp dvs E ta t) := by
  intro pins s σ H Q I h
  refine PySem.W.methodCall_KW (pl := pl) (thn (he pins s σ H _ I h) fun u s1 ⟨x, H1, I1, rx, a, dx, fs, ex, ea, l, q⟩ => ?_) ht
  subst ex
  obtain rfl : u = Value.ref a := rx
  refine getmeth_ok I1 ea c hm l ?_
  refine PySem.W.callWith_K (first := [.ref a]) (h₀ := X.base) I.ok.mod.kin hm.kp (thn (ha pos pins s1 σ H1 _ I1 q) fun us s2 ⟨vs, H2, I2, r, q2⟩ => ⟨I2.kIn, ?_⟩) hst hpl
  exact run_fn (us := .ref a :: us) (vs := .ref a :: vs) F hr hb hd hx I2 (.cons rfl r) q2
theorem pe_meth0 {pl : Sem Bool} (he : PE X o ta) (c : Cls X.K C) (hm : Meth X.K C m f) (F : FnOk X.prog X.w X.K X.mg X.base CX k f fd ps sp) (hr : Room k X.A) (hb : Binds X.K fd ps ds) (hd : Vals dvs ds) (hx : Passes CX X E)
    (ht : eval (.Call (.Attribute o m apos) [] [] pos) X.env = (do
      let ov ← eval o X.env
      standAt apos.atName
      let (f, first) ← holding [ov] (getMethod ov m pl)
      callWith pos f first (backTo pos (starEach [] X.env)) (backToKw pos (keywordEach [] X.env))) := by rfl) :
    PE X (.Call (.Attribute o m apos) [] [] pos) (tMeth C m sp dvs E ta tNil) := by
  intro pins s σ H Q I h
  refine PySem.W.methodCall_KW (pl := pl) (thn (he pins s σ H _ I h) fun u s1 ⟨x, H1, I1, rx, a, dx, fs, ex, ea, l, q⟩ => ?_) ht
  subst ex
  obtain rfl : u = Value.ref a := rx
  refine getmeth_ok I1 ea c hm l ?_
  exact PySem.W.callWith_K0 (first := [.ref a]) I1.kIn hm.kp (run_fn (us := [.ref a]) (vs := [.ref a]) F hr hb hd hx I1 (.cons rfl .nil) q)
structure Mk (K : PySem.W.Frag) (C f : Addr) : Prop where
  makes : PySem.W.makesIn K C = true
  init : PySem.W.findIn K (.ref C) "__init__" = some (some (.ref f))
  fn : PySem.W.isFn K (.ref f) = true
  kp : PySem.W.keepIn K (.ref C) = true
theorem run_make {pins : List (Addr × Obj)} {σ : St} {H : Hp} {s : Shared} {Q : VK} {us : List Value} {vs : List V} (M : Mk X.K C f) (F : FnOk X.prog X.w X.K X.mg X.base CX k f fd ps sp) (hr : Room (k + 1) X.A) (hb : Binds X.K fd ps ds) (hd : Vals dvs ds)
    (hx : Passes CX X E) (I : Inv X pins σ H s) (r : Vals vs us)
    (h : ∀ x dx, H x = none → H dx = none → dx ≠ x → sp (.ref x :: (vs ++ dvs)) (upd (upd H dx (.own x)) x (.ins C dx [])) (fun v H2 => v = .non ∧ Q (.ref x) H2) E) :
    wpAny (model X.prog X.w) X.A (call (.ref C) us) (EP X pins σ Q) X.xe s := by
  have hq := h (s.heap.objs.size + 1) s.heap.objs.size (I.hok.fresh (Nat.le_succ _)) (I.hok.fresh (Nat.le_refl _)) (Nat.ne_of_lt (Nat.lt_succ_self _))
  have I2 := Inv.made (C := C) I
  have r2 : Vals (V.ref (s.heap.objs.size + 1) :: (vs ++ dvs)) (Value.ref (s.heap.objs.size + 1) :: (us ++ ds)) := .cons rfl (r.append hd)
  have hl : (Value.ref (s.heap.objs.size + 1) :: us ++ ds).length = ps.length := by
    have e := r2.length
    rw [F.len _ _ _ _ hq] at e
    exact e.symm
  refine wpAny_call (make_map (f := f) I.kIn M.makes M.init (beq_iff_eq.mp M.fn) (codeAny_mono (F.run _ X.stack _ _ ⟨Value.ref (s.heap.objs.size + 1) :: us, []⟩ (Value.ref (s.heap.objs.size + 1) :: (us ++ ds)) _ _ E (hr.make C us [])
    (I2.env0.make C us []) (hb _ (Value.ref (s.heap.objs.size + 1) :: us) I2.kIn hl) r2 hq) fun r s' hq' => ?_))
  cases r with
  | error e => exact hx pins σ _ _ e s' I2 hq'
  | ok fl =>
    cases fl with
    | ret u =>
      obtain ⟨v, H', I3, rv, ev, q3⟩ := I2.after hq'
      subst ev
      exact ⟨rv, ⟨V.ref (s.heap.objs.size + 1), H', I3, rfl, q3⟩⟩
    | next => exact False.elim hq'
    | brk => exact False.elim hq'
    | cont => exact False.elim hq'
theorem pe_make (M : Mk X.K C f) (F : FnOk X.prog X.w X.K X.mg X.base CX k f fd ps sp) (hr : Room (k + 1) X.A) (hg : Gl X x) (hm : X.mg x = some (.ref C)) (hb : Binds X.K fd ps ds) (hd : Vals dvs ds) (hx : Passes CX X E)
    (ha : PA X (e :: es) t) (hdb : (x == ("__debug__" : Str)) = false := by decide) (he : starEach (e :: es) X.env = (false, eval e X.env) :: starEach es X.env := by rfl) (hpl : (backTo pos (starEach es X.env)).any (·.1) = false := by rfl) :
    PE X (.Call (.Name x p) (e :: es) [] pos) (tMake C sp dvs E t) := by
  intro pins s σ H Q I h
  refine wpAny_Call_Name_kw (ld_glob I hg hm ?_ hdb)
  refine PySem.W.callWith_K (h₀ := X.base) I.ok.mod.kin M.kp (thn (ha pos pins s σ H _ I h) fun us s1 ⟨vs, H1, I1, r, q⟩ => ⟨I1.kIn, ?_⟩) he hpl
  exact run_make M F hr hb hd hx I1 r q
end
section
variable {X : Cx} {CX : CXT} {k : Nat} {f C : Addr} {fd : FuncData} {ps ks : List Str} {sp : Sp} {E : XK} {x m : Str} {p pos apos kpos : Pos} {e o : Expr} {es : List Expr} {kws : List Keyword} {te ta : TE} {t tk : TA} {nm : Option Str}
variable {g : List Value → List Value → List Value} {gV : List V → List V → List V}
end
structure FnScope (N P : List Str) (sc : Scope) : Prop where
  kind : sc.kind = .function
  co : sc.isCoroutine = false
  gen : sc.isGenerator = false
  nd : N.Nodup
  pre : N.take P.length = P
  par : ∀ x ∈ P, sc.names.lookup x = some .local ∨ sc.names.lookup x = some .cell
  nofree : ∀ y ∈ sc.names, y.2 ≠ .free
theorem bindL_out {kindOf : Str → Option NameKind} {x : Str} : ∀ {binds : List (Str × Value)} {m : Str → Option Value}, (∀ v, (x, v) ∉ binds) → bindL kindOf binds m x = m x
  | [], _, _ => rfl
  | (n, v) :: r, m, h => by
    unfold bindL
    rw [bindL_out fun w hw => h w (List.mem_cons_of_mem _ hw)]
    split
    · have : x ≠ n := by rintro rfl; exact h v List.mem_cons_self
      simp [this]
    · rfl
theorem bindC_out {kindOf : Str → Option NameKind} {x : Str} : ∀ {binds : List (Str × Value)} {m : Str → Option Value}, (∀ v, (x, v) ∉ binds) → bindC kindOf binds m x = m x
  | [], _, _ => rfl
  | (n, v) :: r, m, h => by
    unfold bindC
    rw [bindC_out fun w hw => h w (List.mem_cons_of_mem _ hw)]
    split
    · rfl
    · have : x ≠ n := by rintro rfl; exact h v List.mem_cons_self
      simp [this]
theorem bindL_get {kindOf : Str → Option NameKind} {x : Str} {v : Value} : ∀ {P : List Str} {vs : List Value} {i : Nat} {m : Str → Option Value}, P.Nodup → P[i]? = some x → vs[i]? = some v → kindOf x = some .local →
    bindL kindOf (P.zip vs) m x = some v
  | [], _, _, _, _, h, _, _ => by simp at h
  | _ :: _, [], _, _, _, _, h, _ => by simp at h
  | p :: P, w :: vs, 0, m, nd, h1, h2, hk => by
    simp at h1 h2; subst h1; subst h2
    show bindL kindOf ((p, w) :: P.zip vs) m p = _
    unfold bindL
    rw [bindL_out fun v hv => (List.nodup_cons.mp nd).1 (List.of_mem_zip hv).1, if_pos hk]
    simp
  | p :: P, w :: vs, i + 1, m, nd, h1, h2, hk => by
    show bindL kindOf ((p, w) :: P.zip vs) m x = _
    unfold bindL
    exact bindL_get (i := i) (List.nodup_cons.mp nd).2 (by simpa using h1) (by simpa using h2) hk
theorem bindC_get {kindOf : Str → Option NameKind} {x : Str} {v : Value} : ∀ {P : List Str} {vs : List Value} {i : Nat} {m : Str → Option Value}, P.Nodup → P[i]? = some x → vs[i]? = some v → kindOf x ≠ some .local →
    bindC kindOf (P.zip vs) m x = some v
  | [], _, _, _, _, h, _, _ => by simp at h
  | _ :: _, [], _, _, _, _, h, _ => by simp at h
  | p :: P, w :: vs, 0, m, nd, h1, h2, hk => by
    simp at h1 h2; subst h1; subst h2
    show bindC kindOf ((p, w) :: P.zip vs) m p = _
    unfold bindC
    rw [bindC_out fun v hv => (List.nodup_cons.mp nd).1 (List.of_mem_zip hv).1, if_neg hk]
    simp
  | p :: P, w :: vs, i + 1, m, nd, h1, h2, hk => by
    show bindC kindOf ((p, w) :: P.zip vs) m x = _
    unfold bindC
    exact bindC_get (i := i) (List.nodup_cons.mp nd).2 (by simpa using h1) (by simpa using h2) hk
noncomputable def start (N : List Str) (vs : List V) : St := vs.map some ++ List.replicate (N.length - vs.length) none
noncomputable def cxOf (CX : CXT) (P : Program) (w : World) (K : PySem.W.Frag) (mg : Str → Option Value) (base : Heap) (N : List Str) (qual : Str) (scope : Scope) (f : Addr) (cd : Value) (A : Around) (outer : List Env) (s : Shared) (H : Hp) (E : XK) : Cx where
  prog := P
  w := w
  K := K
  mg := mg
  base := base
  A := A.deeper (envOfC qual scope s.heap.objs.size f cd)
  N := N
  s₀ := s
  H₀ := H
  env := envOfC qual scope s.heap.objs.size f cd
  outer := outer
  stack := envOfC qual scope s.heap.objs.size f cd :: outer
  ex := []
  calm := true
  fn := fun _ => true
  pn := []
  xe := fun e s' => wpAny (model P w) (A.deeper (envOfC qual scope s.heap.objs.size f cd)) (leaving (envOfC qual scope s.heap.objs.size f cd) e) (fun _ s'' => CX outer H s E e s'') (fun e' s'' => CX outer H s E e' s'') s'
theorem cell_has {sc : Scope} {n : Nat} {x : Str} (h : sc.names.lookup x = some .cell) : ∃ c, (cellsFrom n sc.names []).lookup x = some c := by
  have q := PySem.W.cellsFrom_some sc.names n [] (.inl h)
  exact Option.isSome_iff_exists.mp q
theorem inv_start {CX : CXT} {P : Program} {w : World} {K : PySem.W.Frag} {mg : Str → Option Value} {base : Heap} {N ps : List Str} {qual : Str} {scope : Scope} {f : Addr} {cd : Value} {A : Around} {outer : List Env} {s s1 : Shared} {H : Hp} {E : XK} {us : List Value} {vs : List V}
    (S : FnScope N ps scope) (hd : A.handled = none) (e0 : Env0 P w K mg base A outer s H) (hl : vs.length = ps.length) (r : Vals vs us)
    (x : InCallC s s.heap.objs.size (bindL (envOfC qual scope s.heap.objs.size f cd).kindOf (ps.zip us) fun _ => none) (cellsFrom (s.heap.objs.size + 1) scope.names []) (bindC (envOfC qual scope s.heap.objs.size f cd).kindOf (ps.zip us) fun _ => none) s1) :
    Inv (cxOf CX P w K mg base N qual scope f cd A outer s H E) [] (start N vs) H s1 := by
  have hpl : ps.length ≤ N.length := by have := congrArg List.length S.pre; rw [List.length_take] at this; omega
  obtain ⟨h1, tk, rfl, hk⟩ := x.done
  have noA : ∀ b : Addr, b ∉ (cxOf CX P w K mg base N qual scope f cd A outer s H E).ex := fun b z => absurd (show b ∈ ([] : List Addr) from z) (by simp)
  refine ⟨⟨e0.mod, S.kind, rfl, rfl, Nat.le_refl _, fun y z c h1 h2 => ?_, fun y hy => ?_, fun y c _ h => ?_, fun _ => hd, Around.frames_deeper e0.frames, .inr ⟨rfl, rfl⟩, fun b z => absurd z (noA b), e0.bs, e0.bsz, fun b _ _ => noA b, fun b z => absurd z (noA b), e0.funs, e0.frf⟩,
    rfl, e0.bare, Un.kept hk, ⟨_, x.toInCall.ns, fun i y v h1 h2 h3 => ?_⟩, fun y c h => ⟨_, x.cell y c h⟩, e0.hok.fresh (Nat.le_refl _), fun y c h => ?_, fun p hp => absurd (show p ∈ ([] : List (Addr × Obj)) from hp) (by simp), e0.hok.kept hk, ?_⟩
  · exact name_of_addr x.apart (PySem.mem_of_lookup h1) (PySem.mem_of_lookup h2)
  · have hy : scope.names.lookup y = some .cell ∨ scope.names.lookup y = some .free := hy
    rcases hy with hy | hy
    · exact cell_has hy
    · exact absurd rfl (S.nofree _ (PySem.mem_of_lookup hy))
  · exact Nat.le_of_lt (x.above y c (PySem.mem_of_lookup h))
  · have hi : i < vs.length := by
      unfold start at h2
      by_cases hi : i < vs.length
      · exact hi
      · rw [List.getElem?_append_right (by simpa using hi)] at h2
        rw [List.getElem?_replicate] at h2
        split at h2 <;> cases h2
    have ha : vs[i]? = some v := by
      unfold start at h2
      rw [List.getElem?_append_left (by simpa using hi), List.getElem?_map] at h2
      cases e : vs[i]? with
      | none => rw [e] at h2; cases h2
      | some a => rw [e] at h2; cases h2; rfl
    obtain ⟨u, hu, rv⟩ := r.get ha
    have hp : ps[i]? = some y := by
      rw [← S.pre, List.getElem?_take_of_lt (by omega)]; exact h1
    have ndP : ps.Nodup := by rw [← S.pre]; exact S.nd.sublist (List.take_sublist _ _)
    refine ⟨u, rv, ?_⟩
    rcases S.par y (List.mem_of_getElem? hp) with k | k
    · exact .inl ⟨k, bindL_get ndP hp hu k⟩
    · obtain ⟨c, e⟩ := cell_has (n := s.heap.objs.size + 1) k
      refine .inr ⟨.inl k, c, e, ?_⟩
      have q := x.cell y c e
      rw [bindC_get ndP hp hu (by show scope.names.lookup y ≠ _; rw [k]; decide)] at q
      exact q
  · exact e0.hok.fresh (Nat.le_of_lt (x.above y c (PySem.mem_of_lookup h)))
  · unfold start
    show _ = N.length
    rw [List.length_append, List.length_map, List.length_replicate]
    omega
theorem fn_of {CX : CXT} {P : Program} {w : World} {K : PySem.W.Frag} {mg : Str → Option Value} {base : Heap} {k : Nat} {f : Addr} {name qual : Str} {params : Arguments} {body : List Stmt} {scope : Scope} {dV kV doc pm cdv ct oc : Value} {an od : Option Addr}
    {osl : Array (Option Value)} {N ps : List Str} {sp : Sp} (lk : K.lookup f = some ⟨oc, od, .func (PySem.W.fnOf name qual params body scope dV kV doc pm an cdv ct), osl⟩) (hcd : PySem.W.codeIn K cdv qual = true) (S : FnScope N ps scope)
    (len : ∀ vs H Q E, sp vs H Q E → vs.length = ps.length)
    (hbody : ∀ (A : Around) (outer : List Env) (s : Shared) (H : Hp) (vs : List V) (Q : VK) (E : XK), Room k (A.deeper (envOfC qual scope s.heap.objs.size f cdv)) → sp vs H Q E →
      ∃ t, PSs (cxOf CX P w K mg base N qual scope f cdv A outer s H E) body t ∧ t { nx := fun _ H' => Q .non H', rt := Q } (start N vs) H) :
    FnOk P w K mg base CX (k + 1) f (PySem.W.fnOf name qual params body scope dV kV doc pm an cdv ct) ps sp := by
  refine ⟨len, fun A outer s H args us vs Q E hr e0 hb r hsp => ?_⟩
  have hl := len _ _ _ _ hsp
  have KX : K.In s.heap := e0.mod.kin.keeps fun b o e => (e0.bs b o e).1
  have lim : s.heap.NoLimit := e0.mod.nolimit.keeps fun b o e => (e0.bs b o e).1
  have hkind : ∀ y ∈ ps.zip us, scope.names.lookup y.1 = some .local ∨ (scope.names.lookup y.1 = some .cell ∧ ((cellsFrom (s.heap.objs.size + 1) scope.names []).lookup y.1).isSome = true) := fun ⟨n, v⟩ hy => by
    rcases S.par n (List.of_mem_zip hy).1 with q | q
    · exact .inl q
    · exact .inr ⟨q, PySem.W.cellsFrom_some _ _ _ (.inl q)⟩
  refine codeAny_call_function hr.depth (KX _ _ lk) rfl S.co S.gen rfl (PySem.W.codeRec_of KX hcd) (hb _ _ _ _ ?_)
  refine wpAny_newFunctionEnv_cells S.kind hkind fun env he s1 x => ?_
  subst he
  refine ⟨lim.keeps x.toInCall.keep, codeAny_func ?_⟩
  obtain ⟨t, ht, hq⟩ := hbody A outer s H vs Q E (hr.deeper _) hsp
  have I : Inv (cxOf CX P w K mg base N qual scope f cdv A outer s H E) [] (start N vs) H s1 := inv_start S hr.hd e0 hl r x
  refine wpAny_mono (ht [] s1 (start N vs) H _ I hq) (fun fl s' hs => ?_) fun e s' hs => hs
  have fin : ∀ {σ' : St} {H' : Hp} {v : V} {u : Value}, Inv (cxOf CX P w K mg base N qual scope f cdv A outer s H E) [] σ' H' s' → RelV v u → Q v H' → CE outer P w H s Q u s' :=
    fun {σ' H' v u} J rv q => ⟨v, H', J.os, J.bare, J.base, J.hok, rv, q⟩
  cases fl with
  | ret u =>
    obtain ⟨v, σ', H', J, rv, q⟩ := hs
    exact fin J rv q
  | next =>
    obtain ⟨σ', H', J, q⟩ := hs
    exact fin (v := V.non) (u := Value.none) J rfl q
  | brk =>
    obtain ⟨_, _, _, q⟩ := hs
    exact False.elim q
  | cont =>
    obtain ⟨_, _, _, q⟩ := hs
    exact False.elim q
end L2
namespace L2
open PySem PySem.Spec PyProof.Rows
section
variable {X : Cx} {x : Str} {p pos : Pos} {e : Expr} {es : List Expr} {t : TA} {id T : String} {r : List V → Hp → VK → Prop}
noncomputable def tCB (r : List V → Hp → VK → Prop) (t : TA) : TE := fun σ H Q => t σ H fun vs H1 => r vs H1 Q
theorem pe_callB (hc : CallR X (.builtin id) r) (hg : Gl X x) (hm : X.mg x = none) (hv : bootBuiltins x = some (.builtin id)) (ha : PA X (e :: es) t) (hn : x ≠ "__name__" := by decide) (hdb : (x == ("__debug__" : Str)) = false := by decide)
    (he : starEach (e :: es) X.env = (false, eval e X.env) :: starEach es X.env := by rfl) (hpl : (backTo pos (starEach es X.env)).any (·.1) = false := by rfl) : PE X (.Call (.Name x p) (e :: es) [] pos) (tCB r t) := by
  intro pins s σ H Q I h
  refine wpAny_Call_Name_kw (ld_blt I hg hm hv ?_ hn hdb)
  exact PyProof.Rows.callWith_builtin1 (thn (ha pos pins s σ H _ I h) fun us s1 ⟨vs, H1, I1, r1, q1⟩ => hc pins s1 σ H1 vs us Q I1 r1 q1) he hpl
theorem pe_callTy (hc : CallR X (.type T) r) (hg : Gl X x) (hm : X.mg x = none) (hv : bootBuiltins x = some (.type T)) (ha : PA X (e :: es) t) (hn : x ≠ "__name__" := by decide) (hdb : (x == ("__debug__" : Str)) = false := by decide)
    (he : starEach (e :: es) X.env = (false, eval e X.env) :: starEach es X.env := by rfl) (hpl : (backTo pos (starEach es X.env)).any (·.1) = false := by rfl) : PE X (.Call (.Name x p) (e :: es) [] pos) (tCB r t) := by
  intro pins s σ H Q I h
  refine wpAny_Call_Name_kw (ld_blt I hg hm hv ?_ hn hdb)
  exact PyProof.Rows.callWith_type1 (thn (ha pos pins s σ H _ I h) fun us s1 ⟨vs, H1, I1, r1, q1⟩ => hc pins s1 σ H1 vs us Q I1 r1 q1) he hpl
end
end L2
namespace HT
open PySem PyProof.Rows
section
open PySem.SeqAt
open PySem.AutoSeq1 (wpAny_loadPart')
open PySem.MeetsSeq PySem.MeetsSeq2 PySem.MeetsSeq3
end
section
variable {prog : Program} {w : World} {A : Around} {E : Value → Shared → Prop} {s : Shared}
noncomputable def sIx (n d : Nat) : Option Int → Nat
  | none => d
  | some v => if v < 0 then (v + (n : Int)).toNat else min v.toNat n
end
end HT
namespace L2
open PySem PySem.Spec PyProof.Rows
noncomputable abbrev TO := St → Hp → (Option Int → Hp → Prop) → Prop
noncomputable def PO (X : Cx) (e : Option Expr) (t : TO) : Prop :=
  ∀ (pins : List (Addr × Obj)) (s : Shared) (σ : St) (H : Hp) (Q : Option Int → Hp → Prop), Inv X pins σ H s → t σ H Q →
    wpAny (model X.prog X.w) X.A (evalPart e X.env) (fun u s' => ∃ o H', Inv X pins σ H' s' ∧ IsPart u o ∧ Q o H') X.xe s
noncomputable def tNoPart : TO := fun _ H Q => Q none H
inductive tPartR  (Q : (Option Int → Hp → Prop)) (x : V) (H1 : Hp) : Prop
  | mk (i : _) (h0 : x = .int i) (h1 : Q (some i) H1) : tPartR Q x H1
noncomputable def tPart (t : TE) : TO := fun σ H Q => t σ H fun x H1 => tPartR Q x H1
section
variable {X : Cx} {e : Expr} {te : TE} {lo hi : Option Expr} {tl th : TO} {pos p2 : Pos}
theorem po_none : PO X none tNoPart := by
  intro pins s σ H Q I h
  rw [evalPart_none]
  exact wpAny_pure ⟨none, H, I, .none, h⟩
theorem po_some (h : PE X e te) : PO X (some e) (tPart te) := by
  intro pins s σ H Q I hw
  rw [evalPart_some]
  refine thn (h pins s σ H _ I hw) fun u s1 ⟨x, H1, I1, r1, q1⟩ => ?_
  obtain ⟨i, rfl, q⟩ := q1
  obtain ⟨t, rfl⟩ := r1
  exact ⟨some i, H1, I1, .int i t, q⟩
noncomputable def SlR (X : Cx) (r : V → Option Int → Option Int → Hp → VK → Prop) : Prop :=
  ∀ (pins : List (Addr × Obj)) (s : Shared) (σ : St) (H : Hp) (x : V) (v vl vu : Value) (lo hi : Option Int) (sl : Addr) (Q : VK), Inv X pins σ H s → RelV x v → s.heap.IsSliceOf sl vl vu .none → IsPart vl lo → IsPart vu hi → r x lo hi H Q →
    ∃ T id, typeLookup (.type T) "__getitem__" = pure (some (.builtin id)) ∧ s.TypeIs v T ∧ wpAny (model X.prog X.w) X.A (getItem v (.ref sl)) (EP X pins σ Q) X.xe s
noncomputable def tSl (r : V → Option Int → Option Int → Hp → VK → Prop) (te : TE) (tl th : TO) : TE := fun σ H Q => te σ H fun x H1 => tl σ H1 fun l H2 => th σ H2 fun u H3 => r x l u H3 Q
theorem pe_slice {r : V → Option Int → Option Int → Hp → VK → Prop} (hr : SlR X r) (he : PE X e te) (hl : PO X lo tl) (hu : PO X hi th) : PE X (.Subscript e (.Slice lo hi none p2) pos) (tSl r te tl th) := by
  intro pins s σ H Q I h
  refine Subscript_ (thn (he pins s σ H _ I h) fun v s1 ⟨x, H1, I1, r1, q1⟩ => ?_)
  refine wpAny_Slice (thn (hl pins s1 σ H1 _ I1 q1) fun vl s2 ⟨l, H2, I2, pl, q2⟩ => thn (hu pins s2 σ H2 _ I2 q2) fun vu s3 ⟨u, H3, I3, pu, q3⟩ => ?_)
  rw [evalPart_none]
  refine wpAny_pure ?_
  have I4 : Inv X pins σ H3 { s3 with heap := s3.heap.push { cls := .type "slice", data := .fields #[vl, vu, .none] } } := I3.kept (t' := s3.toks) fun b ob q => Heap.get?_push_of_some _ q
  obtain ⟨T, id, hT, ht, hg⟩ := hr pins { s3 with heap := s3.heap.push { cls := .type "slice", data := .fields #[vl, vu, .none] } } σ H3 x v vl vu l u s3.heap.objs.size Q I4 r1 (Heap.IsSliceOf.new ..) pl pu q3
  show wpAny (model X.prog X.w) X.A (subscriptTail e (.Slice lo hi none p2) v (.ref s3.heap.objs.size)) (EP X pins σ Q) X.xe { s3 with heap := s3.heap.push { cls := .type "slice", data := .fields #[vl, vu, .none] } }
  exact tail_any (ops := [.ref s3.heap.objs.size, v]) ht hT hg (by with_unfolding_all rfl)
noncomputable def cutV (xs : List V) (lo hi : Option Int) : List V := (xs.drop (HT.sIx xs.length 0 lo)).take (HT.sIx xs.length xs.length hi - HT.sIx xs.length 0 lo)
theorem cutV_length (xs : List V) (lo hi : Option Int) : (cutV xs lo hi).length ≤ xs.length := by
  unfold cutV
  rw [List.length_take, List.length_drop]
  omega
end
end L2
namespace L2
open PySem PySem.Spec PyProof.Rows
noncomputable def ixN (n : Nat) (i : Int) : Option Nat := if 0 ≤ i then (if i < n then some i.toNat else none) else if -(n : Int) ≤ i then some (i + n).toNat else none
noncomputable def atI {α : Type} (xs : List α) (i : Int) : Option α := (ixN xs.length i).bind fun j => xs[j]?
theorem ixN_seq {n : Nat} {i : Int} {j : Nat} (h : ixN n i = some j) : seqIndex? i n = some j ∧ j < n ∧ -(n : Int) ≤ i ∧ i < n := by
  unfold ixN at h
  by_cases h0 : 0 ≤ i
  · rw [if_pos h0] at h
    by_cases h1 : i < n
    · rw [if_pos h1] at h
      have e : i.toNat = j := Option.some.inj h
      exact ⟨by rw [seqIndex_of h0 h1, e], by omega, by omega, h1⟩
    · rw [if_neg h1] at h; cases h
  · rw [if_neg h0] at h
    by_cases h1 : -(n : Int) ≤ i
    · rw [if_pos h1] at h
      have e : (i + n).toNat = j := Option.some.inj h
      exact ⟨by rw [seqIndex_neg (by omega) h1, e], by omega, h1, by omega⟩
    · rw [if_neg h1] at h; cases h
theorem atI_get {α : Type} {xs : List α} {i : Int} {v : α} (h : atI xs i = some v) : ∃ j, seqIndex? i xs.length = some j ∧ xs[j]? = some v ∧ j < xs.length ∧ -(xs.length : Int) ≤ i ∧ i < xs.length := by
  unfold atI at h
  cases e : ixN xs.length i with
  | none => rw [e] at h; cases h
  | some j =>
    rw [e] at h
    obtain ⟨h1, h2, h3, h4⟩ := ixN_seq e
    exact ⟨j, h1, h, h2, h3, h4⟩
theorem atI_nat {α : Type} {xs : List α} {j : Nat} {v : α} (h : xs[j]? = some v) : atI xs (j : Int) = some v := by
  have hj : j < xs.length := (List.getElem?_eq_some_iff.mp h).1
  have e : ixN xs.length (j : Int) = some j := by
    unfold ixN
    rw [if_pos (by omega), if_pos (by omega)]; simp
  unfold atI; rw [e]; exact h
theorem atI_last {α : Type} (xs : List α) (v : α) : atI (xs ++ [v]) (-1) = some v := by
  have hl : (xs ++ [v]).length = xs.length + 1 := by simp
  have e : ixN (xs ++ [v]).length (-1) = some xs.length := by
    unfold ixN
    rw [hl, if_neg (by decide), if_pos (by omega)]
    congr 1
    omega
  unfold atI
  rw [e]
  show (xs ++ [v])[xs.length]? = some v
  simp
noncomputable def PlainIx (b : Expr) : Prop := ∀ o i, subscripted b false o i = operate [o, i] (getItem o i)
noncomputable def IxR (X : Cx) (r : R2) : Prop :=
  ∀ (value slice : Expr) (pins : List (Addr × Obj)) (s : Shared) (σ : St) (H : Hp) (x y : V) (v u : Value) (Q : VK), Inv X pins σ H s → RelV x v → RelV y u → r x y H Q →
    subscripted slice false v u = operate [v, u] (getItem v u) → wpAny (model X.prog X.w) X.A (subscriptTail value slice v u) (EP X pins σ Q) X.xe s
noncomputable def MtR (X : Cx) (id : String) (r : V → List V → Hp → VK → Prop) : Prop :=
  ∀ (pins : List (Addr × Obj)) (s : Shared) (σ : St) (H : Hp) (x : V) (xs : List V) (v : Value) (us : List Value) (Q : VK), Inv X pins σ H s → RelV x v → Vals xs us → r x xs H Q →
    wpAny (model X.prog X.w) X.A (call (.builtin id) (v :: us)) (EP X pins σ Q) X.xe s
section
variable {X : Cx} {a b : Expr} {ta tb : TE} {pos : Pos}
theorem pe_ix {r : R2} (hr : IxR X r) (ha : PE X a ta) (hb : PE X b tb) (hs : PlainIx b) : PE X (.Subscript a b pos) (tOp r ta tb) := by
  intro pins s σ H Q I h
  exact Subscript_ (binT ha hb I h fun v u s2 x y H2 I2 rx ry q => hr a b pins s2 σ H2 x y v u Q I2 rx ry q (hs _ _))
inductive rIxL (K : PySem.W.Frag) (x : V) (y : V) (H : Hp) (Q : VK) : Prop
  | mk (p : _) (xs : _) (i : _) (v : _) (h0 : x = .ref p) (h1 : y = .int i) (h2 : SqL K H p xs) (h3 : atI xs i = some v) (h4 : Q v H) : rIxL K x y H Q
inductive rIxT (K : PySem.W.Frag) (x : V) (y : V) (H : Hp) (Q : VK) : Prop
  | mk (p : _) (xs : _) (i : _) (v : _) (h0 : x = .ref p) (h1 : y = .int i) (h2 : SqT K H p xs) (h3 : atI xs i = some v) (h4 : Q v H) : rIxT K x y H Q
theorem ix_list : IxR X (rIxL X.K) := by
  intro value slice pins s σ H x y v u Q I rx ry h hs
  obtain ⟨p, xs, i, z, rfl, rfl, hq, he, q⟩ := h
  cases rx
  obtain ⟨t, rfl⟩ := ry
  obtain ⟨its, r, pl, hz⟩ := I.list hq
  obtain ⟨j, h1, h2, h3, h4, h5⟩ := atI_get he
  obtain ⟨w, ew, rw'⟩ := r.get h2
  have hl := r.length
  have hn := line63
  have fin : EP X pins σ Q w s := ⟨z, H, I, rw', q⟩
  by_cases h0 : 0 ≤ i
  · have hj : i.toNat = j := by
      rw [seqIndex_of h0 h5] at h1
      exact Option.some.inj h1
    exact item_listR pl.isList h0 (by omega) (by rw [hj]; simpa using ew) fin hs
  · have hj : (i + (its.toArray.size : Int)).toNat = j := by
      rw [seqIndex_neg (by omega) h4] at h1
      rw [List.size_toArray, ← hl]
      exact Option.some.inj h1
    exact subscriptTail_builtinR (x := w) pl.isList.typeIs slot_list_getitem.lookup
      (wpAny_getItem_list_neg (Q := fun r s' => r = w ∧ EP X pins σ Q r s') pl.isList (by omega) (by rw [List.size_toArray] <;> omega) (by omega) (by rw [hj]; simpa using ew) ⟨rfl, fin⟩) hs
theorem ix_tup : IxR X (rIxT X.K) := by
  intro value slice pins s σ H x y v u Q I rx ry h hs
  obtain ⟨p, xs, i, z, rfl, rfl, hq, he, q⟩ := h
  cases rx
  obtain ⟨t, rfl⟩ := ry
  obtain ⟨its, r, pl, hz⟩ := I.tuple hq
  obtain ⟨j, h1, h2, h3, h4, h5⟩ := atI_get he
  obtain ⟨w, ew, rw'⟩ := r.get h2
  have hl := r.length
  have hn := line63
  have fin : EP X pins σ Q w s := ⟨z, H, I, rw', q⟩
  exact subscriptTail_builtinR (x := w) pl.typeIs slot_tuple_getitem.lookup
    (getItem_tuple (j := j) (Q := fun r s' => r = w ∧ EP X pins σ Q r s') pl (by omega) (by omega) (by rw [List.size_toArray, ← hl]; exact h1) (by simpa using ew) ⟨rfl, fin⟩) hs
theorem Inv.lst {pins : List (Addr × Obj)} {σ : St} {H : Hp} {s : Shared} {p : Addr} {xs : List V} (I : Inv X pins σ H s) (h : H p = some (.lst xs)) :
    ∃ (its : List Value) (n : Nat), Vals xs its ∧ s.heap.get? p = some { cls := .type "list", data := .seq its.toArray n } ∧ xs.length ≤ sizeLine := by
  obtain ⟨z, its, n, r, e⟩ := I.hok p _ h
  exact ⟨its, n, r, e, z⟩
theorem slice_bounds (lo hi : Option Int) (n : Nat) : (sliceBounds lo hi none n).1 = ((HT.sIx n 0 lo : Nat) : Int) ∧ (sliceBounds lo hi none n).2.1 = ((HT.sIx n n hi : Nat) : Int) ∧ (sliceBounds lo hi none n).2.2 = 1 := by
  refine ⟨?_, ?_, rfl⟩
  · cases lo with
    | none => simp [sliceBounds, HT.sIx]
    | some i =>
      simp only [sliceBounds, HT.sIx, Option.getD_none, show (1 : Int) > 0 by decide, if_true]
      by_cases h : i < 0
      · simp only [h, if_true] <;> omega
      · simp only [h, if_false] <;> omega
  · cases hi with
    | none => simp [sliceBounds, HT.sIx]
    | some i =>
      simp only [sliceBounds, HT.sIx, Option.getD_none, show (1 : Int) > 0 by decide, if_true]
      by_cases h : i < 0
      · simp only [h, if_true] <;> omega
      · simp only [h, if_false] <;> omega
theorem slicePick_cut (its : List Value) (lo hi : Option Int) : slicePick its.toArray lo hi none = ((its.drop (HT.sIx its.length 0 lo)).take (HT.sIx its.length its.length hi - HT.sIx its.length 0 lo)).toArray := by
  obtain ⟨h1, h2, h3⟩ := slice_bounds lo hi its.toArray.size
  unfold slicePick
  rw [h1, h2, h3]
  simp only [sliceRange_one, pick_run, List.size_toArray] <;> rfl
inductive rSlL (K : PySem.W.Frag) (x : V) (lo : Option Int) (hi : Option Int) (H : Hp) (Q : VK) : Prop
  | mk (a : _) (xs : _) (h0 : x = .ref a) (h1 : SqL K H a xs) (h2 : ∀ p, H p = none → Q (.ref p) (upd H p (.lst (cutV xs lo hi)))) : rSlL K x lo hi H Q
theorem sl_list : SlR X (rSlL X.K) := by
  intro pins s σ H x v vl vu lo hi sl Q I rx hs pl pu h
  obtain ⟨a, xs, rfl, hx, q⟩ := h
  cases rx
  obtain ⟨its, r, ht, hz⟩ := I.list hx
  have hlen := r.length
  refine ⟨"list", _, slot_list_getitem.lookup, ht.isList.typeIs, ?_⟩
  refine wpAny_getItem_list_slice ht.isList hs pl pu .none (by simp) ?_ (by rw [List.size_toArray] <;> omega)
  rw [slicePick_cut, ← hlen]
  refine ⟨.ref s.heap.objs.size, _, I.laid (t' := s.toks) (o := .lst (cutV xs lo hi)) (fun b ob q => Heap.get?_push_of_some _ q) (Nat.le_refl _) ?_, rfl, q _ (I.hok.fresh (Nat.le_refl _))⟩
  exact ⟨Nat.le_trans (cutV_length xs lo hi) hz, _, 0, (r.drop (HT.sIx xs.length 0 lo)).take (HT.sIx xs.length xs.length hi - HT.sIx xs.length 0 lo), Heap.get?_push_size _ rfl⟩
noncomputable def flatV : V → Bool
  | .non => true
  | .bl _ => true
  | .int _ => true
  | .str _ => true
  | _ => false
noncomputable def eqV : V → V → Bool
  | .non, .non => true
  | .bl a, .bl b => a == b
  | .bl a, .int b => (if a then 1 else 0) == b
  | .int a, .bl b => a == (if b then 1 else 0)
  | .int a, .int b => a == b
  | .str a, .str b => a == b
  | _, _ => false
theorem eqAt_V {A : Around} {s : Shared} {y x : V} {u v : Value} (ry : RelV y u) (rx : RelV x v) (fy : flatV y = true) (fx : flatV x = true) : SeqAt.EqAt A s u v (eqV y x) := by
  cases y with
  | non =>
    cases ry
    cases x with
    | non => cases rx; exact SeqAt.EqAt.same _
    | bl b => cases rx; exact SeqAt.EqAt.none_bool b
    | int b => obtain ⟨t, rfl⟩ := rx; exact SeqAt.EqAt.none_int b t
    | str b => obtain ⟨t, rfl⟩ := rx; exact SeqAt.EqAt.none_str b t
    | _ => exact absurd (show false = true from fx) Bool.false_ne_true
  | bl a =>
    cases ry
    cases x with
    | non => cases rx; exact SeqAt.EqAt.bool_none a
    | bl b => cases rx; exact SeqAt.EqAt.bool_bool a b
    | int b => obtain ⟨t, rfl⟩ := rx; exact SeqAt.EqAt.bool_int a b t
    | str b => obtain ⟨t, rfl⟩ := rx; exact SeqAt.EqAt.bool_str a b t
    | _ => exact absurd (show false = true from fx) Bool.false_ne_true
  | int a =>
    obtain ⟨t', rfl⟩ := ry
    cases x with
    | non => cases rx; exact SeqAt.EqAt.int_none a t'
    | bl b => cases rx; exact SeqAt.EqAt.int_bool a t' b
    | int b => obtain ⟨t, rfl⟩ := rx; exact SeqAt.EqAt.int_int a t' b t
    | str b => obtain ⟨t, rfl⟩ := rx; exact SeqAt.EqAt.int_str a t' b t
    | _ => exact absurd (show false = true from fx) Bool.false_ne_true
  | str a =>
    obtain ⟨t', rfl⟩ := ry
    cases x with
    | non => cases rx; exact SeqAt.EqAt.str_none a t'
    | bl b => cases rx; exact SeqAt.EqAt.str_bool a t' b
    | int b => obtain ⟨t, rfl⟩ := rx; exact SeqAt.EqAt.str_int a t' b t
    | str b => obtain ⟨t, rfl⟩ := rx; exact SeqAt.EqAt.str_str a t' b t
    | _ => exact absurd (show false = true from fx) Bool.false_ne_true
  | _ => exact absurd (show false = true from fy) Bool.false_ne_true
noncomputable def eqU (x : V) (u : Value) : Bool := match u with
  | .none => eqV .non x
  | .bool b => eqV (.bl b) x
  | .int i _ => eqV (.int i) x
  | .str z _ => eqV (.str z) x
  | _ => false
theorem eqU_of {x y : V} {u : Value} (r : RelV y u) (f : flatV y = true) : eqU x u = eqV y x := by
  cases y with
  | non => cases r; rfl
  | bl b => cases r; rfl
  | int i => obtain ⟨t, rfl⟩ := r; rfl
  | str z => obtain ⟨t, rfl⟩ := r; rfl
  | _ => exact absurd (show false = true from f) Bool.false_ne_true
theorem any_eqU {x : V} : ∀ {xs : List V} {us : List Value}, Vals xs us → xs.all flatV = true → us.any (eqU x) = xs.any fun y => eqV y x
  | _, _, .nil, _ => rfl
  | y :: xs, u :: us, .cons r t, f => by
    rw [List.all_cons, Bool.and_eq_true] at f
    rw [List.any_cons, List.any_cons, eqU_of r f.1, any_eqU t f.2]
theorem mem_eqAt {A : Around} {s : Shared} {x : V} {v : Value} (rx : RelV x v) (fx : flatV x = true) : ∀ {xs : List V} {us : List Value}, Vals xs us → xs.all flatV = true → ∀ u ∈ us, SeqAt.EqAt A s u v (eqU x u)
  | _, _, .nil, _ => fun u hu => by cases hu
  | y :: xs, u :: us, .cons r t, f => fun u' hu => by
    rw [List.all_cons, Bool.and_eq_true] at f
    rcases List.mem_cons.mp hu with rfl | hu
    · rw [eqU_of r f.1]; exact eqAt_V r rx f.1 fx
    · exact mem_eqAt rx fx t f.2 u' hu
noncomputable def inV (x : V) (xs : List V) : Bool := xs.any fun y => eqV y x
inductive rIn (K : PySem.W.Frag) (neg : Bool) (x : V) (y : V) (H : Hp) (Q : VK) : Prop
  | mk (p : _) (xs : _) (h0 : y = .ref p) (h1 : (SqL K H p xs ∨ SqT K H p xs)) (h2 : flatV x = true) (h3 : xs.all flatV = true) (h4 : Q (.bl (if neg then !inV x xs else inV x xs)) H) : rIn K neg x y H Q
theorem op_in_seq : OpR X (compareOp .In) (rIn X.K false) := by
  intro pins s σ H x y v u Q I rx ry h
  obtain ⟨p, xs, rfl, hq, fx, fs, q⟩ := h
  cases ry
  rcases hq with hq | hq
  · obtain ⟨its, r, pl, hz⟩ := I.list hq
    refine SeqAt.in_listAt (eqU x) pl.isList (fun w hw => mem_eqAt rx fx r fs w (by simpa using hw)) ⟨.bl _, H, I, rfl, ?_⟩
    rw [show its.toArray.any (eqU x) = its.any (eqU x) by simp, any_eqU r fs]
    exact q
  · obtain ⟨its, r, pl, hz⟩ := I.tuple hq
    refine SeqAt.in_tupleAt (eqU x) pl (fun w hw => mem_eqAt rx fx r fs w (by simpa using hw)) ⟨.bl _, H, I, rfl, ?_⟩
    rw [show its.toArray.any (eqU x) = its.any (eqU x) by simp, any_eqU r fs]
    exact q
theorem op_notIn_seq : OpR X (compareOp .NotIn) (rIn X.K true) := by
  intro pins s σ H x y v u Q I rx ry h
  obtain ⟨p, xs, rfl, hq, fx, fs, q⟩ := h
  cases ry
  rcases hq with hq | hq
  · obtain ⟨its, r, pl, hz⟩ := I.list hq
    refine SeqAt.notIn_listAt (eqU x) pl.isList (fun w hw => mem_eqAt rx fx r fs w (by simpa using hw)) ⟨.bl _, H, I, rfl, ?_⟩
    rw [show its.toArray.any (eqU x) = its.any (eqU x) by simp, any_eqU r fs]
    exact q
  · obtain ⟨its, r, pl, hz⟩ := I.tuple hq
    refine SeqAt.notIn_tupleAt (eqU x) pl (fun w hw => mem_eqAt rx fx r fs w (by simpa using hw)) ⟨.bl _, H, I, rfl, ?_⟩
    rw [show its.toArray.any (eqU x) = its.any (eqU x) by simp, any_eqU r fs]
    exact q
theorem call_len_seq : CallR X (.builtin "len") (fun xs H Q => ∃ p ys, xs = [.ref p] ∧ (SqL X.K H p ys ∨ SqT X.K H p ys) ∧ Q (.int ys.length) H) := by
  intro pins s σ H xs us Q I r h
  obtain ⟨p, ys, rfl, hq, q⟩ := h
  obtain ⟨u, rfl, rx⟩ := vals1 r
  cases rx
  have hn := line63
  rcases hq with hq | hq
  · obtain ⟨its, r', pl, hz⟩ := I.list hq
    have hlen := r'.length
    exact Calls.call_len_list pl.isList (by simp only [List.size_toArray] <;> omega) ⟨.int ys.length, H, I.tok _, ⟨s.toks + 1, by rw [List.size_toArray, hlen]⟩, q⟩
  · obtain ⟨its, r', pl, hz⟩ := I.tuple hq
    have hlen := r'.length
    exact len_tuple pl (by simp only [List.size_toArray] <;> omega) ⟨.int ys.length, H, I.tok _, ⟨s.toks + 1, by rw [List.size_toArray, hlen]⟩, q⟩
theorem call_list_of : CallR X (.type "list") (fun xs H Q => ∃ p ys, xs = [.ref p] ∧ (SqL X.K H p ys ∨ SqT X.K H p ys) ∧ ∀ l, H l = none → Q (.ref l) (upd H l (.lst ys))) := by
  intro pins s σ H xs us Q I r h
  obtain ⟨p, ys, rfl, hq, q⟩ := h
  obtain ⟨u, rfl, rx⟩ := vals1 r
  cases rx
  have fin : ∀ (its : List Value), Vals ys its → ys.length ≤ sizeLine → ∀ (h' : Heap) (c' : Nat), (∀ b o', s.heap.get? b = some o' → h'.get? b = some o') →
      h'.get? s.heap.objs.size = some { cls := .type "list", dict := none, data := .seq its.toArray c', slots := #[] } → EP X pins σ Q (.ref s.heap.objs.size) { s with heap := h' } := fun its r' hz h' c' kp e =>
    ⟨.ref s.heap.objs.size, _, I.laid (t' := s.toks) kp (Nat.le_refl _) (show ObjOk X.prog X.w _ h' _ (.lst ys) from ⟨hz, its, c', r', e⟩), rfl, q _ (I.hok.fresh (Nat.le_refl _))⟩
  rcases hq with hq | hq
  · obtain ⟨its, r', pl, hz⟩ := I.list hq
    have hlen := r'.length
    obtain ⟨o, ho, hc, n, hd⟩ := pl.isList
    exact call_list_seq p (.inl rfl) ho hc hd (fun h' c' kp e => fin its r' hz h' c' kp e) (by simp only [List.size_toArray] <;> omega)
  · obtain ⟨its, r', pl, hz⟩ := I.tuple hq
    have hlen := r'.length
    obtain ⟨o, ho, hc, n, hd⟩ := pl
    exact call_list_seq p (.inr rfl) ho hc hd (fun h' c' kp e => fin its r' hz h' c' kp e) (by simp only [List.size_toArray] <;> omega)
noncomputable def tyV (K : PySem.W.Frag) (T : String) (x : V) (H : Hp) : Prop := match x with
  | .str _ => T = "str"
  | .int _ => T = "int"
  | .ref p => (T = "list" ∧ ∃ xs, SqL K H p xs) ∨ (T = "tuple" ∧ ∃ o, K.lookup p = some o ∧ o.cls = .type "tuple" ∧ o.dict = none) ∨
      (T = "dict" ∧ ((∃ kvs, H p = some (.dK kvs)) ∨ ∃ kvs, H p = some (.dT kvs))) ∨ (T = "set" ∧ ∃ S n, H p = some (.set S n))
  | _ => False
theorem tyV_is {pins : List (Addr × Obj)} {σ : St} {H : Hp} {s : Shared} {T : String} {x : V} {v : Value} (I : Inv X pins σ H s) (r : RelV x v) (ty : tyV X.K T x H) :
    s.TypeIs v T ∧ ∀ a, v = .ref a → ∃ ob, s.heap.get? a = some ob ∧ ob.dict = none := by
  cases x with
  | str z =>
    obtain ⟨t, rfl⟩ := r
    cases (show T = "str" from ty)
    exact ⟨typeIs_str s z t, fun _ e => nomatch e⟩
  | int i =>
    obtain ⟨t, rfl⟩ := r
    cases (show T = "int" from ty)
    exact ⟨typeIs_int s i t, fun _ e => nomatch e⟩
  | ref p =>
    cases r
    rcases ty with ⟨rfl, xs, hq⟩ | ⟨rfl, o, hk, hc, hd⟩ | ⟨rfl, hk⟩ | ⟨rfl, S, n, hk⟩
    · obtain ⟨its, _, pl, _⟩ := I.list hq
      refine ⟨pl.isList.typeIs, fun a e => ?_⟩
      cases e
      obtain ⟨o, n, e, c, hd, _⟩ := pl
      exact ⟨o, e, hd⟩
    · refine ⟨⟨o, I.kIn p o hk, hc⟩, fun a e => ?_⟩
      cases e
      exact ⟨o, I.kIn _ o hk, hd⟩
    · have z : ∃ o, s.heap.get? p = some o ∧ o.ExactDict := by
        rcases hk with ⟨kvs, hk⟩ | ⟨kvs, hk⟩
        · obtain ⟨_, _, _, _, o, _, _, e, ex, _⟩ := I.hok p _ hk
          exact ⟨o, e, ex⟩
        · obtain ⟨_, _, _, _, o, _, _, e, ex, _⟩ := I.hok p _ hk
          exact ⟨o, e, ex⟩
      obtain ⟨o, e, ex⟩ := z
      refine ⟨⟨o, e, ex.1⟩, fun a e2 => ?_⟩
      cases e2
      exact ⟨o, e, ex.2.1⟩
    · obtain ⟨o, _, _, _, e, ex, _⟩ := I.hok p _ hk
      refine ⟨⟨o, e, ex.1⟩, fun a e2 => ?_⟩
      cases e2
      exact ⟨o, e, ex.2.1⟩
  | _ => exact False.elim ty
inductive tBM0R (K : PySem.W.Frag) (T : String) (r : V → List V → Hp → VK → Prop) (Q : VK) (x : V) (H1 : Hp) : Prop
  | mk  (h0 : tyV K T x H1) (h1 : r x [] H1 Q) : tBM0R K T r Q x H1
noncomputable def tBM0 (K : PySem.W.Frag) (T : String) (r : V → List V → Hp → VK → Prop) (to : TE) : TE := fun σ H Q => to σ H fun x H1 => tBM0R K T r Q x H1
inductive tBMR (K : PySem.W.Frag) (T : String) (r : V → List V → Hp → VK → Prop) (t : TA) (σ : St) (Q : VK) (x : V) (H1 : Hp) : Prop
  | mk  (h0 : tyV K T x H1) (h1 : t σ H1 fun xs H2 => r x xs H2 Q) : tBMR K T r t σ Q x H1
noncomputable def tBM (K : PySem.W.Frag) (T : String) (r : V → List V → Hp → VK → Prop) (to : TE) (t : TA) : TE := fun σ H Q => to σ H fun x H1 => tBMR K T r t σ Q x H1
variable {o e : Expr} {es : List Expr} {to : TE} {t : TA} {name : Str} {apos cpos : Pos} {T id : String} {r : V → List V → Hp → VK → Prop}
theorem pe_bm0 (pa : PlainAttrs T) (slot : Slot T name id) (hty : typeOf (.builtin id) = pure (.type "method_descriptor")) (hm : MtR X id r) (ho : PE X o to)
    (hbase : attributeBase o name X.env (eval o X.env) = eval o X.env := by rfl) (hline : (apos.endLine == cpos.line) = true := by rfl) : PE X (.Call (.Attribute o name apos) [] [] cpos) (tBM0 X.K T r to) := by
  intro pins s σ H Q I h
  refine wpAny_Call_method0_late hbase hline (thn (ho pins s σ H _ I h) fun v s1 ⟨x, H1, I1, r1, ty, q1⟩ => ?_)
  obtain ⟨h1, h2⟩ := tyV_is I1 r1 ty
  exact ⟨T, id, pa, slot, hty, h1, h2, Calls.callWith_builtin rfl (PySem.evalArgs_none (hm pins s1 σ H1 x [] v [] Q I1 r1 .nil q1))⟩
theorem pe_bm (pa : PlainAttrs T) (slot : Slot T name id) (hty : typeOf (.builtin id) = pure (.type "method_descriptor")) (hm : MtR X id r) (ho : PE X o to) (ha : PA X (e :: es) t)
    (hbase : attributeBase o name X.env (eval o X.env) = eval o X.env := by rfl)
    (hfew : ((backTo cpos (starEach (e :: es) X.env)).all (fun x => !x.1) && (backToKw cpos (keywordEach [] X.env)).all (fun x => x.1.isSome)
      && decide ((e :: es).length + ([] : List Keyword).length + (if ([] : List Keyword).isEmpty then 0 else 1) < 30)) = true := by rfl)
    (hline : (apos.endLine == cpos.line) = true := by rfl) (hs : starEach (e :: es) X.env = (false, eval e X.env) :: starEach es X.env := by rfl) (hplain : (backTo cpos (starEach es X.env)).any (·.1) = false := by rfl) :
    PE X (.Call (.Attribute o name apos) (e :: es) [] cpos) (tBM X.K T r to t) := by
  intro pins s σ H Q I h
  refine wpAny_Call_method_late hbase hfew hline rfl (thn (ho pins s σ H _ I h) fun v s1 ⟨x, H1, I1, r1, ty, q1⟩ => ?_)
  obtain ⟨h1, h2⟩ := tyV_is I1 r1 ty
  refine ⟨T, id, pa, slot, hty, h1, h2, ?_⟩
  have hA := ha cpos pins s1 σ H1 _ I1 q1
  rw [hs] at hA ⊢
  refine Calls.callWith_builtin (by show (false || (backTo cpos (starEach es X.env)).any (·.1)) = false; rw [hplain] <;> rfl) (Calls.evalArgs_plain ?_)
  exact thn hA fun us s2 ⟨vs, H2, I2, r2, q2⟩ => hm pins s2 σ H2 x vs v us Q I2 r1 r2 q2
/- xs.append(e), list.index on a module's tuple .. are MtR facts of 06m -/
end
end L2
namespace L2
open PySem PySem.Spec PyProof.Rows
noncomputable def MtM (X : Cx) (id : String) (r : V → List V → Hp → VK → Prop) : Prop :=
  ∀ (pins : List (Addr × Obj)) (s : Shared) (σ : St) (H : Hp) (x : V) (xs : List V) (v : Value) (us : List Value) (Q : VK), Inv X pins σ H s → RelV x v → Vals xs us → r x xs H Q →
    wpAny (model X.prog X.w) X.A (call (.builtin id) (v :: us)) (EP X pins σ Q) X.xe s
theorem Vals.one : ∀ {x : V} {us : List Value}, Vals [x] us → ∃ u, us = [u] ∧ RelV x u
  | _, _, .cons r .nil => ⟨_, rfl, r⟩
theorem Vals.zero : ∀ {us : List Value}, Vals [] us → us = []
  | _, .nil => rfl
theorem Vals.dropLast {xs : List V} {us : List Value} (h : Vals xs us) : Vals xs.dropLast us.dropLast := by
  induction h with
  | nil => exact .nil
  | cons r t ih =>
    cases t with
    | nil => exact .nil
    | cons q t' => exact .cons r ih
theorem Vals.reverse {xs : List V} {us : List Value} (h : Vals xs us) : Vals xs.reverse us.reverse := by
  induction h with
  | nil => exact .nil
  | cons r t ih => rw [List.reverse_cons, List.reverse_cons]; exact Vals.append ih (.cons r .nil)
theorem Vals.rep {xs : List V} {us : List Value} (h : Vals xs us) : ∀ k : Nat, Vals (List.replicate k xs).flatten (List.replicate k us).flatten
  | 0 => .nil
  | k + 1 => by
    rw [List.replicate_succ, List.replicate_succ, List.flatten_cons, List.flatten_cons]
    exact Vals.append h (Vals.rep h k)
theorem erase_last {α : Type} (l : List α) : l.eraseIdx (l.length - 1) = l.dropLast := by
  induction l with
  | nil => rfl
  | cons a r ih =>
    cases r with
    | nil => rfl
    | cons b r =>
      have e : (a :: b :: r).length - 1 = ((b :: r).length - 1) + 1 := by
        have h1 : (a :: b :: r).length = r.length + 2 := rfl
        have h2 : (b :: r).length = r.length + 1 := rfl
        omega
      rw [e, List.eraseIdx_cons_succ, ih]
      all_goals rfl
theorem foldl_rep (its : List Value) : ∀ (k : Nat) (acc : List Value),
    List.foldl (fun x1 x2 => x1 ++ x2) acc.toArray (List.replicate k its.toArray) = (acc ++ (List.replicate k its).flatten).toArray
  | 0, acc => by simp
  | k + 1, acc => by
    have e : acc.toArray ++ its.toArray = (acc ++ its).toArray := by simp
    have e2 : (acc ++ its) ++ (List.replicate k its).flatten = acc ++ (List.replicate (k + 1) its).flatten := by
      rw [List.replicate_succ, List.flatten_cons, List.append_assoc]
    rw [← e2, ← foldl_rep its k (acc ++ its), ← e, List.replicate_succ, List.foldl_cons]
section
variable {X : Cx} {pins : List (Addr × Obj)} {σ : St} {H : Hp} {s : Shared} {l b : Addr} {xs ys zs : List V}
theorem Inv.lset {its its' : List Value} {n : Nat} {f : Array Value → Array Value} {t' : Nat} (I : Inv X pins σ H s) (hH : H l = some (.lst xs))
    (e : s.heap.get? l = some { cls := .type "list", data := .seq its.toArray n }) (hf : f its.toArray = its'.toArray) (hv : Vals ys its') (hz : ys.length ≤ sizeLine) :
    Inv X pins σ (upd H l (.lst ys)) { s with heap := s.heap.update l (Obj.mapSeq f), toks := t' } := by
  have q := PySem.IsL.update e f
  rw [hf] at q
  refine I.write (x := l) (e := l) (by rw [hH]; exact trivial) (.inl rfl) (fun b' u hb hu => (Heap.get?_update_other s.heap (Obj.mapSeq f) (Ne.symm hb)).trans hu) ⟨_, q⟩ ?_
  exact ⟨hz, its', _, hv, q⟩
theorem Inv.lnew {its : List Value} {t' : Nat} (I : Inv X pins σ H s) (hv : Vals ys its) (hz : ys.length ≤ sizeLine) :
    Inv X pins σ (upd H s.heap.objs.size (.lst ys)) { s with heap := s.heap.push { cls := .type "list", data := .seq its.toArray }, toks := t' } :=
  I.laid (fun _ _ q => Heap.get?_push_of_some _ q) (Nat.le_refl _) ⟨hz, its, 0, hv, Heap.get?_push_size _ rfl⟩
theorem Inv.fresh (I : Inv X pins σ H s) : H s.heap.objs.size = none := I.hok.fresh (Nat.le_refl _)
theorem Inv.lstM (I : Inv X pins σ H s) (hH : H l = some (.lst xs)) : xs.length ≤ sizeLine ∧ ∃ (its : List Value) (n : Nat), Vals xs its ∧ xs.length = its.length ∧ s.heap.get? l = some { cls := .type "list", data := .seq its.toArray n } := by
  obtain ⟨z, its, n, r, e⟩ := I.hok l _ hH
  exact ⟨z, its, n, r, r.length, e⟩
theorem notLongL {n : Nat} (h : n ≤ sizeLine) : Builtin.List.listTooLong n = false := by
  unfold Builtin.List.listTooLong
  exact decide_eq_false (by omega)
end
section
variable {X : Cx}
inductive rAppend  (x : V) (vs : List V) (H : Hp) (Q : VK) : Prop
  | mk (l : _) (xs : _) (y : _) (h0 : x = .ref l) (h1 : vs = [y]) (h2 : H l = some (.lst xs)) (h3 : xs.length < sizeLine) (h4 : Q .non (upd H l (.lst (xs ++ [y])))) : rAppend x vs H Q
theorem mt_append : MtM X "list.append" rAppend := by
  intro pins s σ H x vs v us Q I rx rv h
  obtain ⟨l, xs, y, rfl, rfl, hH, hz, q⟩ := h
  cases rx
  obtain ⟨u, rfl, ru⟩ := rv.one
  obtain ⟨z, its, n, r, hl, e⟩ := I.lstM hH
  refine call_meets F.slot_list_append ⟨_, e, rfl⟩ F.entry_list_append (F.args_list_append_2 _ _) (PySem.list_append l its.toArray n u (by rw [List.size_toArray]; omega)) ⟨e, ?_⟩
  refine ⟨.non, _, I.lset (its' := its ++ [u]) hH e (by simp) (r.append (.cons ru .nil)) ?_, rfl, q⟩
  rw [List.length_append, List.length_singleton]
  omega
inductive rExtend  (x : V) (vs : List V) (H : Hp) (Q : VK) : Prop
  | mk (l : _) (b : _) (xs : _) (zs : _) (h0 : x = .ref l) (h1 : vs = [.ref b]) (h2 : H l = some (.lst xs)) (h3 : H b = some (.lst zs)) (h4 : xs.length + zs.length ≤ sizeLine) (h5 : Q .non (upd H l (.lst (xs ++ zs)))) : rExtend x vs H Q
theorem mt_extend : MtM X "list.extend" rExtend := by
  intro pins s σ H x vs v us Q I rx rv h
  obtain ⟨l, b, xs, zs, rfl, rfl, hH, hB, hz, q⟩ := h
  cases rx
  obtain ⟨u, rfl, ru⟩ := rv.one
  cases ru
  obtain ⟨z, its, n, r, hl, e⟩ := I.lstM hH
  obtain ⟨z2, its2, n2, r2, hl2, e2⟩ := I.lstM hB
  have hsz : its.toArray.size + its2.toArray.size ≤ sizeLine := by rw [List.size_toArray, List.size_toArray]; omega
  have hlong : ¬ (!its.toArray.isEmpty && Builtin.List.listTooLong (its.toArray.size + its2.toArray.size)) = true := by
    rw [notLongL hsz, Bool.and_false]
    exact Bool.false_ne_true
  refine call_meets F.slot_list_extend ⟨_, e, rfl⟩ F.entry_list_extend (F.args_list_extend_2 _ _)
    (AutoSeq1.list_extend_list_list_0 l its.toArray n b its2.toArray n2 hlong (by rw [List.size_toArray]; omega) (by omega)) ⟨e, e2, ?_⟩
  refine ⟨.non, _, I.lset (its' := its ++ its2) hH e (by simp) (r.append r2) ?_, rfl, q⟩
  rw [List.length_append]
  omega
inductive rPop  (x : V) (vs : List V) (H : Hp) (Q : VK) : Prop
  | mk (l : _) (xs : _) (y : _) (h0 : x = .ref l) (h1 : vs = []) (h2 : H l = some (.lst xs)) (h3 : xs[xs.length - 1]? = some y) (h4 : Q y (upd H l (.lst xs.dropLast))) : rPop x vs H Q
theorem mt_pop : MtM X "list.pop" rPop := by
  intro pins s σ H x vs v us Q I rx rv h
  obtain ⟨l, xs, y, rfl, rfl, hH, hy, q⟩ := h
  cases rx
  have hus := rv.zero
  subst hus
  obtain ⟨z, its, n, r, hl, e⟩ := I.lstM hH
  obtain ⟨u, hu, ru⟩ := r.get hy
  have hy' : its.toArray[its.toArray.size - 1]? = some u := by
    show its.toArray[its.length - 1]? = some u
    rw [← Array.getElem?_toList, ← hl]
    exact hu
  refine call_meets F.slot_list_pop ⟨_, e, rfl⟩ F.entry_list_pop (F.args_list_pop_1 _) (MeetsSeq.list_pop_last l its.toArray n u hy' (by rw [List.size_toArray]; omega)) ⟨e, ?_⟩
  refine ⟨y, _, I.lset (its' := its.dropLast) hH e ?_ r.dropLast ?_, ru, q⟩
  · show its.toArray.eraseIdxIfInBounds (its.toArray.size - 1) = its.dropLast.toArray
    rw [List.size_toArray, List.eraseIdxIfInBounds_toArray, erase_last]
  · rw [List.length_dropLast]
    omega
inductive rClear  (x : V) (vs : List V) (H : Hp) (Q : VK) : Prop
  | mk (l : _) (xs : _) (h0 : x = .ref l) (h1 : vs = []) (h2 : H l = some (.lst xs)) (h3 : Q .non (upd H l (.lst []))) : rClear x vs H Q
theorem mt_clear : MtM X "list.clear" rClear := by
  intro pins s σ H x vs v us Q I rx rv h
  obtain ⟨l, xs, rfl, rfl, hH, q⟩ := h
  cases rx
  have hus := rv.zero
  subst hus
  obtain ⟨z, its, n, r, hl, e⟩ := I.lstM hH
  refine call_meets F.slot_list_clear ⟨_, e, rfl⟩ F.entry_list_clear (F.args_list_clear_1 _) (AutoSeq1.list_clear_list_0 l its.toArray n (by rw [List.size_toArray]; omega)) ⟨e, ?_⟩
  exact ⟨.non, _, I.lset (its' := []) (ys := []) hH e rfl .nil (Nat.zero_le _), rfl, q⟩
inductive rCat  (x : V) (y : V) (H : Hp) (Q : VK) : Prop
  | mk (l : _) (b : _) (xs : _) (zs : _) (h0 : x = .ref l) (h1 : y = .ref b) (h2 : H l = some (.lst xs)) (h3 : H b = some (.lst zs)) (h4 : xs.length + zs.length ≤ sizeLine) (h5 : ∀ p, H p = none → Q (.ref p) (upd H p (.lst (xs ++ zs)))) : rCat x y H Q
theorem op_cat : OpR X (binaryOp .Add) rCat := by
  intro pins s σ H x y v u Q I rx ry h
  obtain ⟨l, b, xs, zs, rfl, rfl, hH, hB, hz, q⟩ := h
  cases rx
  cases ry
  obtain ⟨z, its, n, r, hl, e⟩ := I.lstM hH
  obtain ⟨z2, its2, n2, r2, hl2, e2⟩ := I.lstM hB
  refine PySem.P.add_list e e2 ?_ (by rw [List.size_toArray, List.size_toArray]; omega)
  have ea : its.toArray ++ its2.toArray = (its ++ its2).toArray := by simp
  rw [ea]
  exact ⟨.ref _, _, I.lnew (t' := s.toks) (r.append r2) (by rw [List.length_append]; omega), rfl, q _ I.fresh⟩
noncomputable def rRep : R2 := fun x y H Q => ∃ l k xs, x = .ref l ∧ y = .int k ∧ H l = some (.lst xs) ∧ -(2 ^ 63) ≤ k ∧ k < 2 ^ 63 ∧ xs.length * k.toNat ≤ sizeLine ∧
  ∀ p, H p = none → Q (.ref p) (upd H p (.lst (List.replicate k.toNat xs).flatten))
theorem len_rep {α : Type} (xs : List α) (k : Nat) : (List.replicate k xs).flatten.length = k * xs.length := by
  induction k with
  | zero => simp
  | succ k ih => rw [List.replicate_succ, List.flatten_cons, List.length_append, ih, Nat.succ_mul, Nat.add_comm]
theorem op_rep : OpR X (binaryOp .Mult) rRep := by
  intro pins s σ H x y v u Q I rx ry h
  obtain ⟨l, k, xs, rfl, rfl, hH, h1, h2, hz, q⟩ := h
  cases rx
  obtain ⟨t, rfl⟩ := ry
  obtain ⟨z, its, n, r, hl, e⟩ := I.lstM hH
  have hlen : its.toArray.size * k.toNat ≤ sizeLine := by rw [List.size_toArray, ← hl]; exact hz
  have hcap : ¬ its.toArray.size * k.toNat > (2 ^ 63 - 1) / 8 := by
    have : (sizeLine : Nat) ≤ (2 ^ 63 - 1) / 8 := by decide
    omega
  have hfit : ¬ (!Builtin.List.listFitsIndex k) = true := by
    rw [fitsIndex_both h1 h2]
    exact Bool.false_ne_true
  have hlong : ¬ Builtin.List.listTooLong (its.toArray.size * k.toNat) = true := by
    rw [notLongL hlen]
    exact Bool.false_ne_true
  have hnew : List.foldl (fun x1 x2 => x1 ++ x2) #[] (List.replicate (if its.toArray.isEmpty = true then 0 else k.toNat) its.toArray) = (List.replicate k.toNat its).flatten.toArray := by
    have f0 : ∀ m : Nat, List.foldl (fun x1 x2 => x1 ++ x2) #[] (List.replicate m its.toArray) = (List.replicate m its).flatten.toArray := fun m => by
      have := foldl_rep its m []
      rw [List.nil_append] at this
      exact this
    rw [f0]
    cases its with
    | nil => simp
    | cons a r' => rw [if_neg (by simp)]
  refine wpAny_binaryOp_repeat_ref (T := "list") (U := "int") (by decide) ⟨_, e, rfl⟩ (fun s' => typeIs_int s' k t) noFill_list_mul F.fills_int_mul F.slot_int_rmul repeat_list F.slot_int_index.lookup
    (call_meets F.slot_int_rmul (typeIs_int s k t) F.entry_int_rmul (F.args_int_rmul_2 _ _) (int___rmul___int_list k t l its.toArray n)
      ⟨e, rfl, ⟨_, e, rfl⟩, call_meets F.slot_list_mul ⟨_, e, rfl⟩ F.entry_list_mul (F.args_list_mul_2 _ _) (AutoListH.list___mul___list_int_3 l its.toArray n k t hfit hcap hlong) ⟨e, ?_⟩⟩)
  rw [hnew]
  exact ⟨.ref _, _, I.lnew (t' := s.toks) (r.rep k.toNat) (by rw [len_rep, Nat.mul_comm]; exact hz), rfl, q _ I.fresh⟩
end
section
variable {prog : Program} {w : World} {A : Around} {E : Value → Shared → Prop} {s : Shared}
end
section
variable {X : Cx}
end
end L2
namespace Att
open PySem PySem.W PySem.Calls PyProof.Rows
theorem ints_of_wellAll {P : Params} {h : Heap} : ∀ (ns : List Int) (vs : List Value), WellAll P h vs (ns.map WData.int) → IntsAre vs ns := by
  intro ns
  induction ns with
  | nil =>
    intro vs w
    rw [List.map_nil] at w
    cases w
    exact .nil
  | cons n ns ih =>
    intro vs w
    rw [List.map_cons] at w
    cases w with
    | cons a b =>
      cases a
      exact .cons _ _ (ih _ b)
theorem script_of {l : OpenLaw} {n : Nat} (hn : l.most = some n) {P : Params} {h : Heap} {args : List WData} {vals : List Value}
    (hpre : l.row.toRowW.claim.pre args = true) (hwl : WellAll P h vals args) :
    ∃ a vs ns, vals = [Value.ref a] ∧ args = [WData.list (ns.map WData.int)] ∧ h.get? a = some { cls := .type "list", data := .seq vs.toArray } ∧ IntsAre vs ns ∧ ns.length ≤ n := by
  have hsh : WShape.hasAll [] args [.list .int] = true := (pre_splitW hpre).1
  have hc : l.pre.holds [] { args := args } = true := (pre_splitW hpre).2
  obtain ⟨d, r, rfl, h1, h2⟩ := hasAllW_cons hsh
  obtain rfl := hasAllW_nil h2
  obtain ⟨xs, rfl, h3⟩ := hasW_list h1
  obtain ⟨ns, rfl⟩ := items_int h3
  have hlen : ns.length ≤ n := by
    unfold OpenLaw.pre at hc
    have h4 : (WTm.not (.lt (.lit (.int (n : Int))) (.len (.arg 0)))).holds [] { args := [.list (ns.map .int)] } = true := by
      have h4 := (holds_andW hc).1
      rw [hn] at h4
      exact h4
    have h5 := condW_of h4 (w_not (w_lt w_lit (w_len_list (w_arg rfl))))
    rw [List.length_map] at h5
    refine Nat.le_of_not_lt fun q => ?_
    have q' : (n : Int) < ((ns.length : Nat) : Int) := by omega
    first
      | (rw [decide_eq_true q'] at h5; exact absurd h5 (by decide))
      | (simp at h5; omega)
  cases hwl with
  | cons w1 w2 =>
    cases w2
    cases w1 with
    | list ho hall => exact ⟨_, _, ns, rfl, rfl, ho, ints_of_wellAll ns _ hall, hlen⟩
theorem post_true (l : OpenLaw) (args : List WData) : l.row.toRowW.claim.post args (.bool true) args = true :=
  postW_of (r := l.row.toRowW) (X := (true == true))
    (show WShape.has [] (.bool true) .bool = true by first | rfl | decide | simp [WShape.has, WShape.arms, WShape.armsAll])
    (show (WTm.eq .res (.lit (.bool true))).value [] { args := args, res := some (.bool true), after := args } = some (.bool (true == true)) from w_eq_bool (w_res rfl) w_lit) rfl
theorem attach_call {l : OpenLaw} {n : Nat} {q : Program} {loose : List Str} {XP : (Str → Option Value) → Heap → Prop} {YP : World → Heap → Prop} {d : DefRec}
    (hn : l.most = some n) (hdf : d.params.defaults = [])
    (call : ∀ (w : World) (s₀ s₁ : Shared) (mg mb : Str → Option Value) (fa : Addr) (o : Obj) (pm cd doc : Value) (a : Addr) (vs : List Value) (ns : List Int),
      Ground q loose [] XP w s₀ mg mb s₁.heap → YP w s₁.heap →
      s₁.heap.get? fa = some o → o.data = .func (docDef d.name d.params d.body d.scope pm cd doc) → s₁.heap.CodeRec cd d.name → mg d.name = some (.ref fa) →
      s₁.heap.get? a = some { cls := .type "list", data := .seq vs.toArray } → IntsAre vs ns → ns.length ≤ n → s₁.gens = #[] →
      codeAny (model l.prog w) callerA (.call (.ref fa) ⟨[.ref a], []⟩) (fun r s' => r = .ok (.ret (.bool true)) ∧ OldK s₁.heap s'.heap ∧ s'.os = s₁.os ∧ AllBare s'.gens) s₁) :
    WalkO q loose XP YP l.row.toRowW d [] (fun f vs => PySem.call f vs) := by
  intro w s₀ s₁ mg mb G Y fa o pm cd doc dV kV ho hd hcd hD hmg hg args vals as hpre hlay hrd hwl hlo
  obtain rfl : dV = .none := Dflts.none hD hdf
  obtain rfl : kV = .none := Dflts.noKw hD
  obtain ⟨a, vs, ns, rfl, rfl, hobj, hints, hlen⟩ := script_of hn hpre hwl
  refine enter_call (codeAny_mono (call w s₀ s₁ mg mb fa o pm cd doc a vs ns G Y ho (fd_plain hd) hcd hmg hobj hints hlen hg) fun r s' hq => ?_)
  obtain ⟨rfl, h2, h3, h4⟩ := hq
  exact ⟨.inl ⟨.bool true, .bool true, [], rfl, fun _ => rfl, .bool true, post_true l _, fun _ => ⟨List.Pairwise.nil, fun _ hm => (nomatch hm)⟩⟩, h2, h3, h4⟩
section
variable {prog : Program} {w : World} {A : Around} {E : Value → Shared → Prop} {s : Shared} {K : Frag}
end
end Att
namespace L2
open PySem PySem.Spec PyProof.Rows
theorem vals_ints : ∀ {vs : List Value} {ns : List Int}, IntsAre vs ns → Vals (ns.map V.int) vs
  | _, _, .nil => .nil
  | _, _, .cons n t h => .cons ⟨t, rfl⟩ (vals_ints h)
noncomputable def Only (H : Hp) : Prop := ∀ b, H b = none ∨ ∃ o xs, H b = some (.frz o (.lst xs))
theorem law_call {P : Program} {w : World} {K : PySem.W.Frag} {mg mb : Str → Option Value} {CX : CXT} {k : Nat} {fa a : Addr} {fd : FuncData} {x : Str} {sp : Sp} {s₁ : Shared} {vs : List Value} {ns : List Int}
    (KX : K.In s₁.heap) (hns : s₁.heap.Ns mainGlobals mg) (hb : s₁.heap.Ns builtinsNs mb) (hbb : ∀ x : Str, x ≠ "__name__" → mb x = bootBuiltins x) (hlim : s₁.heap.NoLimit) (hg : s₁.gens = #[])
    (ha : s₁.heap.get? a = some { cls := .type "list", data := .seq vs.toArray }) (hi : IntsAre vs ns) (hl : ns.length ≤ sizeLine) (hr : Room k callerA)
    (F : ∀ base : Heap, K.In base → base.Ns mainGlobals mg → FnOk P w K mg base CX k fa fd [x] sp) (hbind : ∀ (s : Shared) (u : Value), BindsTo s fd ⟨[u], []⟩ [(x, u)])
    (hsp : ∀ H : Hp, Only H → SqL K H a (ns.map V.int) → sp [.ref a] H (fun v _ => v = .bl true) fun _ _ _ => False)
    (hCX : ∀ H e s', CX [] H s₁ (fun _ _ _ => False) e s' → False) :
    codeAny (model P w) callerA (.call (.ref fa) ⟨[.ref a], []⟩) (fun r s' => r = .ok (.ret (.bool true)) ∧ OldK s₁.heap s'.heap ∧ s'.os = s₁.os ∧ AllBare s'.gens) s₁ := by
  have rv := vals_ints hi
  have lenV := hi.length
  have core : ∀ H : Hp, Only H → SqL K H a (ns.map V.int) → HOk P w H s₁.heap → (∀ b, H b ≠ none → b = a) → (H a ≠ none → K.lookup a = none) →
      codeAny (model P w) callerA (.call (.ref fa) ⟨[.ref a], []⟩) (fun r s' => r = .ok (.ret (.bool true)) ∧ OldK s₁.heap s'.heap ∧ s'.os = s₁.os ∧ AllBare s'.gens) s₁ := by
    intro H hO hS hok hA hK
    have base_of : ∀ {b : Addr} {o : Obj}, s₁.heap.get? b = some o → H b = none → (hidT s₁.heap H).get? b = some o := fun e n => hidT_get e n
    have noA : ∀ {b : Addr} {o : Obj} {es : Array DictEntry} {ep : Nat}, s₁.heap.get? b = some o → o.data = .dict es ep → H b = none := fun {b o es ep} e d => by
      cases q : H b with
      | none => rfl
      | some u =>
        have e' : b = a := hA b (by rw [q]; simp)
        subst e'
        rw [ha] at e; cases e
        have d' : Data.seq vs.toArray _ = Data.dict es ep := d
        cases d'
    have nsK : ∀ {b : Addr} {m : Str → Option Value}, s₁.heap.Ns b m → (hidT s₁.heap H).Ns b m := fun {b m} ⟨o, es, ep, e, d, r⟩ => ⟨o, es, ep, base_of e (noA e d), d, r⟩
    have hKb : K.In (hidT s₁.heap H) := fun b o e => base_of (KX b o e) (by
      cases q : H b with
      | none => rfl
      | some u =>
        have e' : b = a := hA b (by rw [q]; simp)
        subst e'
        rw [hK (by rw [q]; simp)] at e; cases e)
    have hM : Mod K mg (hidT s₁.heap H) := ⟨hKb, nsK hns, ⟨mb, nsK hb, hbb⟩, let ⟨mc, h1, h2⟩ := hlim; ⟨mc, nsK h1, h2⟩⟩
    have e0 : Env0 P w K mg (hidT s₁.heap H) callerA [] s₁ H := ⟨rfl, hM, fun b o e => of_hidT e, Nat.le_of_eq (hidT_size _ _), trivial, fun b hb => absurd (show b ∈ ([] : List Addr) from hb) (by simp), hok, .of_eq hg⟩
    refine codeAny_mono ((F _ hKb (nsK hns)).run callerA [] s₁ H ⟨[.ref a], []⟩ [.ref a] [.ref a] _ _ hr e0 (hbind s₁ (.ref a)) (.cons rfl .nil) (hsp H hO hS)) fun r s' h => ?_
    cases r with
    | error e => exact (hCX H e s' h).elim
    | ok fl =>
      cases fl with
      | next => exact False.elim h
      | brk => exact False.elim h
      | cont => exact False.elim h
      | ret u =>
        obtain ⟨v, H', os, bare, un, hok', r', q⟩ := h
        have q' : v = .bl true := q
        subst q'
        obtain rfl : u = Value.bool true := r'
        refine ⟨rfl, OldK.of_keep fun b o e => ?_, os, bare⟩
        cases q : H b with
        | none => exact un.keep b o e q (by intro z; exact absurd (show b ∈ ([] : List Addr) from z) (by simp)) (by simp)
        | some u =>
          rcases hO b with z | ⟨ob, xs, z⟩
          · rw [q] at z; cases z
          · have z2 := un.frzs b ob _ z
            obtain ⟨e1, _⟩ := hok b _ z
            obtain ⟨e2, _⟩ := hok' b _ z2
            rw [e] at e1; cases e1
            exact e2
  cases hk : K.lookup a with
  | some o =>
    have e := KX a o hk
    rw [ha] at e
    cases e
    refine core (fun _ => none) (fun _ => .inl rfl) (.inr ⟨_, vs.toArray, _, hk, rfl, rfl, rfl, by rw [List.size_toArray, lenV]; exact hl, by simpa using rv⟩) (fun b u z => by have z' : (none : Option HO) = some u := z; cases z') (fun b z => absurd rfl z) fun z => absurd rfl z
  | none =>
    refine core (fun b => if b = a then some (.frz { cls := .type "list", data := .seq vs.toArray } (.lst (ns.map V.int))) else none) (fun b => ?_) (.inl (.inr ⟨{ cls := .type "list", data := .seq vs.toArray }, if_pos rfl⟩)) (fun b u z => ?_) (fun b z => ?_) fun _ => hk
    · by_cases hb : b = a
      · exact .inr ⟨_, _, if_pos hb⟩
      · exact .inl (if_neg hb)
    · by_cases hb : b = a
      · have z' := (if_pos hb).symm.trans z
        cases z'
        subst hb
        exact ⟨ha, by rw [List.length_map]; exact hl, vs, _, rv, ha⟩
      · have z' := (if_neg hb).symm.trans z
        cases z'
    · by_cases hb : b = a
      · exact hb
      · exact absurd (if_neg hb) z
end L2
namespace L2
open PySem PySem.Spec PyProof.Rows
theorem walk_of {l : PySem.W.OpenLaw} {n k : Nat} {q : Program} {loose : List Str} {XP : (Str → Option Value) → Heap → Prop} {YP : World → Heap → Prop} {d : DefRec} {K : Params → PySem.W.Frag} {CX : World → CXT} {sp : World → Sp} {x : Str}
    (hn : l.most = some n) (hn2 : n ≤ sizeLine) (hdf : d.params.defaults = []) (hr : Room k callerA)
    (hY : ∀ (w : World) (h : Heap), YP w h → (K w.params).In h)
    (F : ∀ (w : World) (mg : Str → Option Value) (fa : Addr) (h : Heap), (K w.params).In h → h.Ns mainGlobals mg → mg d.name = some (.ref fa) →
      ∃ fd : FuncData, (∀ (s : Shared) (u : Value), BindsTo s fd ⟨[u], []⟩ [(x, u)]) ∧
        ∀ base : Heap, (K w.params).In base → base.Ns mainGlobals mg → FnOk l.prog w (K w.params) mg base (CX w) k fa fd [x] (sp w))
    (hsp : ∀ (w : World) (H : Hp) (a : Addr) (ns : List Int), ns.length ≤ n → Only H → SqL (K w.params) H a (ns.map V.int) → sp w [.ref a] H (fun v _ => v = .bl true) fun _ _ _ => False)
    (hCX : ∀ (w : World) (H : Hp) (s : Shared) (e : Value) (s' : Shared), CX w [] H s (fun _ _ _ => False) e s' → False) :
    PySem.W.WalkO q loose XP YP l.row.toRowW d [] (fun f vs => PySem.call f vs) := by
  refine Att.attach_call hn hdf fun w s₀ s₁ mg mb fa o pm cd doc a vs ns G Y ho hd hcd hmg hobj hints hlen hg => ?_
  have KX := hY w _ Y
  obtain ⟨fd, hb, hF⟩ := F w mg fa _ KX G.T.g hmg
  exact law_call KX G.T.g G.T.b G.T.builtins G.T.nolimit hg hobj hints (Nat.le_trans hlen hn2) hr hF hb (fun H hO hS => hsp w H a ns hlen hO hS) fun H e s' => hCX w H s₁ e s'
end L2
namespace L2
open PySem PySem.Spec PyProof.Rows
noncomputable def inClass (s : Stmt) (j : Nat) : Stmt := match s with
  | .ClassDef _ _ _ body _ _ _ _ _ _ _ => body.getD j (.Pass ⟨0, 0, 0, 0⟩)
  | _ => .Pass ⟨0, 0, 0, 0⟩
noncomputable def defArgs (s : Stmt) : Arguments := match s with
  | .FunctionDef _ a _ _ _ _ _ _ _ _ => a
  | _ => { posonlyargs := [], args := [], vararg := none, kwonlyargs := [], kw_defaults := [], kwarg := none, defaults := [] }
noncomputable def defBody (s : Stmt) : List Stmt := match s with
  | .FunctionDef _ _ b _ _ _ _ _ _ _ => b
  | _ => []
noncomputable def defScope (s : Stmt) : Scope := match s with
  | .FunctionDef _ _ _ _ _ _ sc _ _ _ => sc
  | _ => { kind := .function, names := [], isGenerator := false, isCoroutine := false }
noncomputable abbrev CX0 : CXT := fun _ _ _ _ _ _ => False
noncomputable abbrev E0 : XK := fun _ _ _ => False
theorem pass0 {X : Cx} : Passes CX0 X E0 := fun _ _ _ _ _ _ _ h => h.elim
structure Fun (K : PySem.W.Frag) (x qual : Str) (st : Stmt) (f : Addr) (fd : FuncData) : Prop where
  ex : ∃ (oc : Value) (od : Option Addr) (kV doc pm : Value) (an : Option Addr) (cdv ct : Value) (osl : Array (Option Value)),
    fd = PySem.W.fnOf x qual (defArgs st) (defBody st) (defScope st) .none kV doc pm an cdv ct ∧ K.lookup f = some ⟨oc, od, .func fd, osl⟩ ∧ PySem.W.codeIn K cdv qual = true
  kp : PySem.W.keepIn K (.ref f) = true
section
variable {P : Program} {w : World} {K : PySem.W.Frag} {mg : Str → Option Value} {base : Heap}
theorem Fun.ok {x qual : Str} {st : Stmt} {f : Addr} {fd : FuncData} {N ps : List Str} {k : Nat} {sp : Sp} (F : Fun K x qual st f fd) (S : FnScope N ps (defScope st)) (len : ∀ vs H Q E, sp vs H Q E → vs.length = ps.length)
    (hbody : ∀ (cdv : Value) (A : Around) (outer : List Env) (s : Shared) (H : Hp) (vs : List V) (Q : VK) (E : XK), Room k (A.deeper (envOfC qual (defScope st) s.heap.objs.size f cdv)) → sp vs H Q E →
      ∃ t, PSs (cxOf CX0 P w K mg base N qual (defScope st) f cdv A outer s H E).nox (defBody st) t ∧ t { nx := fun _ H' => Q .non H', rt := Q } (start N vs) H) : FnOk P w K mg base CX0 (k + 1) f fd ps sp := by
  obtain ⟨oc, od, kV, doc, pm, an, cdv, ct, osl, rfl, lk, hcd⟩ := F.ex
  refine fn_of lk hcd S len fun A outer s H vs Q E hr hsp => ?_
  obtain ⟨t, h, q⟩ := hbody cdv A outer s H vs Q E hr hsp
  exact ⟨t, h.nox, q⟩
theorem Fun.binds {x qual : Str} {st : Stmt} {f : Addr} {fd : FuncData} {ps : List Str} (F : Fun K x qual st f fd)
    (h : ∀ (kV doc pm : Value) (an : Option Addr) (cdv ct : Value) (us : List Value), us.length = ps.length → bindArgs (PySem.W.fnOf x qual (defArgs st) (defBody st) (defScope st) .none kV doc pm an cdv ct) ⟨us, []⟩ = pure (ps.zip us)) : Binds K fd ps [] := by
  obtain ⟨oc, od, kV, doc, pm, an, cdv, ct, osl, rfl, lk, hcd⟩ := F.ex
  exact .all (h kV doc pm an cdv ct)
theorem fun_mk {x qual : Str} {st : Stmt} {f : Addr} {oc : Value} {od an : Option Addr} {osl : Array (Option Value)} {kV doc pm cdv ct : Value} (l : K.lookup f = some ⟨oc, od, .func (PySem.W.fnOf x qual (defArgs st) (defBody st) (defScope st) .none kV doc pm an cdv ct), osl⟩)
    (c : PySem.W.codeIn K cdv qual = true) (k : PySem.W.keepIn K (.ref f) = true) : Fun K x qual st f (PySem.W.fnOf x qual (defArgs st) (defBody st) (defScope st) .none kV doc pm an cdv ct) := ⟨⟨oc, od, kV, doc, pm, an, cdv, ct, osl, rfl, l, c⟩, k⟩
end
theorem hu_of {A : Around} {k : Nat} (hr : Room k A) : A.units + 1 < cLine := Nat.lt_of_le_of_lt (Nat.add_le_add_left (by decide : 1 ≤ 64) _) hr.units
theorem small1000 {n : Nat} (h : n ≤ 1000) : n < sizeLine := Nat.lt_of_le_of_lt h (by decide)
section
variable {X : Cx}
theorem pv (i : Nat) {x : Str} {pos : Pos} (hN : X.N[i]? = some x := by rfl) (hv : Vis X.env.scope x := by first | exact Or.inl rfl | exact Or.inr (Or.inl rfl) | exact Or.inr (Or.inr rfl)) (hd : (x == ("__debug__" : Str)) = false := by decide)
    (hcd : (x == ("__classdict__" : Str)) = false := by decide) : PE X (.Name x pos) (tVar i) := pe_var hN hv hd hcd
end
theorem iteF {A B : Prop} (h : B) : if false = true then A else B := by
  rw [if_neg Bool.false_ne_true]
  exact h
theorem iteT {A B : Prop} (h : A) : if true = true then A else B := by
  rw [if_pos rfl]
  exact h
theorem ite2 {c A B : Prop} [Decidable c] (h1 : c → A) (h2 : ¬ c → B) : if c then A else B := by
  by_cases h : c
  · rw [if_pos h]
    exact h1 h
  · rw [if_neg h]
    exact h2 h
theorem iteNS {c A B : Prop} [Decidable c] (hc : c) (h : B) : if (!decide c) = true then A else B := by
  rw [decide_eq_true hc]
  exact iteF h
noncomputable def Same (H H' : Hp) : Prop := ∀ b o, H b = some o → H' b = some o
theorem Same.refl (H : Hp) : Same H H := fun _ _ h => h
theorem Same.trans {H H1 H2 : Hp} (a : Same H H1) (b : Same H1 H2) : Same H H2 := fun c o h => b c o (a c o h)
theorem Same.free {H H' : Hp} (e : Same H H') {l : Addr} (h : H' l = Option.none) : H l = Option.none := by
  cases q : H l with
  | none => rfl
  | some o =>
    rw [e l o q] at h
    cases h
theorem Same.seq {K : PySem.W.Frag} {H H' : Hp} {a : Addr} {xs : List V} (e : Same H H') (h : SqL K H a xs) : SqL K H' a xs := by
  rcases h with (h | ⟨o, h⟩) | h
  · exact .inl (.inl (e _ _ h))
  · exact .inl (.inr ⟨o, e _ _ h⟩)
  · exact .inr h
end L2
namespace L2
open PySem PySem.Spec PyProof.Rows
section
variable {κ : Type} [DecidableEq κ]
noncomputable def valV (kvs : List (κ × V)) (k : κ) : Option V := (kvs.find? fun kv => decide (kv.1 = k)).map (·.2)
noncomputable def putK (kvs : List (κ × V)) (k : κ) (v : V) : List (κ × V) :=
  if (kvs.any fun kv => decide (kv.1 = k)) = true then kvs.map (fun kv => if kv.1 = k then (kv.1, v) else kv) else kvs ++ [(k, v)]
theorem valV_pos {p : κ × V} {r : List (κ × V)} {k : κ} (e : p.1 = k) : valV (p :: r) k = some p.2 := by simp [valV, List.find?_cons, e]
theorem valV_neg {p : κ × V} {r : List (κ × V)} {k : κ} (e : ¬ p.1 = k) : valV (p :: r) k = valV r k := by simp [valV, List.find?_cons, e]
theorem valV_any (k : κ) : ∀ kvs : List (κ × V), (kvs.any fun kv => decide (kv.1 = k)) = (valV kvs k).isSome
  | [] => rfl
  | p :: r => by
    rw [List.any_cons]
    by_cases e : p.1 = k
    · simp only [valV_pos e, decide_eq_true e, Bool.true_or, Option.isSome_some]
    · rw [valV_neg e, decide_eq_false e, Bool.false_or]; exact valV_any k r
theorem valV_map (k j : κ) (y : V) : ∀ kvs : List (κ × V), valV (kvs.map fun kv => if kv.1 = k then (kv.1, y) else kv) j = (valV kvs j).map fun x => if j = k then y else x
  | [] => rfl
  | p :: r => by
    have ih := valV_map k j y r
    rw [List.map_cons]
    by_cases h : p.1 = k
    · rw [if_pos h]
      by_cases e : p.1 = j
      · rw [valV_pos (p := (p.1, y)) e, valV_pos e, Option.map_some, if_pos (e.symm.trans h)]
      · rw [valV_neg (p := (p.1, y)) e, valV_neg e, ih]
    · rw [if_neg h]
      by_cases e : p.1 = j
      · rw [valV_pos (p := p) e, valV_pos e, Option.map_some, if_neg (fun z => h (e.trans z))]
      · rw [valV_neg (p := p) e, valV_neg e, ih]
theorem valV_snoc (k j : κ) (y : V) : ∀ kvs : List (κ × V), valV kvs k = none → valV (kvs ++ [(k, y)]) j = if j = k then some y else valV kvs j
  | [], _ => by
    by_cases e : k = j
    · rw [if_pos e.symm]; exact valV_pos (p := (k, y)) e
    · rw [if_neg (fun z => e z.symm)]; exact valV_neg (p := (k, y)) e
  | p :: r, hn => by
    rw [List.cons_append]
    have hk : ¬ p.1 = k := fun z => by rw [valV_pos z] at hn; cases hn
    rw [valV_neg hk] at hn
    have ih := valV_snoc k j y r hn
    by_cases e : p.1 = j
    · rw [valV_pos e, valV_pos e, if_neg (fun z => hk (e.trans z))]
    · rw [valV_neg e, valV_neg e, ih]
theorem valV_put (kvs : List (κ × V)) (k j : κ) (y : V) : valV (putK kvs k y) j = if j = k then some y else valV kvs j := by
  unfold putK
  by_cases a : (kvs.any fun kv => decide (kv.1 = k)) = true
  · rw [if_pos a, valV_map]
    rw [valV_any] at a
    by_cases e : j = k
    · obtain ⟨x, hx⟩ := Option.isSome_iff_exists.mp a
      rw [if_pos e, e, hx, Option.map_some, if_pos rfl]
    · rw [if_neg e]
      cases valV kvs j with
      | none => rfl
      | some x => rw [Option.map_some, if_neg e]
  · rw [if_neg a]
    refine valV_snoc k j y kvs ?_
    rw [valV_any] at a
    cases q : valV kvs k with
    | none => rfl
    | some x => rw [q] at a; exact (a rfl).elim
theorem length_putK (kvs : List (κ × V)) (k : κ) (v : V) : (putK kvs k v).length ≤ kvs.length + 1 := by
  unfold putK
  split
  · rw [List.length_map]; omega
  · rw [List.length_append, List.length_cons, List.length_nil]; omega
theorem putK_new {kvs : List (κ × V)} {k : κ} (v : V) (h : valV kvs k = none) : putK kvs k v = kvs ++ [(k, v)] := by
  unfold putK
  rw [valV_any, h]
  exact if_neg (by decide)
theorem RelO.isSome_eq {o : Option V} {u : Option Value} (r : RelO o u) : o.isSome = u.isSome := by
  cases o with
  | none => cases u with
    | none => rfl
    | some _ => exact (show False from r).elim
  | some _ => cases u with
    | none => exact (show False from r).elim
    | some _ => rfl
theorem RelO.getD {o : Option V} {u : Option Value} {d : V} {d' : Value} (r : RelO o u) (rd : RelV d d') : RelV (o.getD d) (u.getD d') := by
  cases o with
  | none => cases u with
    | none => exact rd
    | some _ => exact (show False from r).elim
  | some _ => cases u with
    | none => exact (show False from r).elim
    | some _ => exact r
theorem KV.val {kvs : List (κ × V)} {vs : List (κ × Value)} (r : KV kvs vs) (k : κ) : RelO (valV kvs k) (valueAt vs k) := by
  unfold KV at r
  induction r with
  | nil => exact True.intro
  | @cons p q ps qs h t ih =>
    obtain ⟨h1, h2⟩ := h
    by_cases e : p.1 = k
    · have e' : q.1 = k := h1.symm.trans e
      have b : valueAt (q :: qs) k = some q.2 := by simp [valueAt, List.find?_cons, e']
      rw [valV_pos e, b]; exact h2
    · have e' : ¬ q.1 = k := fun z => e (h1.trans z)
      have b : valueAt (q :: qs) k = valueAt qs k := by simp [valueAt, List.find?_cons, e']
      rw [valV_neg e, b]; exact ih
theorem KV.any {kvs : List (κ × V)} {vs : List (κ × Value)} (r : KV kvs vs) (k : κ) : (kvs.any fun kv => decide (kv.1 = k)) = vs.any fun kv => decide (kv.1 = k) := by
  unfold KV at r
  induction r with
  | nil => rfl
  | cons h t ih => rw [List.any_cons, List.any_cons, ih, h.1]
theorem KV.repl {kvs : List (κ × V)} {vs : List (κ × Value)} (r : KV kvs vs) (k : κ) {y : V} {u : Value} (ry : RelV y u) :
    KV (kvs.map fun kv => if kv.1 = k then (kv.1, y) else kv) (vs.map fun kv => if kv.1 = k then (kv.1, u) else kv) := by
  unfold KV at r ⊢
  induction r with
  | nil => exact .nil
  | @cons p q ps qs h t ih =>
    rw [List.map_cons, List.map_cons]
    refine .cons ?_ ih
    obtain ⟨h1, h2⟩ := h
    by_cases e : p.1 = k
    · rw [if_pos e, if_pos (h1.symm.trans e)]; exact ⟨h1, ry⟩
    · rw [if_neg e, if_neg (fun z => e (h1.trans z))]; exact ⟨h1, h2⟩
theorem KV.put {kvs : List (κ × V)} {vs : List (κ × Value)} (r : KV kvs vs) (k : κ) {y : V} {u : Value} (ry : RelV y u) : KV (putK kvs k y) (stored vs k u) := by
  unfold putK stored
  rw [r.any k]
  by_cases e : (vs.any fun kv => decide (kv.1 = k)) = true
  · rw [if_pos e, if_pos e]; exact r.repl k ry
  · rw [if_neg e, if_neg e]; exact Paired.snoc r ⟨rfl, ry⟩
theorem KV.length {kvs : List (κ × V)} {vs : List (κ × Value)} (r : KV kvs vs) : kvs.length = vs.length := Paired.length r
end
theorem kV_is {P : Program} {w : World} {k : Key} {u : Value} (r : RelV (kV k) u) : (mixKind P w).is k u = true := by
  cases k with
  | inl i => obtain ⟨t, e⟩ := (show ∃ t, u = Value.int i t from r); subst e; exact mixKind_int P w i t
  | inr x => obtain ⟨t, e⟩ := (show ∃ t, u = Value.str x t from r); subst e; exact mixKind_str P w x t
theorem items_are {P : Program} {w : World} : ∀ {ks : List Key} {us : List Value}, Vals (ks.map kV) us → ItemsAre (mixKind P w) ks us
  | [], _, r => by rw [List.map_nil] at r; cases r; exact .nil
  | k :: ks, _, r => by
    rw [List.map_cons] at r
    cases r with
    | cons h t => exact .cons (kV_is h) (items_are t)
noncomputable abbrev KT (H : Hp) : List (List Key × V) → List (List Key × Addr × Value) → Prop := Paired fun p q => p.1 = q.1 ∧ H q.2.1 = some (.tup (p.1.map kV)) ∧ RelV p.2 q.2.2
theorem KT.val {H : Hp} {kvs : List (List Key × V)} {xs : List (List Key × Addr × Value)} (r : KT H kvs xs) (k : List Key) : RelO (valV kvs k) ((atKey xs k).map (·.2)) := by
  induction r with
  | nil => exact True.intro
  | @cons p q ps qs h t ih =>
    obtain ⟨h1, _, h2⟩ := h
    by_cases e : p.1 = k
    · have e' : q.1 = k := h1.symm.trans e
      have b : atKey (q :: qs) k = some q.2 := by simp [atKey, List.find?_cons, e']
      rw [valV_pos e, b]; exact h2
    · have e' : ¬ q.1 = k := fun z => e (h1.trans z)
      have b : atKey (q :: qs) k = atKey qs k := by simp [atKey, List.find?_cons, e']
      rw [valV_neg e, b]; exact ih
theorem KT.repl {H : Hp} {kvs : List (List Key × V)} {xs : List (List Key × Addr × Value)} (r : KT H kvs xs) (k : List Key) {y : V} {u : Value} (ry : RelV y u) :
    KT H (kvs.map fun kv => if kv.1 = k then (kv.1, y) else kv) (xs.map (putAt k u)) := by
  induction r with
  | nil => exact .nil
  | @cons p q ps qs h t ih =>
    rw [List.map_cons, List.map_cons]
    refine .cons ?_ ih
    obtain ⟨h1, h2, h3⟩ := h
    unfold putAt
    by_cases e : p.1 = k
    · rw [if_pos e, if_pos (h1.symm.trans e)]; exact ⟨h1, h2, ry⟩
    · rw [if_neg e, if_neg (fun z => e (h1.trans z))]; exact ⟨h1, h2, h3⟩
theorem KT.put {H : Hp} {kvs : List (List Key × V)} {xs : List (List Key × Addr × Value)} (r : KT H kvs xs) (k : List Key) {b : Addr} {y : V} {u : Value} (hb : H b = some (.tup (k.map kV))) (ry : RelV y u) :
    KT H (putK kvs k y) (storedH xs k b u) := by
  have e : (kvs.any fun kv => decide (kv.1 = k)) = (atKey xs k).isSome := by
    rw [valV_any, (r.val k).isSome_eq, Option.isSome_map]
  unfold putK storedH
  rw [e]
  by_cases q : (atKey xs k).isSome = true
  · rw [if_pos q, if_pos q]; exact r.repl k ry
  · rw [if_neg q, if_neg q]; exact Paired.snoc r ⟨rfl, hb, ry⟩
theorem KT.keeps {H H' : Hp} {kvs : List (List Key × V)} {xs : List (List Key × Addr × Value)} (r : KT H kvs xs) (ht : ∀ b ys, H b = some (.tup ys) → H' b = some (.tup ys)) : KT H' kvs xs :=
  Paired.mapP r fun _ _ z => ⟨z.1, ht _ _ z.2.1, z.2.2⟩
section
variable {P : Program} {w : World} {H : Hp} {h : Heap} {a : Addr}
theorem rd_of {u : HO} (ok : HOk P w H h) (e : Rd H a u) : ObjOk P w H h a u := e.ok ok
theorem dk_rd {kvs : List (Key × V)} (ok : HOk P w H h) (e : Rd H a (.dK kvs)) : kvs.length ≤ sizeLine ∧ (a == sysModules) = false ∧ ∃ vs, KV kvs vs ∧ h.DictOf (mixKind P w) a vs :=
  show ObjOk P w H h a (.dK kvs) from rd_of ok e
theorem dk_of {kvs : List (Key × V)} (ok : HOk P w H h) (e : H a = some (.dK kvs)) : kvs.length ≤ sizeLine ∧ (a == sysModules) = false ∧ ∃ vs, KV kvs vs ∧ h.DictOf (mixKind P w) a vs := dk_rd ok (.inl e)
theorem key_of {ks : List Key} (ok : HOk P w H h) (e : H a = some (.tup (ks.map kV))) : (tupleKind (mixKind P w)).is h ks a := by
  obtain ⟨_, its, r, o, h1, h2, n, h3⟩ := (show ObjOk P w H h a (.tup (ks.map kV)) from ok a _ e)
  exact ⟨o, its.toArray, n, h1, h2, h3, by simpa using items_are r⟩
theorem dt_rd {kvs : List (List Key × V)} (ok : HOk P w H h) (e : Rd H a (.dT kvs)) : kvs.length ≤ sizeLine ∧ (a == sysModules) = false ∧
    ∃ xs, KT H kvs xs ∧ h.DictOfH (tupleKind (mixKind P w)) a xs := by
  obtain ⟨z, y, xs, r, o, es, ep, h1, h2, h3, h4, h5⟩ := (show ObjOk P w H h a (.dT kvs) from rd_of ok e)
  refine ⟨z, y, xs, r, o, es, ep, h1, h2, h3, h4, fun x hx => ?_, h5⟩
  have all : ∀ {l : List (List Key × V)} {m : List (List Key × Addr × Value)}, KT H l m → ∀ x ∈ m, (tupleKind (mixKind P w)).is h x.1 x.2.1 := by
    intro l m q
    induction q with
    | nil => intro x hx; exact nomatch hx
    | @cons p q ps qs hq t ih =>
      intro x hx
      rcases List.mem_cons.mp hx with e | hx
      · subst e
        exact key_of ok (by rw [← hq.1]; exact hq.2.1)
      · exact ih x hx
  exact all r x hx
theorem dt_of {kvs : List (List Key × V)} (ok : HOk P w H h) (e : H a = some (.dT kvs)) : kvs.length ≤ sizeLine ∧ (a == sysModules) = false ∧
    ∃ xs, KT H kvs xs ∧ h.DictOfH (tupleKind (mixKind P w)) a xs := dt_rd ok (.inl e)
end
noncomputable def DGet (H : Hp) (a : Addr) (y : V) (r : Option V) : Prop :=
  (∃ kvs k, Rd H a (.dK kvs) ∧ y = kV k ∧ r = valV kvs k) ∨ ∃ kvs k b, Rd H a (.dT kvs) ∧ y = .ref b ∧ H b = some (.tup (k.map kV)) ∧ r = valV kvs k
noncomputable def DPut (H : Hp) (a : Addr) (y v : V) (H' : Hp) : Prop :=
  (∃ kvs k, H a = some (.dK kvs) ∧ y = kV k ∧ kvs.length < sizeLine ∧ H' = upd H a (.dK (putK kvs k v))) ∨
  ∃ kvs k b, H a = some (.dT kvs) ∧ y = .ref b ∧ H b = some (.tup (k.map kV)) ∧ kvs.length < sizeLine ∧ H' = upd H a (.dT (putK kvs k v))
theorem DGet.k {H : Hp} {a : Addr} {kvs : List (Key × V)} {k : Key} (e : H a = some (.dK kvs)) : DGet H a (kV k) (valV kvs k) := .inl ⟨kvs, k, .inl e, rfl, rfl⟩
theorem DPut.k {H : Hp} {a : Addr} {kvs : List (Key × V)} {k : Key} {v : V} (e : H a = some (.dK kvs)) (hl : kvs.length < sizeLine) : DPut H a (kV k) v (upd H a (.dK (putK kvs k v))) := .inl ⟨kvs, k, e, rfl, hl, rfl⟩
section
variable {X : Cx} {pins : List (Addr × Obj)} {σ : St} {H : Hp} {s : Shared} {a : Addr} {y v : V} {u r : Value} {o : Option V} {A : Around} {E : Value → Shared → Prop}
theorem Inv.big (I : Inv X pins σ H s) : sysModules < s.heap.objs.size := by
  have h : mainGlobals < s.heap.objs.size := (I.mod.glob.keeps I.bk).lt
  exact Nat.lt_trans (by decide) h
theorem d_getItem {Q : Value → Shared → Prop} (hu : A.units + 1 < cLine) (I : Inv X pins σ H s) (g : DGet H a y (some v)) (ry : RelV y u) (h : ∀ w' s', Inv X pins σ H s' → RelV v w' → Q w' s') :
    wpAny (model X.prog X.w) A (getItem (.ref a) u) Q E s := by
  rcases g with ⟨kvs, k, e, ey, l⟩ | ⟨kvs, k, b, e, ey, eb, l⟩
  · subst ey
    obtain ⟨z, hd, vs, rel, dd⟩ := dk_rd I.hok e
    obtain ⟨w', hw, rw'⟩ := RelO.some_of (v := v) (o := valueAt vs k) (by rw [l]; exact rel.val k)
    exact wpAny_getItem_of (kV_is ry) dd.mapOf hw (h w' _ (I.tok _) rw')
  · subst ey
    cases (show u = Value.ref b from ry)
    obtain ⟨z, hd, xs, rel, dd⟩ := dt_rd I.hok e
    obtain ⟨w', hw, rw'⟩ := RelO.some_of (v := v) (o := (atKey xs k).map (·.2)) (by rw [l]; exact rel.val k)
    obtain ⟨p, hp, hp2⟩ := Option.map_eq_some_iff.mp hw
    refine wpAny_getItem_heap (tupleKind_room_in1 hu) (key_of I.hok eb) dd hp ?_
    rw [hp2]
    exact h w' _ (I.tok _) rw'
theorem d_in {Q : Value → Shared → Prop} (hu : A.units + 1 < cLine) (I : Inv X pins σ H s) (g : DGet H a y o) (ry : RelV y u) (h : ∀ s', Inv X pins σ H s' → Q (.bool o.isSome) s') :
    wpAny (model X.prog X.w) A (compareOp .In u (.ref a)) Q E s := by
  rcases g with ⟨kvs, k, e, ey, l⟩ | ⟨kvs, k, b, e, ey, eb, l⟩
  · subst ey
    obtain ⟨z, hd, vs, rel, dd⟩ := dk_rd I.hok e
    refine wpAny_in_of (kV_is ry) hd dd.mapOf ?_
    rw [← (rel.val k).isSome_eq, ← l]
    exact h _ (I.tok _)
  · subst ey
    cases (show u = Value.ref b from ry)
    obtain ⟨z, hd, xs, rel, dd⟩ := dt_rd I.hok e
    refine wpAny_in_heap (tupleKind_room_in1 hu) (key_of I.hok eb) hd dd ?_
    have q := (rel.val k).isSome_eq
    rw [Option.isSome_map] at q
    rw [← q, ← l]
    exact h _ (I.tok _)
theorem d_notIn {Q : Value → Shared → Prop} (hu : A.units + 1 < cLine) (I : Inv X pins σ H s) (g : DGet H a y o) (ry : RelV y u) (h : ∀ s', Inv X pins σ H s' → Q (.bool (!o.isSome)) s') :
    wpAny (model X.prog X.w) A (compareOp .NotIn u (.ref a)) Q E s := by
  rcases g with ⟨kvs, k, e, ey, l⟩ | ⟨kvs, k, b, e, ey, eb, l⟩
  · subst ey
    obtain ⟨z, hd, vs, rel, dd⟩ := dk_rd I.hok e
    refine wpAny_notIn_of (kV_is ry) hd dd.mapOf ?_
    rw [← (rel.val k).isSome_eq, ← l]
    exact h _ (I.tok _)
  · subst ey
    cases (show u = Value.ref b from ry)
    obtain ⟨z, hd, xs, rel, dd⟩ := dt_rd I.hok e
    refine wpAny_notIn_heap (tupleKind_room_in1 hu) (key_of I.hok eb) hd dd ?_
    have q := (rel.val k).isSome_eq
    rw [Option.isSome_map] at q
    rw [← q, ← l]
    exact h _ (I.tok _)
theorem d_write {h' : Heap} {t' : Nat} {ob : HO} (I : Inv X pins σ H s) (mu : Mut (H a)) (hs : Heap.SameBut a s.heap h') (he : ∃ q, h'.get? a = some q) (new : ObjOk X.prog X.w (upd H a ob) h' a ob) :
    Inv X pins σ (upd H a ob) { s with heap := h', toks := t' } :=
  I.write (x := a) (e := a) mu (.inl rfl) (fun b q hb z => (hs.2 b hb).trans z) he new
theorem dk_new {P : Program} {w : World} {H' : Hp} {h' : Heap} {kvs : List (Key × V)} {vs : List (Key × Value)} (z : kvs.length ≤ sizeLine) (hd : (a == sysModules) = false) (rel : KV kvs vs) (dd : h'.DictOf (mixKind P w) a vs) :
    ObjOk P w H' h' a (.dK kvs) := ⟨z, hd, vs, rel, dd⟩
theorem d_setItem {H' : Hp} {Q : Unit → Shared → Prop} (hu : A.units + 1 < cLine) (I : Inv X pins σ H s) (g : DPut H a y v H') (ry : RelV y u) (rv : RelV v r) (h : ∀ s', Inv X pins σ H' s' → Q () s') :
    wpAny (model X.prog X.w) A (setItem (.ref a) u r) Q E s := by
  rcases g with ⟨kvs, k, e, ey, l, eH⟩ | ⟨kvs, k, b, e, ey, eb, l, eH⟩
  · subst ey eH
    obtain ⟨z, hd, vs, rel, dd⟩ := dk_of I.hok e
    have hz : vs.length ≤ sizeLine := by rw [← rel.length]; exact z
    have hl : (putK kvs k v).length ≤ sizeLine := by have := length_putK kvs k v; omega
    refine wpAny_setItem_pairs (hsz := hz) (kV_is ry) dd fun h' dd' hs => h _ ?_
    have he : ∃ q, h'.get? a = some q := let ⟨q, _, _, hq, _⟩ := dd'; ⟨q, hq⟩
    exact d_write I (by rw [e]; exact True.intro) hs he (dk_new hl hd (rel.put k rv) dd')
  · subst ey eH
    cases (show u = Value.ref b from ry)
    obtain ⟨z, hd, xs, rel, dd⟩ := dt_of I.hok e
    have hz : xs.length ≤ sizeLine := by rw [← Paired.length rel]; exact z
    have hl : (putK kvs k v).length ≤ sizeLine := by have := length_putK kvs k v; omega
    refine wpAny_setItem_heap (hsz := hz) (tupleKind_room_in1 hu) (key_of I.hok eb) dd fun h' dd' hs => h _ ?_
    obtain ⟨q, es, ep, hq, h2, h3, h4, _, h5⟩ := dd'
    refine d_write I (by rw [e]; exact True.intro) hs ⟨q, hq⟩ ⟨hl, hd, _, (rel.put k eb rv).keeps fun c ys ec => ?_, q, es, ep, hq, h2, h3, h4, h5⟩
    rw [upd_ne (ne_of ec e (fun z => nomatch z))]
    exact ec
end
section
variable {X : Cx} {pins : List (Addr × Obj)} {σ : St} {H : Hp} {s : Shared} {a : Addr} {kvs : List (Key × V)} {k : Key} {u : Value} {A : Around} {E : Value → Shared → Prop}
end
noncomputable def NoSl (i : Expr) : Prop := ∀ ov iv, subscripted i false ov iv = operate [ov, iv] (getItem ov iv)
theorem subD_of {prog : Program} {w : World} {A : Around} {E : Value → Shared → Prop} {s : Shared} {env : Env} {value slice : Expr} {pos : Pos} {T id : String} {Q : Value → Shared → Prop}
    (hl : typeLookup (.type T) "__getitem__" = pure (some (.builtin id))) (hs : NoSl slice)
    (h : wpAny (model prog w) A (eval value env) (fun o s₁ => wpAny (model prog w) A (eval slice env) (fun i s₂ => s₂.TypeIs o T ∧ wpAny (model prog w) A (getItem o i) Q E s₂) E s₁) E s) :
    wpAny (model prog w) A (eval (.Subscript value slice pos) env) Q E s := by
  refine Subscript_ (wpAny_mono h (fun o s₁ h₁ => wpAny_mono h₁ (fun i s₂ h₂ => ?_) fun _ _ x => x) fun _ _ x => x)
  obtain ⟨hT, h₂⟩ := h₂
  unfold subscriptTail
  refine wpAny_bind ?_
  rw [getitemInPython_of_ne hT.not_modules]
  refine wpAny_bind (wpAny_specialOf hT hl ?_)
  have fin : wpAny (model prog w) A (subscripted slice false o i) (fun r s₃ => wpAny (model prog w) A (letTemporaryGo value o r >>= fun _ => pure r) Q E s₃) E s₂ := by
    rw [hs o i]
    exact wpAny_operating (wpAny_mono h₂ (fun r s₃ h₃ => wpAny_bind (wpAny_letTemporaryGo (wpAny_pure h₃))) fun _ _ x => x)
  first
    | exact wpAny_pure (wpAny_bind fin)
    | exact wpAny_bind (wpAny_pure (wpAny_bind fin))
    | exact wpAny_bind fin
theorem dict_typeIs {X : Cx} {pins : List (Addr × Obj)} {σ : St} {H : Hp} {s : Shared} {a : Addr} {y : V} {o : Option V} (I : Inv X pins σ H s) (g : DGet H a y o) : s.TypeIs (.ref a) "dict" := by
  rcases g with ⟨kvs, k, e, _, _⟩ | ⟨kvs, k, b, e, _, _, _⟩
  · obtain ⟨_, _, vs, _, dd⟩ := dk_rd I.hok e
    exact dd.typeIs
  · obtain ⟨_, _, xs, _, dd⟩ := dt_rd I.hok e
    exact dd.typeIs
inductive tDGetR  (Q : VK) (x : V) (y : V) (H2 : Hp) : Prop
  | mk (a : _) (v : _) (h0 : x = .ref a) (h1 : DGet H2 a y (some v)) (h2 : Q v H2) : tDGetR Q x y H2
noncomputable def tDGet (td ty : TE) : TE := fun σ H Q => td σ H fun x H1 => ty σ H1 fun y H2 => tDGetR Q x y H2
inductive tDInR  (Q : VK) (y : V) (x : V) (H2 : Hp) : Prop
  | mk (a : _) (o : _) (h0 : x = .ref a) (h1 : DGet H2 a y o) (h2 : Q (.bl o.isSome) H2) : tDInR Q y x H2
noncomputable def tDIn (ty td : TE) : TE := fun σ H Q => ty σ H fun y H1 => td σ H1 fun x H2 => tDInR Q y x H2
inductive tDNotInR  (Q : VK) (y : V) (x : V) (H2 : Hp) : Prop
  | mk (a : _) (o : _) (h0 : x = .ref a) (h1 : DGet H2 a y o) (h2 : Q (.bl (!o.isSome)) H2) : tDNotInR Q y x H2
noncomputable def tDNotIn (ty td : TE) : TE := fun σ H Q => ty σ H fun y H1 => td σ H1 fun x H2 => tDNotInR Q y x H2
noncomputable def sDPut (td ty tv : TE) : TS := fun D σ H => tv σ H fun v H1 => td σ H1 fun x H2 => ty σ H2 fun y H3 => ∃ a H4, x = .ref a ∧ DPut H3 a y v H4 ∧ D.nx σ H4
section
variable {X : Cx} {o i e value : Expr} {pos pos' tpos : Pos} {td ty tv : TE}
theorem pe_dget (hu : X.A.units + 1 < cLine) (ho : PE X o td) (hi : PE X i ty) (hs : NoSl i) : PE X (.Subscript o i pos) (tDGet td ty) := by
  intro pins s σ H Q I h
  refine subD_of PySem.F.slot_dict_getitem.lookup hs (thn (ho pins s σ H _ I h) fun u s1 ⟨x, H1, I1, rx, q1⟩ => thn (hi pins s1 σ H1 _ I1 q1) fun iv s2 ⟨y, H2, I2, ry, a, v, ex, g, q2⟩ => ?_)
  subst ex
  obtain rfl : u = Value.ref a := rx
  exact ⟨dict_typeIs I2 g, d_getItem hu I2 g ry fun w' s3 I3 rw' => ⟨v, H2, I3, rw', q2⟩⟩
theorem pc_din (hu : X.A.units + 1 < cLine) (hi : PE X i ty) (ho : PE X o td) : PC X .In i o (tDIn ty td) := by
  intro pins s σ H Q I h
  refine thn (hi pins s σ H _ I h) fun iv s1 ⟨y, H1, I1, ry, q1⟩ => thn (ho pins s1 σ H1 _ I1 q1) fun u s2 ⟨x, H2, I2, rx, a, ov, ex, g, q2⟩ => ?_
  subst ex
  obtain rfl : u = Value.ref a := rx
  exact d_in hu I2 g ry fun s3 I3 => ⟨.bl ov.isSome, H2, I3, rfl, q2⟩
theorem pc_dnotin (hu : X.A.units + 1 < cLine) (hi : PE X i ty) (ho : PE X o td) : PC X .NotIn i o (tDNotIn ty td) := by
  intro pins s σ H Q I h
  refine thn (hi pins s σ H _ I h) fun iv s1 ⟨y, H1, I1, ry, q1⟩ => thn (ho pins s1 σ H1 _ I1 q1) fun u s2 ⟨x, H2, I2, rx, a, ov, ex, g, q2⟩ => ?_
  subst ex
  obtain rfl : u = Value.ref a := rx
  exact d_notIn hu I2 g ry fun s3 I3 => ⟨.bl (!ov.isSome), H2, I3, rfl, q2⟩
theorem ps_dput (hu : X.A.units + 1 < cLine) (ho : PE X o td) (hi : PE X i ty) (hv : PE X value tv) (hs : swapsWith value (some (.Subscript o i pos')) pos.line X.env = pure false) :
    PS X (.Assign [.Subscript o i pos'] value pos) (sDPut td ty tv) := by
  intro pins s σ H D I h
  refine wpAny_Assign_Subscript (thn (hv pins s σ H _ I h) fun r s1 ⟨v, H1, I1, rv, q1⟩ => thn (ho pins s1 σ H1 _ I1 q1) fun u s2 ⟨x, H2, I2, rx, q2⟩ => thn (hi pins s2 σ H2 _ I2 q2) fun iv s3 ⟨y, H3, I3, ry, a, H4, ex, g, q3⟩ => ?_) hs
  subst ex
  obtain rfl : u = Value.ref a := rx
  exact d_setItem hu I3 g ry rv fun s4 I4 => ⟨σ, H4, I4, q3⟩
end
theorem dk_empty {P : Program} {w : World} {H : Hp} (h : Heap) (hb : sysModules < h.objs.size) : ObjOk P w H (h.push { cls := .type "dict", data := .dict #[] }) h.objs.size (.dK []) :=
  ⟨Nat.zero_le _, beq_eq_false_iff_ne.mpr (Ne.symm (Nat.ne_of_lt hb)), [], .nil, Heap.DictOf.new h⟩
noncomputable def tDNewK : TE := fun _ H Q => ∀ p, H p = none → Q (.ref p) (upd H p (.dK []))
section
variable {X : Cx} {pos : Pos}
theorem pe_dnewK : PE X (.Dict [] [] pos) tDNewK := fun pins s σ H Q I h =>
  wpAny_Dict_empty ⟨.ref s.heap.objs.size, _, I.laid (a := s.heap.objs.size) (o := .dK []) (t' := s.toks) (fun _ _ q => Heap.get?_push_of_some _ q) (Nat.le_refl _) (dk_empty s.heap I.big), rfl, h _ (I.hok.fresh (Nat.le_refl _))⟩
end
noncomputable def tPairs : List (TE × TE) → St → Hp → (List (V × V) → Hp → Prop) → Prop
  | [], _, H, Q => Q [] H
  | (tk, tv) :: r, σ, H, Q => tk σ H fun x H1 => tv σ H1 fun y H2 => tPairs r σ H2 fun ps H3 => Q ((x, y) :: ps) H3
noncomputable abbrev VV : List (V × V) → List (Value × Value) → Prop := Paired fun p q => RelV p.1 q.1 ∧ RelV p.2 q.2
noncomputable def PPs (X : Cx) (pos : Pos) (keys : List (Option Expr)) (values : List Expr) (trs : List (TE × TE)) : Prop :=
  ∀ (pins : List (Addr × Obj)) (s : Shared) (σ : St) (H : Hp) (Q : List (V × V) → Hp → Prop), Inv X pins σ H s → tPairs trs σ H Q →
    wpAny (model X.prog X.w) X.A (evalPairs (pairTrees keys values X.env pos)) (fun vs s' => ∃ ps H', Inv X pins σ H' s' ∧ VV ps vs ∧ Q ps H') X.xe s
theorem pps_nil {X : Cx} {pos : Pos} : PPs X pos [] [] [] := fun pins s σ H Q I h => pairTrees_nil_walk ⟨[], H, I, .nil, h⟩
theorem pps_cons {X : Cx} {pos : Pos} {k v : Expr} {ks : List (Option Expr)} {vs : List Expr} {tk tv : TE} {trs : List (TE × TE)} (hk : PE X k tk) (hv : PE X v tv) (hr : PPs X pos ks vs trs) :
    PPs X pos (some k :: ks) (v :: vs) ((tk, tv) :: trs) := fun pins s σ H Q I h =>
  pairTrees_cons_walk (thn (hk pins s σ H _ I h) fun u s1 ⟨x, H1, I1, rx, q1⟩ => thn (hv pins s1 σ H1 _ I1 q1) fun w2 s2 ⟨y, H2, I2, ry, q2⟩ =>
    thn (hr pins s2 σ H2 _ I2 q2) fun ws s3 ⟨ps, H3, I3, rel, q3⟩ => ⟨(x, y) :: ps, H3, I3, .cons ⟨rx, ry⟩ rel, q3⟩)
noncomputable def mergeK (kvs more : List (Key × V)) : List (Key × V) := more.foldl (fun acc kv => putK acc kv.1 kv.2) kvs
theorem KV.merge : ∀ {more : List (Key × V)} {rs : List (Key × Value)} {kvs : List (Key × V)} {vs : List (Key × Value)}, KV more rs → KV kvs vs → KV (mergeK kvs more) (merged vs rs) := by
  intro more rs kvs vs r
  unfold KV at r
  induction r generalizing kvs vs with
  | nil => intro q; exact q
  | @cons p q ps qs h t ih =>
    intro r0
    have e : KV (putK kvs p.1 p.2) (stored vs q.1 q.2) := by
      have := r0.put p.1 h.2
      rw [← h.1]; exact this
    exact ih e
theorem length_mergeK : ∀ (more kvs : List (Key × V)), (mergeK kvs more).length ≤ kvs.length + more.length
  | [], kvs => by show kvs.length ≤ kvs.length + 0; omega
  | p :: r, kvs => by
    have h1 := length_mergeK r (putK kvs p.1 p.2)
    have h2 := length_putK kvs p.1 p.2
    show (mergeK (putK kvs p.1 p.2) r).length ≤ _
    rw [List.length_cons]; omega
theorem carries_of {P : Program} {w : World} : ∀ {kvs : List (Key × V)} {ws : List (Value × Value)}, VV (kvs.map fun kv => (kV kv.1, kv.2)) ws → ∃ rs, Carries (mixKind P w) ws rs ∧ KV kvs rs
  | [], _, r => by rw [List.map_nil] at r; cases r; exact ⟨[], True.intro, .nil⟩
  | p :: kvs, _, r => by
    rw [List.map_cons] at r
    cases r with
    | @cons a b as bs h t =>
      obtain ⟨rs, c, q⟩ := carries_of (P := P) (w := w) t
      obtain ⟨b1, b2⟩ := b
      exact ⟨(p.1, b2) :: rs, ⟨kV_is h.1, rfl, c⟩, .cons ⟨rfl, h.2⟩ q⟩
noncomputable def tDisp (trs : List (TE × TE)) : TE := fun σ H Q => ∀ p, H p = none → tPairs trs σ (upd H p (.dK [])) fun ps H2 => H2 p = some (.dK []) ∧ ∃ kvs : List (Key × V), ps = kvs.map (fun kv => (kV kv.1, kv.2)) ∧ kvs.length ≤ 15 ∧ Q (.ref p) (upd H2 p (.dK (mergeK [] kvs)))
theorem pe_disp {X : Cx} {pos : Pos} {keys : List (Option Expr)} {values : List Expr} {trs : List (TE × TE)} (h : PPs X pos keys values trs) (hall : keys.all (·.isSome) = true) (hl : keys.length = values.length) (h0 : keys ≠ [])
    (h15 : keys.length ≤ 15) : PE X (.Dict keys values pos) (tDisp trs) := by
  intro pins s σ H Q I q
  have hn := I.hok.fresh (Nat.le_refl s.heap.objs.size)
  have I1 := I.laid (a := s.heap.objs.size) (o := .dK []) (h' := s.heap.push { cls := .type "dict", data := .dict #[] }) (t' := s.toks) (fun _ _ q => Heap.get?_push_of_some _ q) (Nat.le_refl _) (dk_empty s.heap I.big)
  refine wpAny_Dict_walk (knd := mixKind X.prog X.w) hall hl h0 h15 (thn (h pins _ σ _ _ I1 (q _ hn)) fun ws s2 ⟨ps, H2, I2, rel, e, kvs, ep, lk, q2⟩ => ?_)
  subst ep
  obtain ⟨rs, c, rk⟩ := carries_of (P := X.prog) (w := X.w) rel
  obtain ⟨z, hd, vs0, r0, dd⟩ := dk_of I2.hok e
  cases r0
  refine ⟨rs, c, dd, fun h' dd' hs => ⟨.ref s.heap.objs.size, _, ?_, rfl, q2⟩⟩
  have hz : (mergeK [] kvs).length ≤ sizeLine := by
    have h1 := length_mergeK kvs []
    rw [List.length_nil] at h1
    rw [sizeLine_eq]; omega
  have he : ∃ q, h'.get? s.heap.objs.size = some q := let ⟨q, _, _, hq, _⟩ := dd'; ⟨q, hq⟩
  exact d_write I2 (by rw [e]; exact True.intro) hs he (dk_new hz hd (rk.merge .nil) dd')
structure M2 (X : Cx) (o : Expr) (m : Str) (apos : Pos) (e f : Expr) (cpos : Pos) : Prop where
  base : attributeBase o m X.env (eval o X.env) = eval o X.env
  few : ((backTo cpos (starEach [e, f] X.env)).all (fun x => !x.1) && (backToKw cpos (keywordEach [] X.env)).all (fun x => x.1.isSome)
    && decide (([e, f] : List Expr).length + ([] : List Keyword).length + (if ([] : List Keyword).isEmpty then 0 else 1) < 30)) = true
  line : (apos.endLine == cpos.line) = true
  trees : backTo cpos (starEach [e, f] X.env) = [(false, eval e X.env), (false, eval f X.env)]
noncomputable def IsD (H : Hp) (a : Addr) : Prop := (∃ kvs, Rd H a (.dK kvs)) ∨ ∃ kvs, Rd H a (.dT kvs)
theorem isD_at {X : Cx} {pins : List (Addr × Obj)} {σ : St} {H : Hp} {s : Shared} {a : Addr} (I : Inv X pins σ H s) (d : IsD H a) :
    s.TypeIs (.ref a) "dict" ∧ (∀ b, Value.ref a = .ref b → ∃ ob, s.heap.get? b = some ob ∧ ob.dict = none) ∧ (a == sysModules) = false := by
  rcases d with ⟨kvs, e⟩ | ⟨kvs, e⟩
  · obtain ⟨_, hd, vs, _, dd⟩ := dk_rd I.hok e
    refine ⟨dd.typeIs, fun b q => ?_, hd⟩
    cases q
    obtain ⟨ob, _, _, h1, h2, _⟩ := dd
    exact ⟨ob, h1, h2.2.1⟩
  · obtain ⟨_, hd, xs, _, dd⟩ := dt_rd I.hok e
    refine ⟨dd.typeIs, fun b q => ?_, hd⟩
    cases q
    obtain ⟨ob, _, _, h1, h2, _⟩ := dd
    exact ⟨ob, h1, h2.2.1⟩
section
variable {X : Cx} {pins : List (Addr × Obj)} {σ : St} {H : Hp} {s : Shared} {a : Addr} {y d : V} {u r : Value} {o : Option V} {A : Around} {E : Value → Shared → Prop}
theorem d_get2 {Q : Value → Shared → Prop} (hu : A.units + 1 < cLine) (I : Inv X pins σ H s) (g : DGet H a y o) (ry : RelV y u) (rd : RelV d r) (h : ∀ w' s', Inv X pins σ H s' → RelV (o.getD d) w' → Q w' s') :
    wpAny (model X.prog X.w) A (call (.builtin "dict.get") [.ref a, u, r]) Q E s := by
  rcases g with ⟨kvs, k, e, ey, l⟩ | ⟨kvs, k, b, e, ey, eb, l⟩
  · subst ey
    obtain ⟨z, hd, vs, rel, dd⟩ := dk_rd I.hok e
    refine call_meetsIn PySem.F.slot_dict_get dd.typeIs PySem.F.entry_dict_get (PySem.F.args_dict_get_3 _ _ _) (meets_dict_get_default (mixKind X.prog X.w) a (kV_is ry) hd r) ⟨_, dd.mapOf, h _ _ (I.tok _) ?_⟩
    rw [l]
    exact (rel.val k).getD rd
  · subst ey
    cases (show u = Value.ref b from ry)
    obtain ⟨z, hd, xs, rel, dd⟩ := dt_rd I.hok e
    refine call_meetsIn PySem.F.slot_dict_get dd.typeIs PySem.F.entry_dict_get (PySem.F.args_dict_get_3 _ _ _) (meetsH_dict_get_default (tupleKind (mixKind X.prog X.w)) a b hd r) ⟨tupleKind_room_in1 hu, k, xs, key_of I.hok eb, dd, h _ _ (I.tok _) ?_⟩
    rw [l]
    exact (rel.val k).getD rd
end
noncomputable def tDGet2 (td ty tx : TE) : TE := fun σ H Q => td σ H fun x H1 => ∃ a, x = .ref a ∧ IsD H1 a ∧ ty σ H1 fun y H2 => tx σ H2 fun z H3 => ∃ o, DGet H3 a y o ∧ Q (o.getD z) H3
section
variable {X : Cx} {o e f : Expr} {apos cpos : Pos} {td ty tx : TE}
theorem pe_dget2 (hu : X.A.units + 1 < cLine) (ho : PE X o td) (he : PE X e ty) (hf : PE X f tx) (m : M2 X o "get" apos e f cpos) : PE X (.Call (.Attribute o "get" apos) [e, f] [] cpos) (tDGet2 td ty tx) := by
  intro pins s σ H Q I h
  refine wpAny_Call_method m.base m.few m.line PySem.F.plainAttrs_dict PySem.F.slot_dict_get PySem.F.type_dict_get (thn (ho pins s σ H _ I h) fun u s1 ⟨x, H1, I1, rx, a, ex, d, q1⟩ => ?_)
  subst ex
  obtain rfl : u = Value.ref a := rx
  obtain ⟨t1, t2, _⟩ := isD_at I1 d
  refine ⟨t1, t2, ?_⟩
  rw [m.trees]
  refine Calls.callWith_builtin rfl (Calls.evalArgs_plain (Calls.spliced_cons (thn (he pins s1 σ H1 _ I1 q1) fun iv s2 ⟨y, H2, I2, ry, q2⟩ =>
    Calls.spliced_cons (thn (hf pins s2 σ H2 _ I2 q2) fun fv s3 ⟨z, H3, I3, rz, ov, g, q3⟩ => Calls.spliced_nil ?_))))
  exact d_get2 hu I3 g ry rz fun w' s4 I4 rw' => ⟨_, H3, I4, rw', q3⟩
end
section
variable {X : Cx} {pins : List (Addr × Obj)} {σ : St} {H : Hp} {s : Shared} {a : Addr} {kvs : List (Key × V)} {A : Around} {E : Value → Shared → Prop}
theorem d_copyOf {Q : Value → Shared → Prop} (I : Inv X pins σ H s) (e : Rd H a (.dK kvs)) (h : ∀ p s', H p = none → Inv X pins σ (upd H p (.dK kvs)) s' → Q (.ref p) s') : wpAny (model X.prog X.w) A (call (.type "dict") [.ref a]) Q E s := by
  obtain ⟨z, hd, vs, rel, dd⟩ := dk_rd I.hok e
  refine kt_call_dict hd dd (by rw [← rel.length]; exact z) fun h' dd' hs => ?_
  refine h _ _ (I.hok.fresh (Nat.le_refl _)) (I.laid (a := s.heap.objs.size) (o := .dK kvs) (t' := s.toks) (fun b q hq => ?_) (Nat.le_refl _) (dk_new z (beq_eq_false_iff_ne.mpr (Ne.symm (Nat.ne_of_lt I.big))) rel dd'))
  exact (hs.2 b (Nat.ne_of_lt (Heap.lt_size hq))).trans (Heap.get?_push_of_some _ hq)
end
section
variable {X : Cx} {pins : List (Addr × Obj)} {σ : St} {H : Hp} {s : Shared} {a : Addr} {y : V} {u : Value} {A : Around} {E : Value → Shared → Prop}
end
end L2
namespace L2
open PySem PySem.Spec PyProof.Rows
section
variable {X : Cx}
end
section
variable {κ : Type} [DecidableEq κ]
end
end L2
namespace L2
open PySem PySem.Spec PyProof.Rows
section
variable {X : Cx}
inductive rIsi (K : PySem.W.Frag) (xs : List V) (H : Hp) (Q : VK) : Prop
  | mk (x : _) (n : _) (t : _) (b : _) (h0 : xs = [x, .ty n]) (h1 : TyOf K H x t) (h2 : PySem.W.kitOne K t (.type n) = some b) (h3 : Q (.bl b) H) : rIsi K xs H Q
theorem call_isi : CallR X (.builtin "isinstance") (rIsi X.K) := by
  intro pins s σ H xs us Q I r h
  obtain ⟨x, n, t, b, rfl, ty, e, q⟩ := h
  obtain ⟨u, v, rfl, ru, rv⟩ := vals2 r
  cases (show v = Value.type n from rv)
  exact isinst_ok I ru ty e fun tk => ⟨.bl b, H, I.tok tk, rfl, q⟩
end
mutual
inductive RdD (H : Hp) : V → PyData → Prop
  | non : RdD H .non .none
  | bl (b : Bool) : RdD H (.bl b) (.bool b)
  | int (i : Int) : RdD H (.int i) (.int i)
  | str (x : Str) : RdD H (.str x) (.str x)
  | lst {a : Addr} {xs : List V} {ds : List PyData} : H a = some (.lst xs) → RdDs H xs ds → RdD H (.ref a) (.list ds)
  | tup {a : Addr} {xs : List V} {ds : List PyData} : H a = some (.tup xs) → RdDs H xs ds → RdD H (.ref a) (.tuple ds)
inductive RdDs (H : Hp) : List V → List PyData → Prop
  | nil : RdDs H [] []
  | cons {x : V} {xs : List V} {d : PyData} {ds : List PyData} : RdD H x d → RdDs H xs ds → RdDs H (x :: xs) (d :: ds)
end
mutual
theorem RdD.reads {P : Program} {w : World} {H : Hp} {h : Heap} (ok : HOk P w H h) : ∀ {x : V} {d : PyData} {u : Value}, RdD H x d → RelV x u → ∃ as, Reads h u d as
  | _, _, _, .non, r => by cases (show _ = Value.none from r); exact ⟨_, .none⟩
  | _, _, _, .bl b, r => by cases (show _ = Value.bool b from r); exact ⟨_, .bool b⟩
  | _, _, _, .int i, r => by obtain ⟨t, rfl⟩ := r; exact ⟨_, .int i t⟩
  | _, _, _, .str x, r => by obtain ⟨t, rfl⟩ := r; exact ⟨_, .str x t⟩
  | _, _, _, .lst (a := a) (xs := xs) e l, r => by
    cases (show _ = Value.ref a from r)
    obtain ⟨_, its, n, rv, g⟩ := (show ObjOk P w H h a (.lst xs) from ok a _ e)
    obtain ⟨as, q⟩ := RdDs.reads ok l rv
    exact ⟨_, .list g rfl rfl (by simpa using q)⟩
  | _, _, _, .tup (a := a) (xs := xs) e l, r => by
    cases (show _ = Value.ref a from r)
    obtain ⟨_, its, rv, g⟩ := (show ObjOk P w H h a (.tup xs) from ok a _ e)
    obtain ⟨as, q⟩ := RdDs.reads ok l rv
    obtain ⟨o, g1, g2, n, g3⟩ := g
    exact ⟨_, .tuple g1 g2 g3 (by simpa using q)⟩
theorem RdDs.reads {P : Program} {w : World} {H : Hp} {h : Heap} (ok : HOk P w H h) : ∀ {xs : List V} {ds : List PyData} {us : List Value}, RdDs H xs ds → Vals xs us → ∃ as, ReadsAll h us ds as
  | _, _, _, .nil, .nil => ⟨_, .nil⟩
  | _, _, _, .cons a l, .cons r t => by
    obtain ⟨as, q⟩ := RdD.reads ok a r
    obtain ⟨bs, p⟩ := RdDs.reads ok l t
    exact ⟨_, .cons q p⟩
end
section
variable {X : Cx}
inductive rEqD (neg : Bool) (x : V) (y : V) (H : Hp) (Q : VK) : Prop
  | mk (d : _) (e : _) (h0 : RdD H x d) (h1 : RdD H y e) (h2 : SeqAt.shaped d = true) (h3 : SeqAt.shaped e = true) (h4 : Q (.bl (if neg then !PyData.eqv d e else PyData.eqv d e)) H) : rEqD neg x y H Q
theorem op_eqD (hu : X.A.units + 64 < cLine) : OpR X (compareOp .Eq) (rEqD false) := by
  intro pins s σ H x y v u Q I rx ry h
  obtain ⟨d, e, a, b, s1, s2, q⟩ := h
  obtain ⟨as, ra⟩ := a.reads I.hok rx
  obtain ⟨bs, rb⟩ := b.reads I.hok ry
  exact eq_dataH ra rb s1 s2 hu ⟨.bl (PyData.eqv d e), H, I, rfl, q⟩
theorem op_neD (hu : X.A.units + 64 < cLine) : OpR X (compareOp .NotEq) (rEqD true) := by
  intro pins s σ H x y v u Q I rx ry h
  obtain ⟨d, e, a, b, s1, s2, q⟩ := h
  obtain ⟨as, ra⟩ := a.reads I.hok rx
  obtain ⟨bs, rb⟩ := b.reads I.hok ry
  exact ne_dataH ra rb s1 s2 hu ⟨.bl (!PyData.eqv d e), H, I, rfl, q⟩
end
section
variable {X : Cx}
noncomputable def rSetD : V → List V → Hp → VK → Prop := fun x vs H Q => ∃ a kvs k z, x = .ref a ∧ vs = [kV k, z] ∧ H a = some (.dK kvs) ∧ kvs.length < sizeLine ∧ (∀ v, valV kvs k = some v → Q v H) ∧ (valV kvs k = none → Q z (upd H a (.dK (putK kvs k z))))
theorem mt_setdefault : MtM X "dict.setdefault" rSetD := by
  intro pins s σ H x xs v us Q I rx rs h
  obtain ⟨a, kvs, k, z, rfl, rfl, e, hl, q1, q2⟩ := h
  cases (show v = Value.ref a from rx)
  obtain ⟨u1, u2, rfl, r1, r2⟩ := vals2 rs
  obtain ⟨hz, hd, vs, rel, dd⟩ := dk_of I.hok e
  refine call_meetsIn PySem.F.slot_dict_setdefault dd.typeIs PySem.F.entry_dict_setdefault (PySem.F.args_dict_setdefault_3 _ _ _) (kt_meets_setdefault (mixKind X.prog X.w) a (kV_is r1) hd u2)
    ⟨vs, dd, by rw [← rel.length]; exact hz, fun w' hw => ?_, fun hn h' dd' hs => ?_⟩
  · have q := rel.val k
    rw [hw] at q
    cases l : valV kvs k with
    | none => rw [l] at q; cases q
    | some v => rw [l] at q; exact ⟨v, H, I.tok _, q, q1 v l⟩
  · have q := rel.val k
    rw [hn] at q
    cases l : valV kvs k with
    | some v => rw [l] at q; cases q
    | none =>
      have he : ∃ q, h'.get? a = some q := let ⟨q, _, _, hq, _⟩ := dd'; ⟨q, hq⟩
      have hl' : (putK kvs k z).length ≤ sizeLine := by have := length_putK kvs k z; omega
      exact ⟨z, _, d_write I (by rw [e]; exact True.intro) hs he (dk_new hl' hd (rel.put k r2) dd'), r2, q2 l⟩
end
section
variable {X : Cx}
end
end L2
namespace L2
open PySem PySem.Spec PyProof.Rows
theorem thE {α : Type} {t : Sem α} {Q Q' : α → Shared → Prop} {M : Model} {A : Around} {E : Value → Shared → Prop} {s : Shared} (h : wpAny M A t Q (fun _ _ => False) s) (hQ : ∀ a s, Q a s → Q' a s) : wpAny M A t Q' E s :=
  wpAny_mono h hQ fun _ _ f => f.elim
theorem compLoop_any {prog : Program} {w : World} {A : Around} {R : Result → Shared → Prop} {s : Shared} {elt target iter : Expr} {ifs : List Expr} {scope : Scope} {pos : Pos} {it acc : Value} {env : Env} (I : Nat → Shared → Prop)
    (turn : ∀ n s, I n s → wpAny (model prog w) A (pyNext it) (fun r s₁ => match r with
      | none => R (.ok .next) s₁
      | some v => wpAny (model prog w) A (letOwnedTupleGo target it v) (fun _ s₁' => wpAny (model prog w) A (assign target env v) (fun _ s₂ =>
          wpAny (model prog w) A (forIn ifs true fun c r => if r = true then do let ok ← isTrue c env (eval c env); pure (ForInStep.yield ok) else pure (ForInStep.yield r)) (fun ok s₃ =>
            if ok = true then wpAny (model prog w) A (eval elt env) (fun x s₄ =>
              wpAny (model prog w) A (call (.builtin "list.append") [acc, x]) (fun _ s₅ => ∃ m, m < n ∧ I m s₅) (fun _ _ => False) s₄) (fun _ _ => False) s₃
            else ∃ m, m < n ∧ I m s₃) (fun _ _ => False) s₂) (fun _ _ => False) s₁') (fun _ _ => False) s₁) (fun _ _ => False) s)
    (n : Nat) (h : I n s) : codeAny (model prog w) A (.compLoop (.ListComp elt [⟨target, iter, ifs, 0⟩] scope pos) 0 it acc env) R s := by
  refine codeAny_loop rfl I (fun n s hI => ?_) n h
  show wpAny _ A ((compTurn (.ListComp elt [⟨target, iter, ifs, 0⟩] scope pos) 0 it acc env).onRaise (fun x => do noteFrame x env; theTreesLotGoes x)) _ _ s
  refine wpAny_noted ?_
  rw [compTurn_list]
  refine wpAny_bind (wpAny_standAt (wpAny_bind (thE (turn n s hI) (fun r s₁ h₁ => ?_))))
  cases r with
  | none => exact wpAny_pure h₁
  | some v =>
    refine wpAny_bind (thE h₁ fun _ s₁' h₁' => ?_)
    refine wpAny_bind (thE h₁' fun _ s₂ h₂ => wpAny_bind (thE h₂ fun ok s₃ h₃ => ?_))
    cases ok with
    | false => exact wpAny_pure ⟨rfl, h₃⟩
    | true =>
      exact wpAny_bind (wpAny_bind (thE h₃ fun x s₄ h₄ => wpAny_bind (thE h₄ fun _ s₅ h₅ => wpAny_pure (wpAny_pure ⟨rfl, h₅⟩))))
noncomputable abbrev blk (X : Cx) (scope : Scope) (cl : List (Str × Addr)) (N' : List Str) (C : Addr) (s : Shared) (H : Hp) (ex : List Addr) : Cx where
  prog := X.prog
  w := X.w
  K := X.K
  mg := X.mg
  base := X.base
  A := X.A
  N := N'
  s₀ := s
  H₀ := H
  env := compEnvC scope cl C X.env
  outer := X.stack
  stack := X.stack
  ex := ex
  fn := fun _ => false
  calm := X.calm
  pn := []
  xe := fun _ _ => False
structure CompOk (X : Cx) (scope : Scope) (cl : List (Str × Addr)) : Prop where
  clos : closureFor scope X.env = pure cl
  kind : scope.kind = .function
  nocell : ∀ y ∈ scope.names, y.2 ≠ .cell
  names : ∀ y ∈ scope.names, y.2 = .local → scope.names.lookup y.1 = some .local
  sub : ∀ p ∈ cl, X.env.cells.lookup p.1 = some p.2
  has : (scope.names.all fun p => p.2 != .free || (cl.lookup p.1).isSome) = true
noncomputable abbrev MvOk (X : Cx) (scope : Scope) : List Str → List (Option Nat) → Prop := Paired fun (x : Str) (o : Option Nat) => match o with
  | none => True
  | some j => X.N[j]? = some x ∧ scope.names.lookup x = some .free ∧ (X.env.kindOf x = some .cell ∨ X.env.kindOf x = some .free)
theorem lookup_mem {α β : Type} [BEq α] [LawfulBEq α] : ∀ {l : List (α × β)} {x : α} {c : β}, l.lookup x = some c → (x, c) ∈ l
  | [], _, _, h => by simp at h
  | (n, k) :: r, x, c, h => by
    cases hx : x == n with
    | true =>
      simp only [List.lookup_cons, hx] at h
      cases h
      rw [eq_of_beq hx]
      exact List.mem_cons_self
    | false =>
      simp only [List.lookup_cons, hx] at h
      exact List.mem_cons_of_mem _ (lookup_mem h)
theorem relabel_back {env : Env} : ∀ {names : List (Str × NameKind)} {x : Str} {k : NameKind},
    (names.map fun (n, k) => if (k == NameKind.free && env.scope.kind == .function && env.kindOf n == some .cell) then (n, NameKind.cell) else (n, k)).lookup x = some k → ∃ k0, names.lookup x = some k0 ∧ (k = k0 ∨ (k0 = .free ∧ k = .cell))
  | [], _, _, h => by simp at h
  | (n, j) :: r, x, k, h => by
    have ih := @relabel_back env r x k
    have h' : List.lookup x ((if (j == NameKind.free && env.scope.kind == .function && env.kindOf n == some .cell) = true then (n, NameKind.cell) else (n, j)) :: _) = some k := h
    cases hx : x == n with
    | true =>
      by_cases hc : (j == NameKind.free && env.scope.kind == .function && env.kindOf n == some .cell) = true
      · rw [if_pos hc] at h'
        simp only [List.lookup_cons, hx] at h' ⊢
        cases h'
        simp only [Bool.and_eq_true, beq_iff_eq] at hc
        exact ⟨j, rfl, .inr ⟨hc.1.1, rfl⟩⟩
      · rw [if_neg hc] at h'
        simp only [List.lookup_cons, hx] at h' ⊢
        cases h'
        exact ⟨j, rfl, .inl rfl⟩
    | false =>
      by_cases hc : (j == NameKind.free && env.scope.kind == .function && env.kindOf n == some .cell) = true
      · rw [if_pos hc] at h'
        simp only [List.lookup_cons, hx] at h' ⊢
        exact ih h'
      · rw [if_neg hc] at h'
        simp only [List.lookup_cons, hx] at h' ⊢
        exact ih h'
theorem relabel_free {env : Env} : ∀ {names : List (Str × NameKind)} {x : Str}, names.lookup x = some .free →
    (names.map fun (n, k) => if (k == NameKind.free && env.scope.kind == .function && env.kindOf n == some .cell) then (n, NameKind.cell) else (n, k)).lookup x = some .cell ∨
    (names.map fun (n, k) => if (k == NameKind.free && env.scope.kind == .function && env.kindOf n == some .cell) then (n, NameKind.cell) else (n, k)).lookup x = some .free
  | [], _, h => by simp at h
  | (n, j) :: r, x, h => by
    have ih := @relabel_free env r x
    show List.lookup x ((if (j == NameKind.free && env.scope.kind == .function && env.kindOf n == some .cell) = true then (n, NameKind.cell) else (n, j)) :: _) = _ ∨ List.lookup x ((if (j == NameKind.free && env.scope.kind == .function && env.kindOf n == some .cell) = true then (n, NameKind.cell) else (n, j)) :: _) = _
    cases hx : x == n with
    | true =>
      simp only [List.lookup_cons, hx] at h
      cases h
      by_cases hc : (NameKind.free == NameKind.free && env.scope.kind == .function && env.kindOf n == some .cell) = true
      · rw [if_pos hc]
        simp only [List.lookup_cons, hx]
        exact .inl trivial
      · rw [if_neg hc]
        simp only [List.lookup_cons, hx]
        exact .inr trivial
    | false =>
      simp only [List.lookup_cons, hx] at h
      by_cases hc : (j == NameKind.free && env.scope.kind == .function && env.kindOf n == some .cell) = true
      · rw [if_pos hc]; simp only [List.lookup_cons, hx]; exact ih h
      · rw [if_neg hc]; simp only [List.lookup_cons, hx]; exact ih h
noncomputable def closL (cells : List (Str × Addr)) : List (Str × NameKind) → List (Str × Addr) → List (Str × Addr)
  | [], acc => acc
  | (n, k) :: r, acc => if k == .free then closL cells r ((n, (cells.lookup n).getD 0) :: acc) else closL cells r acc
theorem clos_for {env : Env} : ∀ (names : List (Str × NameKind)) (acc : List (Str × Addr)), (names.all fun p => p.2 != .free || (env.cells.lookup p.1).isSome) = true →
    (forIn names acc fun (x : Str × NameKind) (r : List (Str × Addr)) => (match x with | (name, kind) => if (kind == NameKind.free) = true then (do let c ← cellOf env name; pure (ForInStep.yield ((name, c) :: r)) : Sem (ForInStep (List (Str × Addr)))) else pure (ForInStep.yield r))) = (pure (closL env.cells names acc) : Sem (List (Str × Addr)))
  | [], acc, _ => rfl
  | (n, k) :: r, acc, h => by
    have h' := h
    simp only [List.all_cons, Bool.and_eq_true] at h'
    rw [List.forIn_cons]
    by_cases hk : (k == NameKind.free) = true
    · have hc : (env.cells.lookup n).isSome = true := by
        rcases h'.1 with z
        simpa [beq_iff_eq.mp hk] using z
      obtain ⟨c, e⟩ := Option.isSome_iff_exists.mp hc
      simp only [hk, if_true, closL, cellOf, e, Option.getD_some]
      exact clos_for r _ h'.2
    · simp only [hk, closL]
      exact clos_for r _ h'.2
theorem clos_ok {scope : Scope} {env : Env} (h : (scope.names.all fun p => p.2 != .free || (env.cells.lookup p.1).isSome) = true) : closureFor scope env = pure (closL env.cells scope.names []) := by
  unfold closureFor
  dsimp only
  rw [clos_for scope.names [] h]
  rfl
theorem closL_mem {cells : List (Str × Addr)} {p : Str × Addr} : ∀ (names : List (Str × NameKind)) (acc : List (Str × Addr)), (names.all fun p => p.2 != .free || (cells.lookup p.1).isSome) = true → p ∈ closL cells names acc → p ∈ acc ∨ cells.lookup p.1 = some p.2
  | [], acc, _, h => .inl h
  | (n, k) :: r, acc, ha, h => by
    have h' := ha
    simp only [List.all_cons, Bool.and_eq_true] at h'
    by_cases hk : (k == NameKind.free) = true
    · simp only [closL, hk, if_true] at h
      rcases closL_mem r _ h'.2 h with z | z
      · rcases List.mem_cons.mp z with rfl | z
        · have hc : (cells.lookup n).isSome = true := by
            rcases h'.1 with z
            simpa [beq_iff_eq.mp hk] using z
          obtain ⟨c, e⟩ := Option.isSome_iff_exists.mp hc
          refine .inr ?_
          show cells.lookup n = some ((cells.lookup n).getD 0)
          rw [e]
          rfl
        · exact .inl z
      · exact .inr z
    · simp only [closL, hk] at h
      exact closL_mem r _ h'.2 h
theorem closL_acc {cells : List (Str × Addr)} {x : Str} : ∀ (names : List (Str × NameKind)) (acc : List (Str × Addr)), (acc.lookup x).isSome = true → ((closL cells names acc).lookup x).isSome = true
  | [], acc, h => h
  | (n, k) :: r, acc, h => by
    by_cases hk : (k == NameKind.free) = true
    · simp only [closL, hk, if_true]
      refine closL_acc r _ ?_
      rw [List.lookup_cons]
      split
      · rfl
      · exact h
    · simp only [closL, hk]
      exact closL_acc r _ h
theorem closL_has {cells : List (Str × Addr)} : ∀ (names : List (Str × NameKind)) (acc : List (Str × Addr)) (p : Str × NameKind), p ∈ names → p.2 = .free → ((closL cells names acc).lookup p.1).isSome = true
  | (n, k) :: r, acc, p, hm, hf => by
    rcases List.mem_cons.mp hm with rfl | hm
    · have hk : (k == NameKind.free) = true := beq_iff_eq.mpr hf
      simp only [closL, hk, if_true]
      refine closL_acc r _ ?_
      rw [List.lookup_cons, beq_self_eq_true]
      rfl
    · by_cases hk : (k == NameKind.free) = true
      · simp only [closL, hk, if_true]
        exact closL_has r _ p hm hf
      · simp only [closL, hk]
        exact closL_has r _ p hm hf
theorem compOk {X : Cx} {scope : Scope} (h1 : (scope.names.all fun p => p.2 != .free || (X.env.cells.lookup p.1).isSome) = true) (hk : scope.kind = .function) (hn : (scope.names.all fun p => p.2 != .cell) = true)
    (hl : (scope.names.all fun p => p.2 != .local || scope.names.lookup p.1 == some .local) = true) : CompOk X scope (closL X.env.cells scope.names []) where
  clos := clos_ok h1
  kind := hk
  nocell := fun y hy z => by
    have q := List.all_eq_true.mp hn y hy
    rw [z] at q
    exact absurd q (by decide)
  names := fun y hy z => by
    have q := List.all_eq_true.mp hl y hy
    rw [z] at q
    simpa using q
  sub := fun p hp => (closL_mem _ _ h1 hp).resolve_left fun z => nomatch z
  has := by
    refine List.all_eq_true.mpr fun p hp => ?_
    by_cases hf : p.2 = .free
    · rw [closL_has _ _ p hp hf, Bool.or_true]
    · have : (p.2 != NameKind.free) = true := bne_iff_ne.mpr hf
      rw [this, Bool.true_or]
section
variable {X : Cx} {scope : Scope} {cl : List (Str × Addr)} {N' : List Str} {mv : List (Option Nat)}
theorem CompOk.look (S : CompOk X scope cl) {x : Str} {c : Addr} (h : cl.lookup x = some c) : X.env.cells.lookup x = some c := S.sub _ (lookup_mem h)
theorem CompOk.get (S : CompOk X scope cl) {x : Str} (h : scope.names.lookup x = some .free) : ∃ c, cl.lookup x = some c := by
  have q := List.all_eq_true.mp S.has _ (lookup_mem h)
  have q' : (cl.lookup x).isSome = true := by simpa using q
  exact Option.isSome_iff_exists.mp q'
noncomputable def slotsOf (mv : List (Option Nat)) (σ : St) : St := mv.map fun o => o.bind fun j => (σ[j]?).join
theorem mv_get : ∀ {N' : List Str} {mv : List (Option Nat)} {σ : St} {i : Nat} {x : Str} {v : V}, MvOk X scope N' mv → N'[i]? = some x → (slotsOf mv σ)[i]? = some (some v) →
    ∃ j : Nat, X.N[j]? = some x ∧ σ[j]? = some (some v) ∧ scope.names.lookup x = some .free ∧ (X.env.kindOf x = some .cell ∨ X.env.kindOf x = some .free)
  | _, _, _, _, _, _, .nil, h, _ => by simp at h
  | _, _, σ, 0, x, v, .cons (b := o) r t, h, g => by
    simp at h
    subst h
    cases o with
    | none => simp [slotsOf] at g
    | some j =>
      obtain ⟨a, b, c⟩ := r
      refine ⟨j, a, ?_, b, c⟩
      simp only [slotsOf, List.map_cons, List.getElem?_cons_zero, Option.some.injEq, Option.bind_some] at g
      cases q : σ[j]? with
      | none => rw [q] at g; cases g
      | some w =>
        rw [q] at g
        have g' : w = some v := g
        rw [g']
  | _, _, σ, i + 1, x, v, .cons r t, h, g => mv_get (σ := σ) (i := i) t (by simpa using h) (by simpa [slotsOf] using g)
noncomputable def PTs (Y : Cx) (ifs : List Expr) (tt : TT) : Prop :=
  ∀ (pins : List (Addr × Obj)) (s : Shared) (σ : St) (H : Hp) (Q : Bool → Hp → Prop), Inv Y pins σ H s → tt σ H Q →
    wpAny (model Y.prog Y.w) Y.A (forIn ifs true fun c r => if r = true then do let ok ← isTrue c Y.env (eval c Y.env); pure (ForInStep.yield ok) else pure (ForInStep.yield r)) (TP Y pins σ Q) Y.xe s
noncomputable def tTrue : TT := fun _ H Q => Q true H
theorem pts_nil {Y : Cx} : PTs Y [] tTrue := fun pins s σ H Q I h => wpAny_tests_nil ⟨H, I, h⟩
noncomputable def tComp (wi : TI) (mv : List (Option Nat)) (g : TG) (tt : TT) (te : TE) : TE := fun σ H Q => wi σ H fun J H1 => ∀ D, H1 D = none → ∃ (n : Nat) (W : Nat → St → Hp → List V → Prop), n ≤ sizeLine ∧ W 0 (slotsOf mv σ) (upd H1 D (.lst [])) [] ∧
  (∀ i σ2 H2 ys, i < n → W i σ2 H2 ys → ys.length ≤ i ∧ J.go i H2 ∧ ∀ x H3, J.yld i H2 x H3 → g x σ2 H3 fun σ4 H4 => tt σ4 H4 fun b H5 => if b = true then te σ4 H5 fun y H6 => H6 D = some (.lst ys) ∧ W (i + 1) σ4 (upd H6 D (.lst (ys ++ [y]))) (ys ++ [y]) else W (i + 1) σ4 H5 ys) ∧
  (∀ σ2 H2 ys, W n σ2 H2 ys → J.stop n H2 ∧ Q (.ref D) H2)
theorem HOk.but {P : Program} {w : World} {H : Hp} {h h' : Heap} {C : Addr} (ok : HOk P w H h) (hs : Heap.SameBut C h h') (hn : H C = none) : HOk P w H h' := fun a o e =>
  (ok a o e).stay (fun b u hb q => (hs.2 b (fun z => by
    subst z
    rcases hb with z | z
    · rw [← z, hn] at e; cases e
    · rw [hn] at z; cases z)).trans q) (fun _ q => q) fun _ _ q => q
theorem pe_comp {tg iter elt : Expr} {ifs : List Expr} {pos : Pos} {wi : TI} {g : TG} {tt : TT} {te : TE} (hc : X.calm = true) (S : CompOk X scope cl) (mo : MvOk X scope N' mv) (hi : PI X tg iter wi)
    (hg : ∀ C s H ex, PG (blk X scope cl N' C s H ex) tg g) (ht : ∀ C s H ex, PTs (blk X scope cl N' C s H ex) ifs tt) (he : ∀ C s H ex, PE (blk X scope cl N' C s H ex) elt te)
    (hs : ∀ x, foldedSetIterable iter X.env x = pure x := by intro _; rfl) : PE X (.ListComp elt [⟨tg, iter, ifs, 0⟩] scope pos) (tComp wi mv g tt te) := by
  intro pins s σ H Q I h
  rw [eval_ListComp]
  refine wpAny_comprehension_free (use := none) rfl hs S.clos S.kind S.names ?_
  refine thn (hi pins s σ H _ I h) fun v s1 h1 => thn h1 fun itv s2 h2 => ?_
  obtain ⟨it, fp, tn, J, H2, e, I2, T, st2, f2, rd⟩ := h2
  subst e
  refine wpAny_newObj_type (wpAny_newFunctionEnv S.nocell (by intro y hy; simp at hy) (fun h₁ hns₁ hsb₁ => ?_) S.kind)
  dsimp only at hns₁ hsb₁ ⊢
  generalize hH : s2.heap.push { cls := .type "list", dict := none, data := .seq ([] : List Value).toArray } = G at hns₁ hsb₁ ⊢
  have hC : G.objs.size = s2.heap.objs.size + 1 := by rw [← hH, Heap.size_push]
  generalize hCC : G.objs.size = C at hns₁ hsb₁ hC ⊢
  have hDC : s2.heap.objs.size ≠ C := by rw [hC]; exact Nat.ne_of_lt (Nat.lt_succ_self _)
  have ltC : ∀ b, b < s2.heap.objs.size → b ≠ C := fun b hb => by rw [hC]; exact Nat.ne_of_lt (Nat.lt_succ_of_lt hb)
  have old : ∀ b o, s2.heap.get? b = some o → h₁.get? b = some o := fun b o e => hsb₁.extBut b o (ltC b (Heap.lt_size e)) (Heap.get?_push_of_some _ (hH ▸ Heap.get?_push_of_some _ e))
  have hacc : h₁.get? s2.heap.objs.size = some { cls := .type "list", data := .seq ([] : List Value).toArray } := hsb₁.extBut _ _ hDC (Heap.get?_push_of_some _ (hH ▸ Heap.get?_push_size _ rfl))
  have hDn : H2 s2.heap.objs.size = none := I2.hok.fresh (Nat.le_refl _)
  have hCn : H2 C = none := I2.hok.fresh (by rw [hC]; exact Nat.le_succ _)
  have fpl : ∀ b ∈ fp, b < s2.heap.objs.size := fun b hb => by obtain ⟨o, e, _⟩ := T.obj _ _ st2 b hb; exact Heap.lt_size e
  have cll : ∀ x c, cl.lookup x = some c → c < s2.heap.objs.size := fun x c e => by obtain ⟨v, o, q, _⟩ := I2.cell x c (S.look e); exact Heap.lt_size q
  have okY : (blk X scope cl N' C s2 H2 fp).Ok := by
    refine ⟨I2.ok.mod, S.kind, I2.ok.glob, I2.ok.blt, by show s2.heap.objs.size ≤ C; rw [hC]; exact Nat.le_succ _, fun x y c a b => I2.ok.inj x y c (S.look a) (S.look b), fun x hx => ?_, (fun x c z => by cases z), I2.ok.hd, I2.ok.frames, .inl rfl, fun b hb => ⟨ltC b (fpl b hb), fun x c z => (f2 b hb).2.2.2.2.1 x c (S.look z)⟩,
      fun b o q => I2.bs b o q, Nat.le_trans I2.ok.bsz I2.sz, fun b o q hb => ?_, fun b hb z => ?_, I2.stack, I2.stkFree⟩
    · have hx' : (relabel scope X.env).names.lookup x = some .cell ∨ (relabel scope X.env).names.lookup x = some .free := hx
      have hk : scope.names.lookup x = some .free := by
        rcases hx' with z | z
        · obtain ⟨k0, q, r⟩ := relabel_back z
          rcases r with r | ⟨r, _⟩
          · subst r
            exact absurd rfl (S.nocell _ (lookup_mem q))
          · rw [q, r]
        · obtain ⟨k0, q, r⟩ := relabel_back z
          rcases r with r | ⟨r, r'⟩
          · rw [q, r]
          · cases r'
      exact S.get hk
    · rcases (f2 b hb).2.2.2.1 with z | z
      · exact I2.ok.noex b o q z
      · exact absurd (Nat.lt_of_lt_of_le (Nat.lt_of_lt_of_le (Heap.lt_size q) I2.ok.bsz) z) (Nat.lt_irrefl _)
    · rcases List.mem_cons.mp (I2.stkSub b z) with y | y
      · exact (f2 b hb).2.1 y
      · exact (f2 b hb).2.2.1 y
  have IY : Inv (blk X scope cl N' C s2 H2 fp) [] (slotsOf mv σ) (upd H2 s2.heap.objs.size (.lst [])) { s2 with heap := h₁, toks := s2.toks + ([] : List (Str × Value)).length } := by
    have un : Un (frs X.stack) fp H2 (upd H2 s2.heap.objs.size (.lst [])) s2.heap h₁ := Un.laid old (Nat.le_refl _) hDn
    refine ⟨okY, rfl, I2.bare, un, ?_, fun x c z => ?_, ?_, fun x c z => ?_, fun p hp => by simp at hp, ?_, ?_⟩
    · refine ⟨_, hns₁, fun i x v e1 e2 e3 => ?_⟩
      obtain ⟨j, a1, a2, a3, a4⟩ := mv_get mo e1 e2
      obtain ⟨m, hm, hl⟩ := I2.loc
      have hv : Vis X.env.scope x := by
        rcases a4 with a4 | a4
        · exact .inr (.inl a4)
        · exact .inr (.inr a4)
      obtain ⟨u, ru, lk⟩ := hl j x v a1 a2 hv
      refine ⟨u, ru, .inr ?_⟩
      obtain ⟨c, hcl⟩ := S.get a3
      refine ⟨relabel_free a3, c, hcl, ?_⟩
      rcases lk with ⟨k, _⟩ | ⟨_, c', q, z⟩
      · rcases a4 with a4 | a4
        · rw [a4] at k; cases k
        · rw [a4] at k; cases k
      · rw [S.look hcl] at q
        cases q
        obtain ⟨o, q, d⟩ := z
        exact ⟨o, old _ _ q, d⟩
    · obtain ⟨v, o, q, d⟩ := I2.cell x c (S.look z)
      exact ⟨v, o, old _ _ q, d⟩
    · show upd H2 s2.heap.objs.size (.lst []) C = none
      rw [upd_ne (Ne.symm hDC)]
      exact hCn
    · rw [upd_ne (Nat.ne_of_lt (cll x c z))]
      exact I2.freeC x c (S.look z)
    · exact I2.hok.laid old (Nat.le_refl _) ⟨Nat.zero_le _, [], 0, .nil, hacc⟩
    · show (slotsOf mv σ).length = N'.length
      rw [slotsOf, List.length_map]
      exact (Paired.length mo).symm
  obtain ⟨n, W, hn, w0, turn, fin⟩ := rd s2.heap.objs.size hDn
  have stat : ∀ {H' : Hp}, (∀ b ∈ fp, H' b = none) → ∀ b ∈ fp, FpOk (blk X scope cl N' C s2 H2 fp) [] H' b := fun hn' b hb =>
    ⟨hn' b hb, ltC b (fpl b hb), fun z => by
      rcases List.mem_cons.mp (I2.stkSub b z) with y | y
      · exact (f2 b hb).2.1 y
      · exact (f2 b hb).2.2.1 y, .inl hb, fun x c z => (f2 b hb).2.2.2.2.1 x c (S.look z), fun p hp => by simp at hp⟩
  have loop : ∀ s₃ : Shared, s₃ = { s2 with heap := h₁, toks := s2.toks + ([] : List (Str × Value)).length } →
      codeAny (model X.prog X.w) X.A (.compLoop (.ListComp elt [⟨tg, iter, ifs, 0⟩] scope pos) 0 (.ref it) (.ref s2.heap.objs.size) (compEnvC scope cl C X.env))
        (compPost (model X.prog X.w) X.A X.xe none (EP X pins σ Q) (.ref s2.heap.objs.size) C) s₃ := by
    rintro s₃ rfl
    refine compLoop_any (fun k s' => ∃ i σ' H' ys, Inv (blk X scope cl N' C s2 H2 fp) [] σ' H' s' ∧ tn i s'.heap ∧ (∀ b ∈ fp, H' b = none) ∧ i ≤ n ∧ k = n + 1 - i ∧ W i σ' H' ys) ?_ (n + 1)
      ⟨0, _, _, [], IY, T.keep _ _ _ st2 fun b _ o e => old b o e, fun b hb => by rw [upd_ne (Nat.ne_of_lt (fpl b hb))]; exact (f2 b hb).1, Nat.zero_le _, rfl, w0⟩
    rintro k s3 ⟨i, σ3, H3, ys, I3, st3, fr3, hin, rfl, w3⟩
    by_cases hlt : i < n
    · obtain ⟨hyl, go, step⟩ := turn i σ3 H3 ys hlt w3
      refine thn (T.item (blk X scope cl N' C s2 H2 fp) rfl rfl rfl hc i [] s3 σ3 H3 (fun _ _ => False) I3 (stat fr3) st3 go) fun r s4 ⟨u, hr, h4⟩ => ?_
      subst hr
      refine thn h4 fun _ s5 ⟨x, H5, I5, r5, y5, st5, fr5⟩ => ?_
      have I5' := I5.pinned (stat fr5) (T.obj _ _ st5)
      refine thn (hg _ _ _ _ _ s5 σ3 H5 x u _ I5' r5 (step x H5 y5)) fun _ s6 ⟨σ6, H6, I6, q6⟩ => ?_
      refine thn (ht _ _ _ _ _ s6 σ6 H6 _ I6 q6) fun b s7 ⟨H7, I7, q7⟩ => ?_
      have again : ∀ {H8 : Hp} {s8 : Shared} {zs : List V}, Inv (blk X scope cl N' C s2 H2 fp) ([] ++ pinsAt fp s5.heap) σ6 H8 s8 → W (i + 1) σ6 H8 zs →
          ∃ m, m < n + 1 - i ∧ ∃ i σ' H' ys, Inv (blk X scope cl N' C s2 H2 fp) [] σ' H' s8 ∧ tn i s8.heap ∧ (∀ b ∈ fp, H' b = none) ∧ i ≤ n ∧ m = n + 1 - i ∧ W i σ' H' ys := fun {H8 s8 zs} I8 w8 => by
        refine ⟨n + 1 - (i + 1), by omega, i + 1, σ6, H8, zs, I8.unpinned, T.keep _ _ _ st5 fun b hb o e => (I8.pin (b, o) (List.mem_append_right _ (List.mem_append_right _ (mem_pinsAt hb e)))).1, fun b hb => ?_, hlt, rfl, w8⟩
        obtain ⟨o, e, d⟩ := T.obj _ _ st5 b hb
        exact (I8.pin (b, o) (List.mem_append_right _ (List.mem_append_right _ (mem_pinsAt hb e)))).2.1
      cases b with
      | false => exact again I7 q7
      | true =>
        refine thn (he _ _ _ _ _ s7 σ6 H7 _ I7 q7) fun y s8 ⟨yv, H8, I8, r8, hD8, w8⟩ => ?_
        refine thn (mt_append (X := blk X scope cl N' C s2 H2 fp) _ s8 σ6 H8 (.ref s2.heap.objs.size) [yv] (.ref s2.heap.objs.size) [y] (fun v H9 => v = .non ∧ W (i + 1) σ6 H9 (ys ++ [yv])) I8 rfl (.cons r8 .nil)
          ⟨_, ys, yv, rfl, rfl, hD8, Nat.lt_of_le_of_lt hyl (Nat.lt_of_lt_of_le hlt hn), rfl, w8⟩) fun v s9 ⟨x9, H9, I9, r9, _, w9⟩ => ?_
        exact again I9 w9
    · obtain rfl : i = n := Nat.le_antisymm hin (Nat.not_lt.mp hlt)
      obtain ⟨stop, q⟩ := fin σ3 H3 ys w3
      refine thn (T.done (blk X scope cl N' C s2 H2 fp) rfl rfl rfl hc i [] s3 σ3 H3 (fun _ _ => False) I3 (stat fr3) st3 stop) fun r s4 ⟨hr, I4⟩ => ?_
      subst hr
      obtain ⟨m, hm, _⟩ := I4.loc
      refine ⟨m, hm, fun h' hs' => ⟨.ref s2.heap.objs.size, H3, ?_, rfl, q⟩⟩
      have hfr : H3 C = none := I4.free
      refine I2.call' (s' := { s4 with heap := h' }) (ch := fp) I4.os ?_ (I4.hok.but hs' hfr) I4.bare fun b hb => ⟨(f2 b hb).2.2.2.1, (f2 b hb).2.1, (f2 b hb).2.2.2.2.1, (f2 b hb).2.2.2.2.2⟩
      have u := I4.base
      have ne : ∀ b o, s2.heap.get? b = some o → b ≠ C := fun b o e => ltC b (Heap.lt_size e)
      exact ⟨fun b o e n1 n2 n3 => (hs'.2 b (ne b o e)).trans (u.keep b o e n1 n2 n3), fun b o e n1 n2 n3 => by
        obtain ⟨sl, z⟩ := u.slot b o e n1 n2 n3
        exact ⟨sl, (hs'.2 b (ne b o e)).trans z⟩, u.free, fun b o e n3 => by
        obtain ⟨o', z⟩ := u.there b o e n3
        exact ⟨o', (hs'.2 b (ne b o e)).trans z⟩, u.tups, u.frzs, u.tbls⟩
  exact codeAny_compStart_list (loop _ rfl) (T.self _ 0 _ _ _ (T.keep _ _ _ st2 fun b _ o e => old b o e) (loop _ rfl))
end
theorem comp_range {ta : TA} {lo hi : Int} {n : Nat} {mv : List (Option Nat)} {g : TG} {te : TE} {σ : St} {H : Hp} {Q : VK} (hta : ∀ Q' : List V → Hp → Prop, Q' [.int lo, .int hi] H → ta σ H Q') (hb : -(2 ^ 62) ≤ lo ∧ lo < 2 ^ 62 ∧ -(2 ^ 62) ≤ hi ∧ hi < 2 ^ 62) (hn : (hi - lo).toNat = n) (hz : n ≤ sizeLine)
    (Pv : Addr → Nat → St → Hp → List V → Prop) (h0 : ∀ D, H D = none → Pv D 0 (slotsOf mv σ) (upd H D (.lst [])) [])
    (hl : ∀ D i σ H2 ys, i ≤ n → Pv D i σ H2 ys → ys.length ≤ i)
    (hs : ∀ D (i : Nat) σ H2 ys, H D = none → i < n → Pv D i σ H2 ys → g (.int (lo + i)) σ H2 fun σ2 H3 => te σ2 H3 fun y H4 => H4 D = some (.lst ys) ∧ Pv D (i + 1) σ2 (upd H4 D (.lst (ys ++ [y]))) (ys ++ [y]))
    (hd : ∀ D σ H2 ys, H D = none → Pv D n σ H2 ys → Q (.ref D) H2) : tComp (iRng2 ta) mv g tTrue te σ H Q := by
  subst hn
  refine hta _ ⟨lo, hi, rfl, hb, fun D hD => ⟨(hi - lo).toNat, Pv D, hz, h0 D hD, fun i σ2 H2 ys hi w => ⟨hl D i σ2 H2 ys (Nat.le_of_lt hi) w, hi, fun x H3 y => ?_⟩, fun σ2 H2 ys w => ⟨Nat.le_refl _, hd D _ _ _ hD w⟩⟩⟩
  obtain ⟨rfl, rfl⟩ := y
  exact hs D i σ2 _ ys hD hi w
end L2
namespace EB
noncomputable abbrev Say := Int × Int
noncomputable def Lit (n : Nat) (x : Int) : Prop := 1 ≤ x.natAbs ∧ x.natAbs ≤ n
theorem Lit.ne0 {n : Nat} {x : Int} (h : Lit n x) : x ≠ 0 := by unfold Lit at h; omega
theorem Lit.neg {n : Nat} {x : Int} (h : Lit n x) : Lit n (-x) := by unfold Lit at *; omega
theorem Lit.cases {n : Nat} {x : Int} (h : Lit n x) : ∃ v : Nat, 1 ≤ v ∧ v ≤ n ∧ (x = (v : Int) ∨ x = -(v : Int)) := ⟨x.natAbs, h.1, h.2, by omega⟩
theorem lit_nat {n v : Nat} (h1 : 1 ≤ v) (h2 : v ≤ n) : Lit n (v : Int) := by unfold Lit; omega
noncomputable def PileOk (n : Nat) (pile : List Say) : Prop := ∀ c ∈ pile, Lit n c.1 ∧ Lit n c.2
noncomputable def tru (s : List Bool) (x : Int) : Bool := s.getD (x.natAbs - 1) false == decide (0 < x)
noncomputable def tsay (s : List Bool) (c : Say) : Bool := tru s c.1 || tru s c.2
noncomputable def goodB (pile : List Say) (s : List Bool) : Bool := pile.all (tsay s)
theorem tru_neg {s : List Bool} {x : Int} (h : x ≠ 0) : tru s (-x) = !tru s x := by
  unfold tru
  rw [Int.natAbs_neg]
  by_cases h1 : 0 < x
  · have h2 : ¬ 0 < -x := by omega
    rw [decide_eq_true h1, decide_eq_false h2]
    cases s.getD (x.natAbs - 1) false <;> rfl
  · have h2 : 0 < -x := by omega
    rw [decide_eq_false h1, decide_eq_true h2]
    cases s.getD (x.natAbs - 1) false <;> rfl
theorem goodB_iff {pile : List Say} {s : List Bool} : goodB pile s = true ↔ ∀ c ∈ pile, tru s c.1 = true ∨ tru s c.2 = true := by
  unfold goodB tsay
  rw [List.all_eq_true]
  constructor
  · intro h c hc
    have := h c hc
    simpa using this
  · intro h c hc
    have := h c hc
    simpa using this
noncomputable def Step (pile : List Say) (a b : Int) : Prop := ∃ c ∈ pile, (c.1 = -a ∧ c.2 = b) ∨ (c.2 = -a ∧ c.1 = b)
inductive Reach (pile : List Say) (a : Int) : Int → Prop
  | refl : Reach pile a a
  | tail {b c : Int} : Reach pile a b → Step pile b c → Reach pile a c
theorem Reach.head {pile : List Say} {a b c : Int} (h : Step pile a b) (r : Reach pile b c) : Reach pile a c := by
  induction r with
  | refl => exact .tail .refl h
  | tail _ s ih => exact .tail ih s
theorem Reach.trans {pile : List Say} {a b c : Int} (r : Reach pile a b) (q : Reach pile b c) : Reach pile a c := by
  induction q with
  | refl => exact r
  | tail _ s ih => exact .tail ih s
theorem Step.flip {pile : List Say} {a b : Int} (h : Step pile a b) : Step pile (-b) (-a) := by
  obtain ⟨c, hc, ⟨h1, h2⟩ | ⟨h1, h2⟩⟩ := h
  · exact ⟨c, hc, .inr ⟨by omega, by omega⟩⟩
  · exact ⟨c, hc, .inl ⟨by omega, by omega⟩⟩
theorem Reach.flip {pile : List Say} {a b : Int} (r : Reach pile a b) : Reach pile (-b) (-a) := by
  induction r with
  | refl => exact .refl
  | tail _ s ih => exact .head s.flip ih
theorem Step.lit {n : Nat} {pile : List Say} (ok : PileOk n pile) {a b : Int} (h : Step pile a b) : Lit n a ∧ Lit n b := by
  obtain ⟨c, hc, ⟨h1, h2⟩ | ⟨h1, h2⟩⟩ := h
  · obtain ⟨l1, l2⟩ := ok c hc
    exact ⟨by have := l1.neg; rw [h1, Int.neg_neg] at this; exact this, h2 ▸ l2⟩
  · obtain ⟨l1, l2⟩ := ok c hc
    exact ⟨by have := l2.neg; rw [h1, Int.neg_neg] at this; exact this, h2 ▸ l1⟩
theorem Reach.lit {n : Nat} {pile : List Say} (ok : PileOk n pile) {a b : Int} (h : Reach pile a b) (ha : Lit n a) : Lit n b := by
  cases h with
  | refl => exact ha
  | tail _ s => exact (s.lit ok).2
theorem tru_step {n : Nat} {pile : List Say} (ok : PileOk n pile) {s : List Bool} (g : goodB pile s = true) {a b : Int} (h : Step pile a b) (t : tru s a = true) : tru s b = true := by
  have l := (h.lit ok).1
  obtain ⟨c, hc, h⟩ := h
  have hg := goodB_iff.mp g c hc
  have na : tru s (-a) = false := by rw [tru_neg l.ne0, t]; rfl
  rcases h with ⟨h1, h2⟩ | ⟨h1, h2⟩
  · rw [h1, h2, na] at hg
    rcases hg with hg | hg
    · cases hg
    · exact hg
  · rw [h1, h2, na] at hg
    rcases hg with hg | hg
    · exact hg
    · cases hg
theorem tru_reach {n : Nat} {pile : List Say} (ok : PileOk n pile) {s : List Bool} (g : goodB pile s = true) {a b : Int} (h : Reach pile a b) (t : tru s a = true) : tru s b = true := by
  induction h with
  | refl => exact t
  | tail _ s ih => exact tru_step ok g s ih
noncomputable def addNew (l : List Int) (x : Int) : List Int := if x ∈ l then l else l ++ [x]
noncomputable def dueStep (lit : Int) (d : List Int) (c : Say) : List Int :=
  let d1 := if c.1 = -lit then addNew d c.2 else d
  if c.2 = -lit then addNew d1 c.1 else d1
noncomputable def due (pile : List Say) (lit : Int) : List Int := pile.foldl (dueStep lit) []
theorem mem_addNew {l : List Int} {x y : Int} : y ∈ addNew l x ↔ y ∈ l ∨ y = x := by
  unfold addNew
  split
  · constructor
    · exact .inl
    · rintro (h | rfl)
      · exact h
      · assumption
  · simp
theorem nodup_addNew {l : List Int} {x : Int} (h : l.Nodup) : (addNew l x).Nodup := by
  unfold addNew
  split
  · exact h
  · rename_i hx
    rw [List.nodup_append]
    refine ⟨h, by simp, ?_⟩
    intro a ha b hb e
    rw [List.mem_singleton] at hb
    subst hb
    subst e
    exact hx ha
theorem due_snoc (pile : List Say) (c : Say) (lit : Int) : due (pile ++ [c]) lit = dueStep lit (due pile lit) c := by
  unfold due
  rw [List.foldl_append]
  rfl
theorem mem_dueStep {lit y : Int} {d : List Int} {c : Say} : y ∈ dueStep lit d c ↔ y ∈ d ∨ (c.1 = -lit ∧ c.2 = y) ∨ (c.2 = -lit ∧ c.1 = y) := by
  unfold dueStep
  by_cases h1 : c.1 = -lit <;> by_cases h2 : c.2 = -lit <;> simp only [h1, h2, if_true, if_false, mem_addNew, true_and, false_and, or_false, false_or, or_assoc, eq_comm (a := y)]
theorem nodup_dueStep {lit : Int} {d : List Int} {c : Say} (h : d.Nodup) : (dueStep lit d c).Nodup := by
  unfold dueStep
  dsimp only
  split <;> split <;> first | exact h | exact nodup_addNew h | exact nodup_addNew (nodup_addNew h)
theorem foldl_mem {lit y : Int} : ∀ (pile : List Say) (d : List Int), y ∈ pile.foldl (dueStep lit) d ↔ y ∈ d ∨ Step pile lit y
  | [], d => by
    simp only [List.foldl_nil]
    constructor
    · exact .inl
    · rintro (h | ⟨c, hc, _⟩)
      · exact h
      · cases hc
  | c :: r, d => by
    rw [List.foldl_cons, foldl_mem r, mem_dueStep]
    unfold Step
    constructor
    · rintro ((h | h) | ⟨e, he, h⟩)
      · exact .inl h
      · exact .inr ⟨c, List.mem_cons_self, h⟩
      · exact .inr ⟨e, List.mem_cons_of_mem _ he, h⟩
    · rintro (h | ⟨e, he, h⟩)
      · exact .inl (.inl h)
      · rcases List.mem_cons.mp he with rfl | he
        · exact .inl (.inr h)
        · exact .inr ⟨e, he, h⟩
theorem mem_due {pile : List Say} {lit y : Int} : y ∈ due pile lit ↔ Step pile lit y := by
  unfold due
  rw [foldl_mem]
  simp
theorem nodup_foldl {lit : Int} : ∀ (pile : List Say) (d : List Int), d.Nodup → (pile.foldl (dueStep lit) d).Nodup
  | [], _, h => h
  | _ :: r, _, h => nodup_foldl r _ (nodup_dueStep h)
theorem nodup_due {pile : List Say} {lit : Int} : (due pile lit).Nodup := nodup_foldl pile [] List.nodup_nil
theorem nodup_le : ∀ {l u : List Int}, l.Nodup → (∀ x ∈ l, x ∈ u) → l.length ≤ u.length
  | [], _, _, _ => Nat.zero_le _
  | a :: r, u, h, s => by
    have ha : a ∈ u := s a List.mem_cons_self
    have hr : r.Nodup := (List.nodup_cons.mp h).2
    have hn : a ∉ r := (List.nodup_cons.mp h).1
    have hs : ∀ x ∈ r, x ∈ u.erase a := fun x hx => by
      have hne : x ≠ a := fun e => hn (e ▸ hx)
      exact (List.mem_erase_of_ne hne).mpr (s x (List.mem_cons_of_mem _ hx))
    have := nodup_le hr hs
    rw [List.length_erase_of_mem ha] at this
    have : 0 < u.length := List.length_pos_of_mem ha
    simp only [List.length_cons]
    omega
noncomputable def allLits (n : Nat) : List Int := (List.range n).map (fun (k : Nat) => ((k : Int) + 1)) ++ (List.range n).map (fun (k : Nat) => -((k : Int) + 1))
theorem allLits_len (n : Nat) : (allLits n).length = 2 * n := by
  unfold allLits
  simp
  omega
theorem mem_allLits {n : Nat} {x : Int} (h : Lit n x) : x ∈ allLits n := by
  unfold allLits
  unfold Lit at h
  rw [List.mem_append, List.mem_map, List.mem_map]
  by_cases hx : 0 < x
  · exact .inl ⟨x.natAbs - 1, by rw [List.mem_range]; omega, by omega⟩
  · exact .inr ⟨x.natAbs - 1, by rw [List.mem_range]; omega, by omega⟩
theorem lits_le {n : Nat} {l : List Int} (h : l.Nodup) (hl : ∀ x ∈ l, Lit n x) : l.length ≤ 2 * n := by
  rw [← allLits_len n]
  exact nodup_le h fun x hx => mem_allLits (hl x hx)
theorem due_lit {n : Nat} {pile : List Say} (ok : PileOk n pile) {a y : Int} (h : y ∈ due pile a) : Lit n y := ((mem_due.mp h).lit ok).2
theorem due_len {n : Nat} {pile : List Say} (ok : PileOk n pile) (a : Int) : (due pile a).length ≤ 2 * n := lits_le nodup_due fun _ h => due_lit ok h
theorem addNew_le {l : List Int} {x : Int} : (addNew l x).length ≤ l.length + 1 := by
  unfold addNew
  split
  · exact Nat.le_succ _
  · simp
theorem dueStep_le (lit : Int) (d : List Int) (c : Say) : (dueStep lit d c).length ≤ d.length + 2 := by
  unfold dueStep
  dsimp only
  have h1 := addNew_le (l := d) (x := c.2)
  have h2 := addNew_le (l := d) (x := c.1)
  have h3 := addNew_le (l := addNew d c.2) (x := c.1)
  split <;> split <;> omega
theorem foldl_le {lit : Int} : ∀ (pile : List Say) (d : List Int), (pile.foldl (dueStep lit) d).length ≤ d.length + 2 * pile.length
  | [], d => by simp
  | c :: r, d => by
    have h1 := foldl_le (lit := lit) r (dueStep lit d c)
    have h2 := dueStep_le lit d c
    rw [List.foldl_cons, List.length_cons]
    omega
theorem due_short (pile : List Say) (x : Int) : (due pile x).length ≤ 2 * pile.length := by
  have := foldl_le (lit := x) pile []
  simpa [due] using this
end EB
namespace EB
noncomputable def RS (pile : List Say) (S : Int → Prop) (x : Int) : Prop := ∃ l, S l ∧ Reach pile l x
noncomputable def Torn (pile : List Say) (S : Int → Prop) : Prop := ∃ x, RS pile S x ∧ RS pile S (-x)
theorem RS.of {pile : List Say} {S : Int → Prop} {x : Int} (h : S x) : RS pile S x := ⟨x, h, .refl⟩
theorem RS.mono {pile : List Say} {S T : Int → Prop} (h : ∀ x, S x → T x) {x : Int} (r : RS pile S x) : RS pile T x := let ⟨l, a, b⟩ := r; ⟨l, h l a, b⟩
theorem RS.bind {pile : List Say} {S T : Int → Prop} (h : ∀ x, S x → RS pile T x) {x : Int} (r : RS pile S x) : RS pile T x := by
  obtain ⟨l, a, b⟩ := r
  obtain ⟨k, c, d⟩ := h l a
  exact ⟨k, c, d.trans b⟩
theorem RS.step {pile : List Say} {S : Int → Prop} {x y : Int} (r : RS pile S x) (s : Step pile x y) : RS pile S y := let ⟨l, a, b⟩ := r; ⟨l, a, .tail b s⟩
theorem Torn.mono {pile : List Say} {S T : Int → Prop} (h : ∀ x, S x → T x) (t : Torn pile S) : Torn pile T := let ⟨x, a, b⟩ := t; ⟨x, a.mono h, b.mono h⟩
theorem Torn.bind {pile : List Say} {S T : Int → Prop} (h : ∀ x, S x → RS pile T x) (t : Torn pile S) : Torn pile T := let ⟨x, a, b⟩ := t; ⟨x, a.bind h, b.bind h⟩
theorem torn_no {n : Nat} {pile : List Say} (ok : PileOk n pile) {S : Int → Prop} (hS : ∀ x, S x → Lit n x) (t : Torn pile S) {s : List Bool} (g : goodB pile s = true) (h : ∀ x, S x → tru s x = true) : False := by
  obtain ⟨x, ⟨l, a, b⟩, ⟨k, c, d⟩⟩ := t
  have h1 := tru_reach ok g b (h l a)
  have h2 := tru_reach ok g d (h k c)
  have hl : Lit n x := b.lit ok (hS l a)
  rw [tru_neg hl.ne0, h1] at h2
  cases h2
noncomputable def Knot (pile : List Say) (v : Int) : Prop := Reach pile v (-v) ∧ Reach pile (-v) v
theorem knot_no {n : Nat} {pile : List Say} (ok : PileOk n pile) {v : Int} (hv : Lit n v) (k : Knot pile v) {s : List Bool} (g : goodB pile s = true) : False := by
  cases t : tru s v with
  | true =>
    have := tru_reach ok g k.1 t
    rw [tru_neg hv.ne0, t] at this
    cases this
  | false =>
    have t' : tru s (-v) = true := by rw [tru_neg hv.ne0, t]; rfl
    have := tru_reach ok g k.2 t'
    rw [t] at this
    cases this
structure Closed (pile : List Say) (K : List Int) : Prop where
  cl : ∀ x ∈ K, ∀ y, Step pile x y → y ∈ K
  co : ∀ x ∈ K, -x ∉ K
  nd : K.Nodup
theorem Closed.reach {pile : List Say} {K : List Int} (c : Closed pile K) {x y : Int} (h : x ∈ K) (r : Reach pile x y) : y ∈ K := by
  induction r with
  | refl => exact h
  | tail _ s ih => exact c.cl _ ih _ s
structure GInv (n : Nat) (pile : List Say) (known lits F W : List Int) : Prop where
  sub : ∀ x ∈ known, x ∈ F
  lit : ∀ x ∈ lits, x ∈ F ∨ x ∈ W
  cl : ∀ x ∈ F, ∀ y, Step pile x y → y ∈ F ∨ y ∈ W
  fr : ∀ x ∈ F, x ∈ known ∨ RS pile (· ∈ lits) x
  fw : ∀ x ∈ W, RS pile (· ∈ lits) x
  co : ∀ x ∈ F, -x ∉ F
  nd : F.Nodup
  lf : ∀ x ∈ F, Lit n x
  lw : ∀ x ∈ W, Lit n x
  bd : (2 * n - F.length) * (2 * n + 1) + W.length ≤ 2 * n * (2 * n + 1) + lits.length
theorem GInv.start {n : Nat} {pile : List Say} {known lits : List Int} (c : Closed pile known) (lk : ∀ x ∈ known, Lit n x) (ll : ∀ x ∈ lits, Lit n x) : GInv n pile known lits known lits where
  sub := fun _ h => h
  lit := fun _ h => .inr h
  cl := fun x h y s => .inl (c.cl x h y s)
  fr := fun _ h => .inl h
  fw := fun _ h => RS.of h
  co := c.co
  nd := c.nd
  lf := lk
  lw := ll
  bd := Nat.add_le_add_right (Nat.mul_le_mul_right _ (Nat.sub_le _ _)) _
theorem GInv.skip {n : Nat} {pile : List Say} {known lits F W : List Int} {x : Int} (g : GInv n pile known lits F (W ++ [x])) (h : x ∈ F) : GInv n pile known lits F W where
  sub := g.sub
  lit := fun y hy => by
    rcases g.lit y hy with h1 | h1
    · exact .inl h1
    · rcases List.mem_append.mp h1 with h1 | h1
      · exact .inr h1
      · rw [List.mem_singleton] at h1; subst h1; exact .inl h
  cl := fun z hz y s => by
    rcases g.cl z hz y s with h1 | h1
    · exact .inl h1
    · rcases List.mem_append.mp h1 with h1 | h1
      · exact .inr h1
      · rw [List.mem_singleton] at h1; subst h1; exact .inl h
  fr := g.fr
  fw := fun y hy => g.fw y (List.mem_append_left _ hy)
  co := g.co
  nd := g.nd
  lf := g.lf
  lw := fun y hy => g.lw y (List.mem_append_left _ hy)
  bd := by have := g.bd; rw [List.length_append, List.length_singleton] at this; omega
theorem GInv.meas_skip {n : Nat} {F W : List Int} {x : Int} : (2 * n - F.length) * (2 * n + 1) + W.length < (2 * n - F.length) * (2 * n + 1) + (W ++ [x]).length := by
  rw [List.length_append, List.length_singleton]; omega
theorem flen {n : Nat} {F : List Int} {x : Int} (nd : F.Nodup) (lf : ∀ x ∈ F, Lit n x) (h : x ∉ F) (hx : Lit n x) : F.length + 1 ≤ 2 * n := by
  have : (x :: F).length ≤ 2 * n := lits_le (List.nodup_cons.mpr ⟨h, nd⟩) fun y hy => by
    rcases List.mem_cons.mp hy with rfl | hy
    · exact hx
    · exact lf y hy
  simpa using this
theorem meas_add {n a b c : Nat} (h1 : a + 1 ≤ 2 * n) (h2 : b ≤ 2 * n) : (2 * n - (a + 1)) * (2 * n + 1) + (c + b) + 1 ≤ (2 * n - a) * (2 * n + 1) + c := by
  obtain ⟨d, hd⟩ : ∃ d, 2 * n = a + 1 + d := ⟨2 * n - (a + 1), by omega⟩
  rw [show 2 * n - (a + 1) = d by omega, show 2 * n - a = d + 1 by omega, Nat.add_mul, Nat.one_mul]
  omega
theorem GInv.add {n : Nat} {pile : List Say} {known lits F W : List Int} {x : Int} (ok : PileOk n pile) (g : GInv n pile known lits F (W ++ [x])) (h : x ∉ F) (hn : -x ∉ F) : GInv n pile known lits (F ++ [x]) (W ++ due pile x) := by
  have lx : Lit n x := g.lw x (List.mem_append_right _ (List.mem_singleton.mpr rfl))
  have rx := g.fw x (List.mem_append_right _ (List.mem_singleton.mpr rfl))
  constructor
  · exact fun y hy => List.mem_append_left _ (g.sub y hy)
  · intro y hy
    rcases g.lit y hy with h1 | h1
    · exact .inl (List.mem_append_left _ h1)
    · rcases List.mem_append.mp h1 with h1 | h1
      · exact .inr (List.mem_append_left _ h1)
      · exact .inl (List.mem_append_right _ h1)
  · intro z hz y s
    rcases List.mem_append.mp hz with hz | hz
    · rcases g.cl z hz y s with h1 | h1
      · exact .inl (List.mem_append_left _ h1)
      · rcases List.mem_append.mp h1 with h1 | h1
        · exact .inr (List.mem_append_left _ h1)
        · exact .inl (List.mem_append_right _ h1)
    · rw [List.mem_singleton] at hz; subst hz
      exact .inr (List.mem_append_right _ (mem_due.mpr s))
  · intro y hy
    rcases List.mem_append.mp hy with hy | hy
    · exact g.fr y hy
    · rw [List.mem_singleton] at hy; subst hy; exact .inr rx
  · intro y hy
    rcases List.mem_append.mp hy with hy | hy
    · exact g.fw y (List.mem_append_left _ hy)
    · exact rx.step (mem_due.mp hy)
  · intro y hy hm
    rcases List.mem_append.mp hy with hy | hy
    · rcases List.mem_append.mp hm with hm | hm
      · exact g.co y hy hm
      · rw [List.mem_singleton] at hm
        have : y = -x := by omega
        exact hn (this ▸ hy)
    · rw [List.mem_singleton] at hy; subst hy
      rcases List.mem_append.mp hm with hm | hm
      · exact hn hm
      · rw [List.mem_singleton] at hm
        have := lx.ne0
        omega
  · rw [List.nodup_append]
    refine ⟨g.nd, by simp, fun a ha b hb e => ?_⟩
    rw [List.mem_singleton] at hb
    subst hb; subst e
    exact h ha
  · intro y hy
    rcases List.mem_append.mp hy with hy | hy
    · exact g.lf y hy
    · rw [List.mem_singleton] at hy; subst hy; exact lx
  · intro y hy
    rcases List.mem_append.mp hy with hy | hy
    · exact g.lw y (List.mem_append_left _ hy)
    · exact due_lit ok hy
  · have b := g.bd
    have h1 := flen g.nd g.lf h lx
    have h2 := due_len ok x
    have h3 := meas_add (c := W.length) h1 h2
    simp only [List.length_append, List.length_singleton] at *
    omega
theorem GInv.meas_add {n : Nat} {pile : List Say} {known lits F W : List Int} {x : Int} (ok : PileOk n pile) (g : GInv n pile known lits F (W ++ [x])) (h : x ∉ F) :
    (2 * n - (F ++ [x]).length) * (2 * n + 1) + (W ++ due pile x).length < (2 * n - F.length) * (2 * n + 1) + (W ++ [x]).length := by
  have lx : Lit n x := g.lw x (List.mem_append_right _ (List.mem_singleton.mpr rfl))
  have h1 := flen g.nd g.lf h lx
  have h2 := due_len ok x
  have h3 := EB.meas_add (c := W.length) h1 h2
  simp only [List.length_append, List.length_singleton] at *
  omega
structure Grown (n : Nat) (pile : List Say) (known lits F : List Int) : Prop where
  sub : ∀ x ∈ known, x ∈ F
  lit : ∀ x ∈ lits, x ∈ F
  fr : ∀ x ∈ F, x ∈ known ∨ RS pile (· ∈ lits) x
  cl : Closed pile F
  lf : ∀ x ∈ F, Lit n x
theorem GInv.done {n : Nat} {pile : List Say} {known lits F : List Int} (g : GInv n pile known lits F []) : Grown n pile known lits F where
  sub := g.sub
  lit := fun x h => (g.lit x h).elim id (fun h => nomatch h)
  fr := g.fr
  cl := ⟨fun x h y s => (g.cl x h y s).elim id (fun h => nomatch h), g.co, g.nd⟩
  lf := g.lf
noncomputable def NoGrow (pile : List Say) (known lits : List Int) : Prop := Torn pile (fun x => x ∈ known ∨ x ∈ lits)
theorem GInv.none {n : Nat} {pile : List Say} {known lits F W : List Int} {x : Int} (g : GInv n pile known lits F (W ++ [x])) (h : -x ∈ F) : NoGrow pile known lits := by
  refine ⟨x, (g.fw x (List.mem_append_right _ (List.mem_singleton.mpr rfl))).mono fun y hy => .inr hy, ?_⟩
  rcases g.fr _ h with h1 | h1
  · exact RS.of (.inl h1)
  · exact h1.mono fun y hy => .inr hy
structure FInv (n : Nat) (pile : List Say) (wishes : List Int) (i : Nat) (K : List Int) : Prop where
  cl : Closed pile K
  lk : ∀ x ∈ K, Lit n x
  wi : ∀ x ∈ wishes, x ∈ K
  de : ∀ v : Nat, 1 ≤ v → v ≤ i → (v : Int) ∈ K ∨ -(v : Int) ∈ K
  fr : ∀ x ∈ K, RS pile (fun l => l ∈ wishes ∨ (l ∈ K ∧ l.natAbs ≤ i)) x
  on : ∀ v : Nat, 1 ≤ v → v ≤ i → (v : Int) ∈ K → Torn pile (fun l => l ∈ wishes ∨ (l ∈ K ∧ l.natAbs < v) ∨ l = -(v : Int))
theorem closed_nil {pile : List Say} : Closed pile [] := ⟨(fun _ h => nomatch h), (fun _ h => nomatch h), List.nodup_nil⟩
theorem FInv.start {n : Nat} {pile : List Say} {wishes F : List Int} (g : Grown n pile [] wishes F) : FInv n pile wishes 0 F where
  cl := g.cl
  lk := g.lf
  wi := g.lit
  de := fun v h1 h2 => by omega
  fr := fun x h => by
    rcases g.fr x h with h1 | h1
    · cases h1
    · exact h1.mono fun y hy => .inl hy
  on := fun v h1 h2 => by omega
theorem FInv.keep {n : Nat} {pile : List Say} {wishes K : List Int} {i : Nat} (f : FInv n pile wishes i K) (h : ((i + 1 : Nat) : Int) ∈ K ∨ -((i + 1 : Nat) : Int) ∈ K) : FInv n pile wishes (i + 1) K where
  cl := f.cl
  lk := f.lk
  wi := f.wi
  de := fun v h1 h2 => by
    by_cases e : v = i + 1
    · subst e; exact h
    · exact f.de v h1 (by omega)
  fr := fun x hx => (f.fr x hx).mono fun l hl => hl.imp id fun hl => ⟨hl.1, by omega⟩
  on := fun v h1 h2 hv => by
    by_cases e : v = i + 1
    · subst e
      refine ⟨((i + 1 : Nat) : Int), (f.fr _ hv).mono fun l hl => hl.imp id fun hl => .inl ⟨hl.1, by omega⟩, RS.of (.inr (.inr rfl))⟩
    · exact f.on v h1 (by omega) hv
theorem FInv.off {n : Nat} {pile : List Say} {wishes K F : List Int} {i : Nat} (f : FInv n pile wishes i K) (h1 : ((i + 1 : Nat) : Int) ∉ K) (g : Grown n pile K [-((i + 1 : Nat) : Int)] F) : FInv n pile wishes (i + 1) F where
  cl := g.cl
  lk := g.lf
  wi := fun x hx => g.sub x (f.wi x hx)
  de := fun v hv1 hv2 => by
    by_cases e : v = i + 1
    · subst e; exact .inr (g.lit _ (List.mem_singleton.mpr rfl))
    · exact (f.de v hv1 (by omega)).imp (g.sub _) (g.sub _)
  fr := fun x hx => by
    rcases g.fr x hx with h | h
    · exact (f.fr x h).mono fun l hl => hl.imp id fun hl => ⟨g.sub _ hl.1, by omega⟩
    · refine h.mono fun l hl => .inr ?_
      rw [List.mem_singleton] at hl
      subst hl
      exact ⟨g.lit _ (List.mem_singleton.mpr rfl), by omega⟩
  on := fun v hv1 hv2 hv => by
    by_cases e : v = i + 1
    · subst e
      exact absurd (g.lit _ (List.mem_singleton.mpr rfl)) (g.cl.co _ hv)
    · have hK : (v : Int) ∈ K := by
        rcases f.de v hv1 (by omega) with h | h
        · exact h
        · exact absurd (g.sub _ h) (g.cl.co _ hv)
      exact (f.on v hv1 (by omega) hK).mono fun l hl => hl.imp id fun hl => hl.imp (fun hl => ⟨g.sub _ hl.1, hl.2⟩) id
theorem FInv.on' {n : Nat} {pile : List Say} {wishes K F : List Int} {i : Nat} (f : FInv n pile wishes i K) (no : NoGrow pile K [-((i + 1 : Nat) : Int)]) (g : Grown n pile K [((i + 1 : Nat) : Int)] F) : FInv n pile wishes (i + 1) F where
  cl := g.cl
  lk := g.lf
  wi := fun x hx => g.sub x (f.wi x hx)
  de := fun v hv1 hv2 => by
    by_cases e : v = i + 1
    · subst e; exact .inl (g.lit _ (List.mem_singleton.mpr rfl))
    · exact (f.de v hv1 (by omega)).imp (g.sub _) (g.sub _)
  fr := fun x hx => by
    rcases g.fr x hx with h | h
    · exact (f.fr x h).mono fun l hl => hl.imp id fun hl => ⟨g.sub _ hl.1, by omega⟩
    · refine h.mono fun l hl => .inr ?_
      rw [List.mem_singleton] at hl
      subst hl
      exact ⟨g.lit _ (List.mem_singleton.mpr rfl), by omega⟩
  on := fun v hv1 hv2 hv => by
    by_cases e : v = i + 1
    · subst e
      refine no.bind fun l hl => ?_
      rcases hl with hl | hl
      · exact (f.fr l hl).mono fun k hk => hk.imp id fun hk => .inl ⟨g.sub _ hk.1, by omega⟩
      · rw [List.mem_singleton] at hl
        exact RS.of (.inr (.inr hl))
    · have hK : (v : Int) ∈ K := by
        rcases f.de v hv1 (by omega) with h | h
        · exact h
        · exact absurd (g.sub _ h) (g.cl.co _ hv)
      exact (f.on v hv1 (by omega) hK).mono fun l hl => hl.imp id fun hl => hl.imp (fun hl => ⟨g.sub _ hl.1, hl.2⟩) id
theorem nogrow_flip {pile : List Say} {K : List Int} (c : Closed pile K) {x : Int} (h1 : x ∉ K) (h2 : -x ∉ K) (no : NoGrow pile K [x]) : Reach pile x (-x) := by
  obtain ⟨y, ⟨l, a, b⟩, ⟨k, d, e⟩⟩ := no
  have key : ∀ {z : Int}, Reach pile x z → -z ∈ K → False := fun {z} r hz => h2 (c.reach hz r.flip)
  rcases a with a | a
  · have hy := c.reach a b
    rcases d with d | d
    · exact absurd (c.reach d e) (c.co _ hy)
    · rw [List.mem_singleton] at d; subst d
      exact (key e (by rw [Int.neg_neg]; exact hy)).elim
  · rw [List.mem_singleton] at a; subst a
    rcases d with d | d
    · exact (key b (c.reach d e)).elim
    · rw [List.mem_singleton] at d; subst d
      have := e.flip
      rw [Int.neg_neg] at this
      exact b.trans this
theorem knot_of {pile : List Say} {K : List Int} (c : Closed pile K) {v : Int} (h1 : v ∉ K) (h2 : -v ∉ K) (no1 : NoGrow pile K [-v]) (no2 : NoGrow pile K [v]) : Knot pile v := by
  refine ⟨nogrow_flip c h1 h2 no2, ?_⟩
  have := nogrow_flip c (x := -v) h2 (by rw [Int.neg_neg]; exact h1) no1
  rw [Int.neg_neg] at this
  exact this
noncomputable def setOf (n : Nat) (K : List Int) : List Bool := (List.range n).map fun (k : Nat) => decide (((k : Int) + 1) ∈ K)
theorem setOf_len (n : Nat) (K : List Int) : (setOf n K).length = n := by unfold setOf; simp
theorem setOf_get {n : Nat} {K : List Int} {v : Nat} (h1 : 1 ≤ v) (h2 : v ≤ n) : (setOf n K).getD (v - 1) false = decide ((v : Int) ∈ K) := by
  unfold setOf
  have h : v - 1 < ((List.range n).map fun (k : Nat) => decide (((k : Int) + 1) ∈ K)).length := by simp; omega
  rw [List.getD_eq_getElem?_getD, List.getElem?_eq_getElem h, Option.getD_some, List.getElem_map, List.getElem_range]
  congr 2
  omega
theorem tru_setOf {n : Nat} {K : List Int} {x : Int} (de : ∀ v : Nat, 1 ≤ v → v ≤ n → (v : Int) ∈ K ∨ -(v : Int) ∈ K) (co : ∀ x ∈ K, -x ∉ K) (hx : Lit n x) : tru (setOf n K) x = true ↔ x ∈ K := by
  obtain ⟨v, h1, h2, h⟩ := hx.cases
  have hv : x.natAbs = v := by omega
  unfold tru
  rw [hv, setOf_get h1 h2]
  rcases h with rfl | rfl
  · have : (0 : Int) < (v : Int) := by omega
    rw [decide_eq_true this]
    simp
  · have : ¬ (0 : Int) < -(v : Int) := by omega
    rw [decide_eq_false this]
    rw [beq_iff_eq, decide_eq_false_iff_not]
    constructor
    · intro h
      exact (de v h1 h2).resolve_left h
    · intro h hv
      exact co _ hv h
end EB
namespace EB
open PySem L2
theorem at_map {α : Type} {f : α → V} {xs : List α} {k : Int} {d : α} (hk : 0 ≤ k) (h : k < (xs.length : Int)) : atI (xs.map f) k = some (f (xs.getD k.toNat d)) := by
  obtain ⟨j, rfl⟩ : ∃ j : Nat, k = (j : Int) := ⟨k.toNat, by omega⟩
  have hj : j < xs.length := by omega
  refine atI_nat ?_
  rw [List.getElem?_map, Int.toNat_natCast, List.getD_eq_getElem?_getD, List.getElem?_eq_getElem hj]
  rfl
theorem at_int {ns : List Int} {k : Int} (hk : 0 ≤ k) (h : k < ((ns.map V.int).length : Int)) : atI (ns.map V.int) k = some (V.int (ns.getD k.toNat 0)) := at_map hk (by rw [List.length_map] at h; exact h)
theorem cell_out {ns : List Int} {k : Int} (hk : 0 ≤ k) (e : ¬ decide (k < ((ns.map V.int).length : Int)) = true) : ns.getD k.toNat 0 = 0 := by
  have e' : ¬ k < ((ns.map V.int).length : Int) := fun z => e (decide_eq_true z)
  rw [List.length_map] at e'
  rw [List.getD_eq_getElem?_getD, List.getElem?_eq_none (by omega)]
  rfl
theorem at_lit {bs : List Bool} {x : Int} (hx : Lit bs.length x) : atI (bs.map V.bl) ((if x < 0 then -x else x) - 1) = some (V.bl (bs.getD (x.natAbs - 1) false)) := by
  have e : (if x < 0 then -x else x) - 1 = ((x.natAbs - 1 : Nat) : Int) := by
    unfold Lit at hx
    split <;> omega
  rw [e, at_map (d := false) (by omega) (by unfold Lit at hx; omega), Int.toNat_natCast]
noncomputable def litBy (i : Int) : Int := if i % 2 = 1 then -(i / 2 + 1) else i / 2 + 1
theorem litBy_lit {n : Nat} {c : Int} (hn : 1 ≤ n) : Lit n (litBy (c % (2 * (n : Int)))) := by
  have h1 := Int.emod_nonneg c (b := 2 * (n : Int)) (by omega)
  have h2 := Int.emod_lt_of_pos c (b := 2 * (n : Int)) (by omega)
  unfold litBy Lit
  split <;> omega
theorem many_of (c : Int) {m : Nat} (hm : 1 ≤ m) : ∃ n : Nat, 1 ≤ n ∧ n ≤ m ∧ 1 + c % (m : Int) = (n : Int) := by
  have h1 := Int.emod_nonneg c (b := (m : Int)) (by omega)
  have h2 := Int.emod_lt_of_pos c (b := (m : Int)) (by omega)
  exact ⟨(1 + c % (m : Int)).toNat, by omega, by omega, by omega⟩
theorem same_new {H : Hp} {l : Addr} {o : HO} (hl : H l = none) : Same H (upd H l o) := fun b o' e => by rw [upd_ne (ne_of_none e hl)]; exact e
theorem same_upd {H H2 : Hp} {l : Addr} {o : HO} (s : Same H H2) (hl : H l = none) : Same H (upd H2 l o) := fun b o' e => by rw [upd_ne (ne_of_none e hl)]; exact s b o' e
theorem asV {Q : VK} {H : Hp} {v w : V} (e : w = v) (q : Q v H) : Q w H := e ▸ q
theorem rd_bools {H : Hp} : ∀ bs : List Bool, RdDs H (bs.map V.bl) (bs.map PyData.bool)
  | [] => .nil
  | b :: r => .cons (.bl b) (rd_bools r)
theorem shaped_of {d : PyData} (h1 : d.canLay0 = true) (h2 : d.depth ≤ 64) : SeqAt.shaped d = true := by
  unfold SeqAt.shaped
  rw [h1, decide_eq_true h2]
  rfl
noncomputable def dBools (bs : List Bool) : PyData := .list (bs.map PyData.bool)
theorem canLay_bools : ∀ bs : List Bool, PyData.canLayAll0 (bs.map PyData.bool) = true
  | [] => by simp only [List.map_nil, PyData.canLayAll0]
  | b :: r => by simp only [List.map_cons, PyData.canLayAll0, PyData.canLay0, canLay_bools r, Bool.and_self]
theorem depth_bools : ∀ bs : List Bool, PyData.depthAll (bs.map PyData.bool) ≤ 1
  | [] => by simp [PyData.depthAll]
  | b :: r => by have := depth_bools r; simp [PyData.depthAll, PyData.depth]; omega
theorem shaped_bools (bs : List Bool) : SeqAt.shaped (dBools bs) = true := by
  refine shaped_of ?_ ?_
  · unfold dBools; simp only [PyData.canLay0]; exact canLay_bools bs
  · unfold dBools; have := depth_bools bs; simp only [PyData.depth]; omega
noncomputable abbrev TupsAt (H : Hp) : List Addr → List Say → Prop := Paired fun (a : Addr) (c : Say) => H a = some (.tup [.int c.1, .int c.2])
noncomputable def PileAt (H : Hp) (l : Addr) (pile : List Say) : Prop := ∃ as : List Addr, H l = some (.lst (as.map V.ref)) ∧ TupsAt H as pile
theorem TupsAt.same {H H' : Hp} (s : Same H H') : ∀ {as : List Addr} {pile : List Say}, TupsAt H as pile → TupsAt H' as pile
  | _, _, .nil => .nil
  | _, _, .cons r t => .cons (s _ _ r) (TupsAt.same s t)
theorem PileAt.same {H H' : Hp} {l : Addr} {pile : List Say} (p : PileAt H l pile) (s : Same H H') : PileAt H' l pile := let ⟨as, h, t⟩ := p; ⟨as, s _ _ h, t.same s⟩
theorem TupsAt.length {H : Hp} {as : List Addr} {pile : List Say} (t : TupsAt H as pile) : as.length = pile.length := Paired.length t
theorem TupsAt.get {H : Hp} : ∀ {as : List Addr} {pile : List Say} {i : Nat} {x : V}, TupsAt H as pile → (as.map V.ref)[i]? = some x → ∃ a c, x = .ref a ∧ as[i]? = some a ∧ pile[i]? = some c ∧ H a = some (.tup [.int c.1, .int c.2])
  | _, _, _, _, .nil, h => by simp at h
  | _, _, 0, _, .cons (a := a) (b := c) r _, h => by
    simp at h
    exact ⟨a, c, h.symm, rfl, rfl, r⟩
  | _, _, i + 1, x, .cons _ t, h => by
    obtain ⟨a, c, e1, e2, e3, e4⟩ := TupsAt.get (i := i) (x := x) t (by simpa using h)
    exact ⟨a, c, e1, by simpa using e2, by simpa using e3, e4⟩
theorem TupsAt.snoc {H : Hp} {a : Addr} {c : Say} : ∀ {as : List Addr} {pile : List Say}, TupsAt H as pile → H a = some (.tup [.int c.1, .int c.2]) → TupsAt H (as ++ [a]) (pile ++ [c])
  | _, _, .nil, h => .cons h .nil
  | _, _, .cons r t, h => .cons r (TupsAt.snoc t h)
theorem TupsAt.take {H : Hp} : ∀ {as : List Addr} {pile : List Say} (n : Nat), TupsAt H as pile → TupsAt H (as.take n) (pile.take n)
  | _, _, 0, _ => .nil
  | _, _, _ + 1, .nil => .nil
  | _, _, n + 1, .cons r t => .cons r (TupsAt.take n t)
theorem TupsAt.upd {H : Hp} {l : Addr} {xs : List V} {o : HO} (hl : H l = some (.lst xs)) : ∀ {as : List Addr} {pile : List Say}, TupsAt H as pile → TupsAt (L2.upd H l o) as pile
  | _, _, .nil => .nil
  | _, _, .cons (a := a) r t => .cons (by rw [upd_ne (ne_of r hl (fun z => nomatch z))]; exact r) (TupsAt.upd hl t)
noncomputable def dSay (c : Say) : PyData := .tuple [.int c.1, .int c.2]
noncomputable def dPile (pile : List Say) : PyData := .list (pile.map dSay)
theorem TupsAt.rd {H : Hp} : ∀ {as : List Addr} {pile : List Say}, TupsAt H as pile → RdDs H (as.map V.ref) (pile.map dSay)
  | _, _, .nil => .nil
  | _, _, .cons r t => .cons (.tup r (.cons (.int _) (.cons (.int _) .nil))) (TupsAt.rd t)
theorem PileAt.rd {H : Hp} {l : Addr} {pile : List Say} (p : PileAt H l pile) : RdD H (.ref l) (dPile pile) := let ⟨_, h, t⟩ := p; .lst h t.rd
theorem canLay_says : ∀ pile : List Say, PyData.canLayAll0 (pile.map dSay) = true
  | [] => by simp only [List.map_nil, PyData.canLayAll0]
  | c :: r => by simp only [List.map_cons, PyData.canLayAll0, PyData.canLay0, canLay_says r, dSay, Bool.and_self]
theorem depth_says : ∀ pile : List Say, PyData.depthAll (pile.map dSay) ≤ 1
  | [] => by simp [PyData.depthAll]
  | c :: r => by have := depth_says r; simp [PyData.depthAll, PyData.depth, dSay]; omega
theorem shaped_pile (pile : List Say) : SeqAt.shaped (dPile pile) = true := by
  refine shaped_of ?_ ?_
  · unfold dPile; simp only [PyData.canLay0]; exact canLay_says pile
  · unfold dPile; have := depth_says pile; simp only [PyData.depth]; omega
theorem eqv_say (a b : Say) : PyData.eqv (dSay a) (dSay b) = decide (a = b) := by
  obtain ⟨a1, a2⟩ := a
  obtain ⟨b1, b2⟩ := b
  unfold dSay
  simp only [PyData.eqv, PyData.eqvAll, Bool.and_true]
  by_cases h : a1 = b1 <;> by_cases h' : a2 = b2 <;> simp [h, h']
theorem eqvAll_says : ∀ as bs : List Say, PyData.eqvAll (as.map dSay) (bs.map dSay) = decide (as = bs)
  | [], [] => by simp [PyData.eqvAll]
  | [], _ :: _ => by simp [PyData.eqvAll]
  | _ :: _, [] => by simp [PyData.eqvAll]
  | a :: r, b :: t => by
    simp only [List.map_cons, PyData.eqvAll, eqv_say, eqvAll_says r t]
    by_cases h : a = b <;> by_cases h' : r = t <;> simp [h, h']
theorem eqv_pile (as bs : List Say) : PyData.eqv (dPile as) (dPile bs) = decide (as = bs) := by
  unfold dPile
  simp only [PyData.eqv]
  exact eqvAll_says as bs
theorem seq_join {t u : TS} {D : Ends} {σ : St} {H : Hp} (J : St → Hp → Prop) (ht : ∀ N : St → Hp → Prop, (∀ σ' H', J σ' H' → N σ' H') → t { D with nx := N } σ H) (hu : ∀ σ' H', J σ' H' → u D σ' H') : tSeq t u D σ H := ht (u D) hu
theorem say_get {c : Say} {i : Nat} {x : V} (h : ([.int c.1, .int c.2] : List V)[i]? = some x) : (i = 0 ∧ x = .int c.1) ∨ (i = 1 ∧ x = .int c.2) := by
  rcases i with _ | _ | i
  · simp at h; exact .inl ⟨rfl, h.symm⟩
  · simp at h; exact .inr ⟨rfl, h.symm⟩
  · simp at h
theorem take_snoc {α : Type} {l : List α} {i : Nat} {c : α} (h : l[i]? = some c) : l.take (i + 1) = l.take i ++ [c] := by rw [List.take_succ, h]; rfl
theorem pile_snoc {n : Nat} {pile : List Say} {c : Say} (ok : PileOk n pile) (h1 : Lit n c.1) (h2 : Lit n c.2) : PileOk n (pile ++ [c]) := fun d hd => by
  rcases List.mem_append.mp hd with hd | hd
  · exact ok d hd
  · rw [List.mem_singleton] at hd; subst hd; exact ⟨h1, h2⟩
theorem goodB_snoc (pile : List Say) (c : Say) (bs : List Bool) : goodB (pile ++ [c]) bs = (goodB pile bs && tsay bs c) := by
  unfold goodB
  rw [List.all_append]
  simp
theorem rest_of (c : Int) {m : Nat} (hm : 1 ≤ m) : ∃ n : Nat, n < m ∧ c % (m : Int) = (n : Int) := by
  have h1 := Int.emod_nonneg c (b := (m : Int)) (by omega)
  have h2 := Int.emod_lt_of_pos c (b := (m : Int)) (by omega)
  exact ⟨(c % (m : Int)).toNat, by omega, by omega⟩
theorem cut_first (xs : List V) : cutV xs (some 1) none = xs.drop 1 := by
  have e1 : HT.sIx xs.length 0 (some 1) = min 1 xs.length := rfl
  have e2 : HT.sIx xs.length xs.length none = xs.length := rfl
  unfold cutV
  rw [e1, e2]
  by_cases h : 1 ≤ xs.length
  · rw [Nat.min_eq_left h, List.take_of_length_le (by rw [List.length_drop]; exact Nat.le_refl _)]
  · have : xs = [] := List.length_eq_zero_iff.mp (by omega)
    subst this
    rfl
theorem TupsAt.dropLast {H : Hp} {as : List Addr} {pile : List Say} (t : TupsAt H as pile) : TupsAt H as.dropLast pile.dropLast := by
  rw [List.dropLast_eq_take, List.dropLast_eq_take, t.length]
  exact t.take _
theorem PileAt.to {H : Hp} {l : Addr} {pile : List Say} {as : List Addr} (h : H l = some (.lst (as.map V.ref))) (t : TupsAt H as pile) : PileAt H l pile := ⟨as, h, t⟩
theorem ne_pile_self (pile : List Say) : (if true = true then !PyData.eqv (dPile pile) (dPile pile) else PyData.eqv (dPile pile) (dPile pile)) = false := by rw [eqv_pile, decide_eq_true rfl]; rfl
end EB
namespace EB
open PySem L2
theorem flat_ints : ∀ xs : List Int, (xs.map V.int).all flatV = true
  | [] => rfl
  | x :: r => by rw [List.map_cons, List.all_cons, flat_ints r]; rfl
theorem in_ints (x : Int) : ∀ xs : List Int, inV (.int x) (xs.map V.int) = decide (x ∈ xs)
  | [] => by simp [inV]
  | y :: r => by
    have ih := in_ints x r
    unfold inV at ih ⊢
    rw [List.map_cons, List.any_cons, ih]
    show ((y == x) || decide (x ∈ r)) = _
    by_cases h : y = x
    · subst h; simp
    · have h' : ¬ x = y := fun z => h z.symm
      simp [h, h']
theorem addNew_in {l : List Int} {x : Int} (h : x ∈ l) : addNew l x = l := by unfold addNew; rw [if_pos h]
theorem addNew_out {l : List Int} {x : Int} (h : x ∉ l) : addNew l x = l ++ [x] := by unfold addNew; rw [if_neg h]
theorem addNew_len {l : List Int} {x : Int} : (addNew l x).length ≤ l.length + 1 := by
  unfold addNew
  split
  · exact Nat.le_succ _
  · simp
structure TabAt (H0 H : Hp) (t : Addr) (T : Int → List Int) (m : Nat) : Prop where
  same : Same H0 H
  new : H0 t = none
  dict : ∃ kvs : List (Key × V), H t = some (.dK kvs) ∧ kvs.length ≤ m ∧ (∀ k : Int, (valV kvs (Sum.inl k : Key) = none ∧ T k = []) ∨ ∃ l, valV kvs (Sum.inl k : Key) = some (.ref l) ∧ H l = some (.lst ((T k).map V.int)) ∧ H0 l = none) ∧
    (∀ (k k' : Int) (l : Addr), valV kvs (Sum.inl k : Key) = some (.ref l) → valV kvs (Sum.inl k' : Key) = some (.ref l) → k = k')
noncomputable def addT (T : Int → List Int) (x y : Int) : Int → List Int := fun k => if k = x then addNew (T x) y else T k
theorem addT_same {T : Int → List Int} {x y : Int} : addT T x y x = addNew (T x) y := by unfold addT; rw [if_pos rfl]
theorem addT_ne {T : Int → List Int} {x y k : Int} (h : k ≠ x) : addT T x y k = T k := by unfold addT; rw [if_neg h]
theorem addT_due (pile : List Say) (c : Say) : addT (addT (due pile) (-c.1) c.2) (-c.2) c.1 = due (pile ++ [c]) := by
  funext k
  rw [due_snoc]
  unfold dueStep
  dsimp only
  have e1 : ∀ k : Int, addT (due pile) (-c.1) c.2 k = if c.1 = -k then addNew (due pile k) c.2 else due pile k := fun k => by
    by_cases h : k = -c.1
    · subst h; rw [addT_same, if_pos (by omega)]
    · rw [addT_ne h, if_neg (by omega)]
  by_cases h : k = -c.2
  · subst h; rw [addT_same, if_pos (by omega), e1]
  · rw [addT_ne h, if_neg (by omega), e1]
theorem key_ne {a b : Int} (h : a ≠ b) : (Sum.inl a : Key) ≠ Sum.inl b := fun z => h (Sum.inl.inj z)
theorem TabAt.start {H : Hp} {t : Addr} (ht : H t = none) : TabAt H (upd H t (.dK [])) t (fun _ => []) 0 := by
  refine ⟨same_new ht, ht, [], upd_same, Nat.le_refl _, fun k => .inl ⟨rfl, rfl⟩, fun k k' l h => ?_⟩
  cases h
theorem TabAt.skip {H0 H : Hp} {t l0 : Addr} {T : Int → List Int} {m : Nat} {x y : Int} {o : HO} (tb : TabAt H0 H t T m) (h0 : H l0 = none) (hy : y ∈ T x) : TabAt H0 (upd H l0 o) t (addT T x y) (m + 1) := by
  have e : addT T x y = T := by
    funext k
    by_cases h : k = x
    · subst h; rw [addT_same, addNew_in hy]
    · rw [addT_ne h]
  rw [e]
  obtain ⟨s, n, kvs, hd, hm, hT, inj⟩ := tb
  have s' := same_new (o := o) h0
  exact ⟨s.trans s', n, kvs, s' _ _ hd, Nat.le_succ_of_le hm, fun k => (hT k).imp id fun ⟨l, a, b, c⟩ => ⟨l, a, s' _ _ b, c⟩, inj⟩
theorem TabAt.more {H0 H : Hp} {t l0 l : Addr} {T : Int → List Int} {m : Nat} {x y : Int} {kvs : List (Key × V)} {o : HO} (tb : TabAt H0 H t T m) (hk : H t = some (.dK kvs)) (h0 : H l0 = none) (hl : valV kvs (Sum.inl x : Key) = some (.ref l)) (hy : y ∉ T x) :
    TabAt H0 (upd (upd H l0 o) l (.lst ((T x).map V.int ++ [.int y]))) t (addT T x y) (m + 1) := by
  obtain ⟨s, n, kvs', hd, hm, hT, inj⟩ := tb
  rw [hk] at hd
  cases hd
  have s' := same_new (o := o) h0
  have hx : H l = some (.lst ((T x).map V.int)) ∧ H0 l = none := by
    rcases hT x with ⟨z, _⟩ | ⟨l', a, b, c⟩
    · rw [hl] at z; cases z
    · rw [hl] at a; cases a; exact ⟨b, c⟩
  have ntl : t ≠ l := ne_of hk hx.1 (fun z => nomatch z)
  refine ⟨same_upd (s.trans s') hx.2, n, kvs, by rw [upd_ne ntl]; exact s' _ _ hk, Nat.le_succ_of_le hm, fun k => ?_, inj⟩
  by_cases h : k = x
  · subst h
    refine .inr ⟨l, hl, ?_, hx.2⟩
    rw [upd_same, addT_same, addNew_out hy, List.map_append]
    rfl
  · rw [addT_ne h]
    rcases hT k with z | ⟨l', a, b, c⟩
    · exact .inl z
    · refine .inr ⟨l', a, ?_, c⟩
      have : l' ≠ l := fun z => h (inj k x l (z ▸ a) hl)
      rw [upd_ne this]
      exact s' _ _ b
theorem TabAt.key {H0 H : Hp} {t l0 : Addr} {T : Int → List Int} {m : Nat} {x y : Int} {kvs : List (Key × V)} (tb : TabAt H0 H t T m) (hk : H t = some (.dK kvs)) (h0 : H l0 = none) (hl : valV kvs (Sum.inl x : Key) = none) :
    TabAt H0 (upd (upd (upd H l0 (.lst [])) t (.dK (putK kvs (Sum.inl x) (.ref l0)))) l0 (.lst [.int y])) t (addT T x y) (m + 1) := by
  obtain ⟨s, n, kvs', hd, hm, hT, inj⟩ := tb
  rw [hk] at hd
  cases hd
  have s' := same_new (o := .lst []) h0
  have n0 : H0 l0 = none := s.free h0
  have ntl : t ≠ l0 := ne_of_none hk h0
  have hx : T x = [] := by
    rcases hT x with ⟨_, z⟩ | ⟨l', a, _⟩
    · exact z
    · rw [hl] at a; cases a
  have old : ∀ (k : Int) (l' : Addr), valV kvs (Sum.inl k : Key) = some (.ref l') → l' ≠ l0 := fun k l' a z => by
    rcases hT k with ⟨w, _⟩ | ⟨l2, b, c, _⟩
    · rw [a] at w; cases w
    · rw [a] at b; cases b; rw [z, h0] at c; cases c
  refine ⟨same_upd (same_upd (s.trans s') n) n0, n, putK kvs (Sum.inl x) (.ref l0), by rw [upd_ne ntl]; exact upd_same, Nat.le_trans (length_putK _ _ _) (Nat.succ_le_succ hm), fun k => ?_, fun k k' l a b => ?_⟩
  · by_cases h : k = x
    · subst h
      refine .inr ⟨l0, by rw [valV_put, if_pos rfl], ?_, n0⟩
      rw [upd_same, addT_same, hx]
      rfl
    · rw [addT_ne h, valV_put, if_neg (key_ne h)]
      rcases hT k with z | ⟨l', a, b, c⟩
      · exact .inl z
      · refine .inr ⟨l', a, ?_, c⟩
        rw [upd_ne (old k l' a), upd_ne (ne_of b hk (fun z => nomatch z) : l' ≠ t)]
        exact s' _ _ b
  · rw [valV_put] at a b
    by_cases h : k = x
    · by_cases h' : k' = x
      · rw [h, h']
      · rw [if_neg (key_ne h')] at b
        rw [if_pos (by rw [h])] at a
        cases a
        exact absurd rfl (old k' _ b)
    · rw [if_neg (key_ne h)] at a
      by_cases h' : k' = x
      · rw [if_pos (by rw [h'])] at b
        cases b
        exact absurd rfl (old k _ a)
      · rw [if_neg (key_ne h')] at b
        exact inj k k' l a b
theorem TabAt.look {H0 H : Hp} {t : Addr} {T : Int → List Int} {m : Nat} (tb : TabAt H0 H t T m) : ∃ kvs, H t = some (.dK kvs) ∧ kvs.length ≤ m ∧ ∀ x, (valV kvs (Sum.inl x : Key) = none ∧ T x = []) ∨ ∃ l, valV kvs (Sum.inl x : Key) = some (.ref l) ∧ H l = some (.lst ((T x).map V.int)) ∧ H0 l = none :=
  let ⟨kvs, a, b, c, _⟩ := tb.dict
  ⟨kvs, a, b, c⟩
theorem TabAt.keep {H0 H H' : Hp} {t : Addr} {T : Int → List Int} {m : Nat} (tb : TabAt H0 H t T m) (s : Same H H') : TabAt H0 H' t T m := by
  obtain ⟨s0, n, kvs, hd, hm, hT, inj⟩ := tb
  exact ⟨s0.trans s, n, kvs, s _ _ hd, hm, fun k => (hT k).imp id fun ⟨l, a, b, c⟩ => ⟨l, a, s _ _ b, c⟩, inj⟩
end EB
namespace PySem
open Sem (wp)
open AutoSeq1 (wpAny_loadPart')
namespace Rv
theorem slot_next : Slot "list_reverseiterator" "__next__" "list_reverseiterator.__next__" :=
  .of (owner := "list_reverseiterator") (n := "__next__") (by rw [typeLookup_type, builtinLookup_eq_fast]; kernel_rfl) (by decide +kernel) (by decide +kernel) (by decide +kernel)
    (by first | exact .inl (by decide +kernel) | exact .inr (by decide +kernel)) (by rw [isSubtype_type]; kernel_rfl)
theorem slot_iter : Slot "list_reverseiterator" "__iter__" "list_reverseiterator.__iter__" :=
  .of (owner := "list_reverseiterator") (n := "__iter__") (by rw [typeLookup_type, builtinLookup_eq_fast]; kernel_rfl) (by decide +kernel) (by decide +kernel) (by decide +kernel)
    (by first | exact .inl (by decide +kernel) | exact .inr (by decide +kernel)) (by rw [isSubtype_type]; kernel_rfl)
theorem entry_next : entryFor table "list_reverseiterator.__next__" = some Builtin.«list_reverseiterator.__next__» := entryFor_of_tree (by kernel_rfl)
theorem entry_iter : entryFor table "list_reverseiterator.__iter__" = some Builtin.«dict_keyiterator.__iter__» :=
  entryFor_alias (id' := "dict_keyiterator.__iter__") (by kernel_rfl) (by first | rfl | decide +kernel | (unfold String.splitOn; simp +decide [String.splitOnAux])) (by decide +kernel) (by kernel_rfl)
theorem args_next (a : Value) : argsOk "list_reverseiterator.__next__" ⟨[a], []⟩ := by unfold argsOk; kernel_rfl
theorem args_iter (a : Value) : argsOk "list_reverseiterator.__iter__" ⟨[a], []⟩ := by unfold argsOk; kernel_rfl
theorem no_len : typeLookup (.type "list_reverseiterator") "__len__" = pure none := by rw [typeLookup_type, builtinLookup_eq_fast]; kernel_rfl
theorem slot_hint : Slot "list_reverseiterator" "__length_hint__" "list_reverseiterator.__length_hint__" :=
  .of (owner := "list_reverseiterator") (n := "__length_hint__") (by rw [typeLookup_type, builtinLookup_eq_fast]; kernel_rfl) (by decide +kernel) (by decide +kernel) (by decide +kernel)
    (by first | exact .inl (by decide +kernel) | exact .inr (by decide +kernel)) (by rw [isSubtype_type]; kernel_rfl)
theorem mro_reversed : mroOf (.type "reversed") = pure [.type "reversed", .type "object"] := by rw [mroOf_type]; kernel_rfl
theorem lookup_new : typeLookup (.type "reversed") "__new__" = pure (some (.builtin "reversed.__new__")) := by rw [typeLookup_type, builtinLookup_eq_fast]; kernel_rfl
theorem slot_init : Slot "reversed" "__init__" "object.__init__" :=
  .of (owner := "object") (n := "__init__") (by rw [typeLookup_type, builtinLookup_eq_fast]; kernel_rfl) (by decide +kernel) (by decide +kernel) (by decide +kernel)
    (by first | exact .inl (by decide +kernel) | exact .inr (by decide +kernel)) (by rw [isSubtype_type]; kernel_rfl)
theorem called_reversed : TypeCalled "reversed" "reversed.__new__" "object.__init__" :=
  ⟨by decide +kernel, by decide +kernel, ⟨_, _, mro_reversed⟩, madeBy_type mro_reversed lookup_new (by decide +kernel), by decide +kernel, by rw [isSubtype_type]; kernel_rfl, slot_init⟩
theorem typeCall_1 (a : Value) : checkTypeCall "reversed" ⟨[a], []⟩ = pure () := by kernel_rfl
theorem newCall_1 (a : Value) : checkBuiltinCall "reversed.__new__" ⟨[.type "reversed", a], []⟩ = pure () := by kernel_rfl
theorem entry_new : entryFor table "reversed.__new__" = some Builtin.«reversed.__new__» := entryFor_of_tree (by kernel_rfl)
theorem plain_new : plainId "reversed.__new__" = true := by decide +kernel
theorem sub_self : isSubtype (.type "reversed") (.type "reversed") = pure true := by rw [isSubtype_type]; kernel_rfl
theorem sub_no : isSubtype (.type "list_reverseiterator") (.type "reversed") = pure false := by rw [isSubtype_type]; kernel_rfl
end Rv
end PySem
namespace PySem
open Sem (wp)
open AutoSeq1 (wpAny_loadPart')
namespace Rv
noncomputable def IsRev (h : Heap) (it l : Addr) (j : Nat) : Prop := ∃ o, h.get? it = some o ∧ o.cls = .type "list_reverseiterator" ∧ o.data = .fields #[.ref l, rawInt ((j : Int) - 1)]
theorem IsRev.typeIs {s : Shared} {it l : Addr} {j : Nat} (h : IsRev s.heap it l j) : s.TypeIs (.ref it) "list_reverseiterator" := let ⟨o, e, c, _⟩ := h; ⟨o, e, c⟩
section
variable {prog : Program} {w : World} {A : Around} {E : Value → Shared → Prop} {s : Shared}
theorem next_item {it l : Addr} {j : Nat} {items : Array Value} {x : Value} {Q : Option Value → Shared → Prop} (hit : IsRev s.heap it l (j + 1)) (hl : s.heap.IsList l items) (hx : items[j]? = some x)
    (hQ : ∀ h', IsRev h' it l j → Heap.SameBut it s.heap h' → Q (some x) { s with heap := h' }) : wpAny (model prog w) A (pyNext (.ref it)) Q E s := by
  obtain ⟨o, ho, hc, hd⟩ := id hit
  obtain ⟨ol, hol, _, nl, hdl⟩ := hl
  have e1 : (((j + 1 : Nat) : Int) - 1) = (j : Int) := by omega
  rw [e1] at hd
  unfold pyNext
  refine wpAny_bind (wpAny_attempt (wpAny_callSpecial?_slot (name := Str.ofString "__next__") hit.typeIs slot_next
    (wpAny_call_entry slot_next hit.typeIs entry_next ?_ (args_next _))))
  show wpAny _ _ (field (.ref it) 1 >>= _) _ _ s
  refine wpAny_bind (wpAny_field ho hd (x := rawInt (j : Int)) rfl ?_)
  show wpAny _ _ (if (j : Int) < 0 then _ else _) _ _ s
  rw [if_neg (by omega)]
  show wpAny _ _ (field (.ref it) 0 >>= _) _ _ s
  refine wpAny_bind (wpAny_field ho hd (x := .ref l) rfl ?_)
  show wpAny _ _ (seqItems? (.ref l) >>= _) _ _ s
  refine wpAny_bind (wpAny_seqItems hol hdl ?_)
  simp only [Int.toNat_natCast, hx]
  refine wpAny_bind (wpAny_setField ho hd (by simp) (wpAny_pure ⟨x, rfl, wpAny_pure (hQ _ ?_ (Heap.SameBut.update ..))⟩))
  exact ⟨_, Heap.get?_update_self _ ho (Obj.isFreed_of_fields (Obj.data_mapFields hd _)), (Obj.cls_mapFields ..).trans hc, by
    rw [Obj.data_mapFields hd]; simp [rawInt]⟩
theorem next_end {it l : Addr} {Q : Option Value → Shared → Prop} (hh : A.handled = none) (hit : IsRev s.heap it l 0)
    (hQ : ∀ h', (∀ b o, s.heap.get? b = some o → h'.get? b = some o) → Q none { s with heap := h' }) : wpAny (model prog w) A (pyNext (.ref it)) Q E s := by
  obtain ⟨o, ho, hc, hd⟩ := id hit
  unfold pyNext
  refine wpAny_bind (wpAny_attempt (wpAny_callSpecial?_slot (name := Str.ofString "__next__") hit.typeIs slot_next
    (wpAny_call_entry slot_next hit.typeIs entry_next ?_ (args_next _))))
  show wpAny _ _ (field (.ref it) 1 >>= _) _ _ s
  refine wpAny_bind (wpAny_field ho hd (x := rawInt (((0 : Nat) : Int) - 1)) rfl ?_)
  show wpAny _ _ (if (((0 : Nat) : Int) - 1) < 0 then _ else _) _ _ s
  rw [if_pos (by omega)]
  refine wpAny_bind (wpAny_rule (wpAny_bind ?_))
  unfold Builtin.SmallTypes.stopIteration
  show wpAny _ _ (newExc (.type "StopIteration") [] >>= _) _ _ _
  refine wpAny_bind ?_
  simp only [newExc, newTuple]
  refine wpAny_bind (wpAny_newObj_type ?_ (by size_fits))
  refine wpAny_bind (m := firstArgMember _ _) (wpAny_of_eq (a := Value.none) (by first | rfl | (simp only [firstArgMember]; rfl)) ?_)
  refine wpAny_newObj_type ?_ (by size_fits)
  simp only [raiseNew]
  refine wpAny_bind (wpAny_handled ?_)
  rw [show A.in1.handled = none from hh]
  refine wpAny_bind (wpAny_pure (wpAny_throw ?_))
  refine wpAny_bind (wpAny_isInstance (T := "StopIteration") (b := true) ⟨_, Heap.get?_push_size _ rfl, rfl⟩ isSubtype_stop ?_)
  exact wpAny_pure (hQ _ fun b o e => Heap.get?_push_of_some _ (Heap.get?_push_of_some _ e))
theorem iter_self {it l : Addr} {j : Nat} {Q : Value → Shared → Prop} (hit : IsRev s.heap it l j) (h : Q (.ref it) s) : wpAny (model prog w) A (pyIter (.ref it)) Q E s := by
  refine wpAny_pyIter_slot hit.typeIs slot_iter (wpAny_call_entry slot_iter hit.typeIs entry_iter ?_ (args_iter _))
  show wpAny _ _ (ret (.ref it)) _ _ s
  exact wpAny_pure ⟨_, rfl, "list_reverseiterator", _, hit.typeIs, slot_next.lookup, h⟩
end
theorem walks {prog : Program} {w : World} {A : Around} (hh : A.handled = none) (I ax : Addr) (hne : ax ≠ I) (items : Array Value) :
    Walks prog w A I [I, ax] [I] items.size (fun i v => items[items.size - 1 - i]? = some v) (fun i h => IsRev h I ax (items.size - i) ∧ h.IsList ax items) where
  sub := fun b hb => by simp at hb; simp [hb]
  frame := fun _ _ _ st hk => ⟨let ⟨o, e, r⟩ := st.1; ⟨o, hk I (by simp) o e, r⟩, st.2.at fun o e => hk ax (by simp) o e⟩
  item := fun i s Q E hi st hQ => by
    have e : items.size - i = (items.size - 1 - i) + 1 := by omega
    obtain ⟨st1, st2⟩ := st
    rw [e] at st1
    have hlt : items.size - 1 - i < items.size := by omega
    refine next_item (x := items[items.size - 1 - i]) st1 st2 (by simp [hlt]) fun h' hit' hs' => ?_
    exact hQ _ h' s.toks (by simp [hlt]) ⟨by rw [show items.size - (i + 1) = items.size - 1 - i by omega]; exact hit', st2.extBut hs'.extBut hne⟩ fun b o hb e => hs'.extBut b o (fun h => hb (by simp [h])) e
  done := fun s Q E st hQ => by
    obtain ⟨st1, st2⟩ := st
    rw [Nat.sub_self] at st1
    exact next_end hh st1 fun h' he' => hQ h' s.toks fun b o _ e => he' b o e
  self := fun _ _ _ _ st hQ => iter_self st.1 hQ
end Rv
end PySem
namespace PySem
open Sem (wp)
open AutoSeq1 (wpAny_loadPart')
namespace Rv
section
variable {prog : Program} {w : World} {A : Around} {E : Value → Shared → Prop} {s : Shared}
theorem hint_rev {it l : Addr} {j : Nat} {Q : Bool → Shared → Prop} (hit : IsRev s.heap it l j) (h : Q false s) : wpAny (model prog w) A (Builtin.List.listLengthHint (.ref it)) Q E s := by
  unfold Builtin.List.listLengthHint
  refine wpAny_bind (wpAny_specialOf hit.typeIs no_len ?_)
  refine wpAny_ite_split (fun hab => absurd hab (by decide +kernel)) (fun _ => ?_)
  refine wpAny_ite_split (fun hab => absurd hab (by decide)) (fun _ => ?_)
  refine wpAny_bind (wpAny_specialOf hit.typeIs slot_hint.lookup ?_)
  generalize hid : ("list_reverseiterator.__length_hint__" : String) = id0
  wp_delta
  rw [show splitId id0 = some ("list_reverseiterator", "__length_hint__") from by subst hid; decide +kernel]
  subst hid
  refine wpAny_bind (wpAny_isInstance (T := "list_reverseiterator") (b := true) hit.typeIs (by rw [isSubtype_type]; kernel_rfl) ?_)
  refine wpAny_ite_split (fun hab => absurd hab (by decide)) (fun _ => ?_)
  refine wpAny_ite_split (fun _ => ?_) (fun hab => absurd (by decide +kernel) hab)
  refine wpAny_ite_split (fun hab => absurd hab (by decide +kernel)) (fun _ => ?_)
  exact wpAny_pure h
theorem extend_rev {R : Result → Shared → Prop} {it l : Addr} {items : Array Value} (hh : A.handled = none) (hit : IsRev s.heap it l items.size) (hl : s.heap.IsList l items) (hlen : items.size ≤ sizeLine) (S : Addr) (res : Value) (c₀ : Nat)
    (hS : s.heap.get? S = some { cls := .type "list", data := .seq #[] c₀ }) (hSl : S ≠ l)
    (hR : ∀ h' tk acc' c', (∀ b o, b ≠ S → b ≠ it → s.heap.get? b = some o → h'.get? b = some o) → h'.get? S = some { cls := .type "list", dict := none, data := .seq acc' c', slots := #[] } →
      ItemsOf (fun i v => items[items.size - 1 - i]? = some v) acc' items.size → R (.ok (.ret res)) { s with heap := h', toks := tk }) :
    wpAny (model prog w) A.in1 (Builtin.List.listExtendWith (.ref S) (.ref it) res)
      (fun fin s' => match fin with | .done f => R (.ok f) s' | .again c' => c'.quiet = true ∧ codeAny (model prog w) A c' R s') (fun e s' => R (.error e) s') s := by
  have hSr : S ≠ it := fun e => by obtain ⟨o, q, c, _⟩ := hit; rw [← e, hS] at q; cases q; exact absurd (show Value.type "list" = Value.type "list_reverseiterator" from c) (by decide)
  have hlr : l ≠ it := fun e => by
    obtain ⟨o, q, c, _⟩ := hit
    obtain ⟨o', q', c', _⟩ := hl
    rw [e, q] at q'; cases q'; rw [c] at c'; exact absurd c' (by decide)
  have hSf : S ∉ [it, l] := fun hm => by
    rcases List.mem_cons.mp hm with e | hm
    · exact hSr e
    · exact hSl (List.mem_singleton.mp hm)
  have W := (walks (prog := prog) (w := w) (A := A.in1) hh it l hlr items).toS
  unfold Builtin.List.listExtendWith
  refine wpAny_bind (wpAny_typeOf hit.typeIs ?_)
  have h1 : Builtin.List.listSameRef (.ref S) (.ref it) = false := by simp [Builtin.List.listSameRef, hSr]
  have h2 : (Value.type "list_reverseiterator" == Value.type "list") = false := by decide
  have h3 : (Value.type "list_reverseiterator" == Value.type "tuple") = false := by decide
  simp only [h1, h2, h3, Bool.or_false, Bool.false_eq_true, if_false]
  refine wpAny_bind (iter_self hit ?_)
  refine wpAny_bind (wpAny_holding (hint_rev hit ?_))
  refine wpAny_ite_split (fun hab => absurd hab (by decide +kernel)) (fun _ => ?_)
  refine wpAny_pure ⟨plainId_quiet F.plain_extend_loop _, ?_⟩
  refine codeAny_extend_loopS W hlen S hSf res items.size 0 _ #[] c₀ rfl (Nat.zero_le _) ⟨by rw [Nat.sub_zero]; exact hit, hl⟩ hS (ItemsOf.nil _) fun s' acc' c' hm hS' hacc => ?_
  rw [Moved.eq_with hm]
  refine hR s'.heap s'.toks acc' c' (fun b o hb hb' e => hm.heap b o (fun hmem => ?_) e) hS' hacc
  rcases List.mem_cons.mp hmem with e' | hmem
  · exact hb e'
  · exact hb' (List.mem_singleton.mp hmem)
theorem init_rev {R : Result → Shared → Prop} {it l : Addr} {items : Array Value} (hh : A.handled = none) (hit : IsRev s.heap it l items.size) (hl : s.heap.IsList l items) (hlen : items.size ≤ sizeLine) (S : Addr)
    (hS : s.heap.get? S = some { cls := .type "list", data := .seq #[] }) (hSl : S ≠ l)
    (hR : ∀ h' tk acc' c', (∀ b o, b ≠ S → b ≠ it → s.heap.get? b = some o → h'.get? b = some o) → h'.get? S = some { cls := .type "list", dict := none, data := .seq acc' c', slots := #[] } →
      ItemsOf (fun i v => items[items.size - 1 - i]? = some v) acc' items.size → R (.ok (.ret .none)) { s with heap := h', toks := tk }) :
    wpAny (model prog w) A.in1 (Builtin.«list.__init__» ⟨[.ref S, .ref it], []⟩)
      (fun fin s' => match fin with | .done f => R (.ok f) s' | .again c' => c'.quiet = true ∧ codeAny (model prog w) A c' R s') (fun e s' => R (.error e) s') s := by
  have hSr : S ≠ it := fun e => by obtain ⟨o, q, c, _⟩ := hit; rw [← e, hS] at q; cases q; exact absurd (show Value.type "list" = Value.type "list_reverseiterator" from c) (by decide)
  show wpAny _ _ (do let old ← Builtin.List.listItems (.ref S); Builtin.List.listUpdate (.ref S) (fun _ => #[]); letGo old.toList.reverse; Builtin.List.listExtendWith (.ref S) (.ref it) .none) _ _ s
  refine wpAny_bind ?_
  unfold Builtin.List.listItems
  refine wpAny_bind (wpAny_seqItems hS rfl (wpAny_pure ?_))
  show wpAny _ _ (updateSeq S (fun _ => #[]) >>= fun _ => letGo (#[] : Array Value).toList.reverse >>= fun _ => Builtin.List.listExtendWith (.ref S) (.ref it) .none) _ _ s
  refine wpAny_bind (wpAny_updateSeq hS rfl ?_)
  have hS₂ := Heap.get?_update_self (Obj.mapSeq (fun _ => (#[] : Array Value))) hS rfl
  have oth : ∀ b o, b ≠ S → s.heap.get? b = some o → (s.heap.update S (Obj.mapSeq (fun _ => (#[] : Array Value)))).get? b = some o :=
    fun b o hb e => (Heap.get?_update_other _ _ (Ne.symm hb)).trans e
  refine wpAny_bind (wpAny_letGo ?_)
  have hit₂ : IsRev (s.heap.update S (Obj.mapSeq (fun _ => (#[] : Array Value)))) it l items.size := let ⟨o, e, r⟩ := hit; ⟨o, oth it o (Ne.symm hSr) e, r⟩
  have hl₂ : (s.heap.update S (Obj.mapSeq (fun _ => (#[] : Array Value)))).IsList l items := hl.at fun o e => oth l o (Ne.symm hSl) e
  refine extend_rev hh hit₂ hl₂ hlen S .none _ hS₂ hSl fun h' tk acc' c' hk hS' hacc => ?_
  exact hR h' tk acc' c' (fun b o hb hb' e => hk b o hb hb' (oth b o hb e)) hS' hacc
end
section
variable {prog : Program} {w : World} {A : Around} {E : Value → Shared → Prop} {s : Shared}
theorem call_list_rev {Q : Value → Shared → Prop} {it l : Addr} {items : Array Value} (hh : A.handled = none) (hit : IsRev s.heap it l items.size) (hl : s.heap.IsList l items) (hlen : items.size ≤ sizeLine)
    (hQ : ∀ h' tk acc' c', (∀ b o, b ≠ it → s.heap.get? b = some o → h'.get? b = some o) →
      h'.get? s.heap.objs.size = some { cls := .type "list", dict := none, data := .seq acc' c', slots := #[] } → ItemsOf (fun i v => items[items.size - 1 - i]? = some v) acc' items.size → Q (.ref s.heap.objs.size) { s with heap := h', toks := tk }) :
    wpAny (model prog w) A (call (.type "list") [.ref it]) Q E s := by
  refine callType_codes (Q₁ := fun obj s₁ => obj = .ref s.heap.objs.size ∧ s₁ = { s with heap := s.heap.push { cls := .type "list", data := .seq #[] } }) F.called_list (F.typeCall_list_1 _) F.entry_list_init
    (code_list_new _ ⟨rfl, rfl⟩) fun obj s₁ h₁ => ?_
  obtain ⟨rfl, rfl⟩ := h₁
  have hS : (s.heap.push { cls := .type "list", data := .seq #[] }).get? s.heap.objs.size = some { cls := .type "list", data := .seq #[] } := Heap.get?_push_size _ rfl
  have hlt : l < s.heap.objs.size := by obtain ⟨o, e, _⟩ := hl; exact Heap.lt_size e
  refine ⟨⟨_, hS, rfl⟩, F.args_list_init_2 _ _, init_rev (A := A.in1) hh (let ⟨o, e, r⟩ := hit; ⟨o, Heap.get?_push_of_some _ e, r⟩) (hl.push _) hlen _ hS (Nat.ne_of_gt hlt) fun h' tk acc' c' hk hS' hacc => ?_⟩
  exact ⟨rfl, hQ h' tk acc' c' (fun b o hb e => hk b o (Nat.ne_of_lt (Heap.lt_size e)) hb (Heap.get?_push_of_some _ e)) hS' hacc⟩
end
end Rv
end PySem
namespace PySem
open Sem (wp)
open AutoSeq1 (wpAny_loadPart')
namespace Rv
section
variable {prog : Program} {w : World} {A : Around} {E : Value → Shared → Prop} {s : Shared}
theorem callType_other {T newId initId : String} {args : List Value} {Q Q₁ : Value → Shared → Prop} (ft : TypeCalled T newId initId)
    (hct : checkTypeCall T ⟨args, []⟩ = pure ())
    (hnew : codeAny (model prog w) A.in1 (.call (.builtin newId) ⟨.type T :: args, []⟩) (wants Q₁ E) s)
    (hnext : ∀ obj s₁, Q₁ obj s₁ → ∃ T', s₁.TypeIs obj T' ∧ isSubtype (.type T') (.type T) = pure false ∧ Q obj s₁) :
    wpAny (model prog w) A (call (.type T) args) Q E s := by
  obtain ⟨c, tl, hmro⟩ := ft.mro
  have hmade := ft.made
  have hsub := ft.sub
  refine wpAny_call (codeAny_of_tree ?_)
  show wpAny _ _ (callAny (.type T) _) _ _ _
  refine wpAny_pure ⟨Code.quiet_builtin _ (by decide +kernel), codeAny_builtin F.entry_type_call ?_⟩
  rw [Around.under_plain (weight_type_call_type T args []) rfl]
  have h1 := ft.notType
  have h2 := ft.canCreate
  repeat (any_goals (first | assumption | wp_step))
  refine codeAny_mono hnew fun r s₁ hr => ?_
  cases r with
  | error e => exact hr
  | ok fl =>
    cases fl with
    | ret obj =>
      obtain ⟨T', hT, hs', hq⟩ := hnext _ _ hr
      refine wpAny_bind (wpAny_isInstance (T := T') (b := false) hT hs' ?_)
      repeat (any_goals (first | assumption | wp_step))
    | _ => exact hr.elim
theorem code_new {l : Addr} {items : Array Value} {n : Nat} {Q₁ : Value → Shared → Prop} (hl : s.heap.get? l = some { cls := .type "list", dict := none, data := .seq items n, slots := #[] })
    (h : Q₁ (.ref s.heap.objs.size) { s with heap := s.heap.push { cls := .type "list_reverseiterator", data := .fields #[.ref l, rawInt ((items.size : Int) - 1)] } }) :
    codeAny (model prog w) A (.call (.builtin "reversed.__new__") ⟨[.type "reversed", .ref l], []⟩) (wants Q₁ E) s := by
  refine codeAny_of_tree ?_
  show wpAny _ A.in1 (do checkBuiltinCall "reversed.__new__" ⟨[.type "reversed", .ref l], []⟩; again (.builtin "reversed.__new__" ⟨[.type "reversed", .ref l], []⟩)) _ _ s
  refine wpAny_bind (wpAny_of_eq (newCall_1 _) (wpAny_pure ⟨plainId_quiet plain_new _, codeAny_builtin entry_new ?_⟩))
  rw [Around.under_plainId plain_new _]
  have hsub := sub_self
  have hT : s.TypeIs (.ref l) "list" := ⟨_, hl, rfl⟩
  unfold Builtin.«reversed.__new__»
  wp_walk
  refine wpAny_of_eq F.slot_list_reversed.lookup ?_
  refine wpAny_bind (wpAny_of_eq (F.slot_list_reversed.bind _) ?_)
  refine wpAny_ite_split (fun hab => absurd hab (by decide)) (fun _ => ?_)
  refine wpAny_bind (wpAny_rule (wpAny_bind ?_))
  show wpAny _ _ (call (.builtin "list.__reversed__") [.ref l]) _ _ s
  refine call_meets F.slot_list_reversed hT F.entry_list_reversed (F.args_list_reversed_1 _) (AutoListH.list___reversed___list_0 l items n) ⟨hl, ?_⟩
  exact wpAny_pure h
theorem call_reversed {l : Addr} {items : Array Value} {n : Nat} {Q : Value → Shared → Prop} (hl : s.heap.get? l = some { cls := .type "list", dict := none, data := .seq items n, slots := #[] })
    (h : Q (.ref s.heap.objs.size) { s with heap := s.heap.push { cls := .type "list_reverseiterator", data := .fields #[.ref l, rawInt ((items.size : Int) - 1)] } }) :
    wpAny (model prog w) A (call (.type "reversed") [.ref l]) Q E s :=
  callType_other (Q₁ := fun obj s₁ => obj = .ref s.heap.objs.size ∧ s₁ = { s with heap := s.heap.push { cls := .type "list_reverseiterator", data := .fields #[.ref l, rawInt ((items.size : Int) - 1)] } }) called_reversed (typeCall_1 _) (code_new hl ⟨rfl, rfl⟩)
    fun obj s₁ ⟨e1, e2⟩ => ⟨"list_reverseiterator", by subst e1 e2; exact ⟨_, Heap.get?_push_size _ rfl, rfl⟩, sub_no, by subst e1 e2; exact h⟩
end
end Rv
end PySem
namespace L2
open PySem PySem.Spec PyProof.Rows
section
variable {X : Cx} {e : Expr} {te : TE} {p1 p2 pos1 pos2 : Pos}
inductive tListRevR  (Q : VK) (x : V) (H1 : Hp) : Prop
  | mk (l : _) (ys : _) (h0 : x = .ref l) (h1 : H1 l = some (.lst ys)) (h2 : ∀ p, H1 p = none → Q (.ref p) (upd H1 p (.lst ys.reverse))) : tListRevR Q x H1
noncomputable def tListRev (te : TE) : TE := fun σ H Q => te σ H fun x H1 => tListRevR Q x H1
theorem items_rev {its : List Value} {acc : Array Value} (h : ItemsOf (fun i v => its.toArray[its.toArray.size - 1 - i]? = some v) acc its.toArray.size) : acc.toList = its.reverse := by
  obtain ⟨hz, hg⟩ := h
  have hz' : acc.size = its.length := by
    have := hz
    simpa using this
  refine List.ext_getElem? fun i => ?_
  by_cases hi : i < its.length
  · have h1 : acc[i]? = some (acc[i]'(by omega)) := by simp [show i < acc.size by omega]
    have h2 := hg i _ h1
    dsimp only at h2
    rw [List.size_toArray, List.getElem?_toArray] at h2
    rw [Array.getElem?_toList, h1, List.getElem?_reverse hi]
    exact h2.symm
  · rw [List.getElem?_eq_none (show acc.toList.length ≤ i by rw [Array.length_toList]; omega), List.getElem?_eq_none (show its.reverse.length ≤ i by rw [List.length_reverse]; omega)]
theorem pe_listrev (hh : X.A.handled = none) (gl : Gl X "list") (gr : Gl X "reversed") (ml : X.mg "list" = none) (mr : X.mg "reversed" = none) (he : PE X e te)
    (h1 : starEach [e] X.env = [(false, eval e X.env)] := by rfl) (h2 : starEach [Expr.Call (.Name "reversed" p2) [e] [] pos2] X.env = [(false, eval (.Call (.Name "reversed" p2) [e] [] pos2) X.env)] := by rfl) :
    PE X (.Call (.Name "list" p1) [.Call (.Name "reversed" p2) [e] [] pos2] [] pos1) (tListRev te) := by
  intro pins s σ H Q I h
  refine wpAny_Call_Name_kw (ld_blt I gl ml boot_list ?_ (by decide) (by decide))
  refine PyProof.Rows.callWith_type1 ?_ (by rw [h2]; rfl) rfl
  rw [h2]
  show wpAny _ _ (spliced [(false, eval (.Call (.Name "reversed" p2) [e] [] pos2) X.env)]) _ _ s
  refine Calls.spliced_cons ?_
  refine wpAny_Call_Name_kw (ld_blt I gr mr boot_reversed ?_ (by decide) (by decide))
  refine PyProof.Rows.callWith_type1 ?_ (by rw [h1]; rfl) rfl
  rw [h1]
  show wpAny _ _ (spliced [(false, eval e X.env)]) _ _ s
  refine Calls.spliced_cons (thn (he pins s σ H _ I h) fun u s1 ⟨x, H1, I1, rx, l, ys, ex, hl, q⟩ => Calls.spliced_nil ?_)
  subst ex
  cases (show u = Value.ref l from rx)
  obtain ⟨its, n, rv, ho, hz⟩ := I1.lst hl
  refine Rv.call_reversed ho ?_
  refine Calls.spliced_nil ?_
  have hlt : l < s1.heap.objs.size := Heap.lt_size ho
  have hsz : its.toArray.size ≤ sizeLine := by rw [List.size_toArray, ← rv.length]; exact hz
  have hrev : Rv.IsRev (s1.heap.push { cls := .type "list_reverseiterator", data := .fields #[.ref l, rawInt ((its.toArray.size : Int) - 1)] }) s1.heap.objs.size l its.toArray.size := ⟨_, Heap.get?_push_size _ rfl, rfl, rfl⟩
  have hls : (s1.heap.push { cls := .type "list_reverseiterator", data := .fields #[.ref l, rawInt ((its.toArray.size : Int) - 1)] }).IsList l its.toArray := ⟨_, Heap.get?_push_of_some _ ho, rfl, _, rfl⟩
  refine Rv.call_list_rev hh hrev hls hsz fun h' tk acc' c' hk hS hacc => ?_
  have I2 : Inv X pins σ H1 { s1 with heap := s1.heap.push { cls := .type "list_reverseiterator", data := .fields #[.ref l, rawInt ((its.toArray.size : Int) - 1)] } } := I1.kept (t' := s1.toks) fun b o e => Heap.get?_push_of_some _ e
  have hsize : (s1.heap.push { cls := .type "list_reverseiterator", data := .fields #[.ref l, rawInt ((its.toArray.size : Int) - 1)] }).objs.size = s1.heap.objs.size + 1 := Heap.size_push ..
  rw [hsize] at hS ⊢
  have hfr : H1 (s1.heap.objs.size + 1) = none := I1.hok.fresh (Nat.le_succ _)
  have kold : ∀ b o, s1.heap.get? b = some o → h'.get? b = some o := fun b o e => hk b o (Nat.ne_of_lt (Heap.lt_size e)) (Heap.get?_push_of_some _ e)
  refine ⟨.ref (s1.heap.objs.size + 1), upd H1 (s1.heap.objs.size + 1) (.lst ys.reverse), ?_, rfl, q _ hfr⟩
  refine I1.laid (t' := tk) kold (Nat.le_succ _) ⟨by rw [List.length_reverse]; exact hz, its.reverse, c', rv.reverse, ?_⟩
  rw [hS]
  have := items_rev hacc
  obtain ⟨a⟩ := acc'
  simp only at this
  subst this
  rfl
end
end L2
namespace EB
noncomputable def First (n : Nat) (pile : List Say) (wishes : List Int) : Option (List Bool) → Prop
  | some S => ∃ K, FInv n pile wishes n K ∧ S = setOf n K
  | none => Torn pile (· ∈ wishes) ∨ ∃ v : Nat, 1 ≤ v ∧ v ≤ n ∧ Knot pile (v : Int)
theorem finv_good {n : Nat} {pile : List Say} {wishes K : List Int} (ok : PileOk n pile) (f : FInv n pile wishes n K) : goodB pile (setOf n K) = true := by
  refine goodB_iff.mpr fun c hc => ?_
  obtain ⟨l1, l2⟩ := ok c hc
  obtain ⟨v, h1, h2, e⟩ := l1.cases
  have dc : c.1 ∈ K ∨ -c.1 ∈ K := by
    rcases e with e | e
    · rw [e]; exact f.de v h1 h2
    · rw [e, Int.neg_neg]; exact (f.de v h1 h2).symm
  rcases dc with h | h
  · exact .inl ((tru_setOf f.de f.cl.co l1).mpr h)
  · refine .inr ((tru_setOf f.de f.cl.co l2).mpr (f.cl.cl _ h _ ⟨c, hc, .inl ⟨by omega, rfl⟩⟩))
theorem finv_wish {n : Nat} {pile : List Say} {wishes K : List Int} (f : FInv n pile wishes n K) {x : Int} (hx : x ∈ wishes) : tru (setOf n K) x = true :=
  (tru_setOf f.de f.cl.co (f.lk x (f.wi x hx))).mpr (f.wi x hx)
theorem first_diff : ∀ (a b : List Bool), a.length = b.length → a ≠ b → ∃ k, k < a.length ∧ a.getD k false ≠ b.getD k false ∧ ∀ j, j < k → a.getD j false = b.getD j false
  | [], [], _, h => absurd rfl h
  | [], _ :: _, h, _ => by simp at h
  | _ :: _, [], h, _ => by simp at h
  | x :: r, y :: t, h, ne => by
    by_cases e : x = y
    · subst e
      obtain ⟨k, h1, h2, h3⟩ := first_diff r t (by simpa using h) (fun z => ne (by rw [z]))
      refine ⟨k + 1, by simpa using h1, by simpa using h2, fun j hj => ?_⟩
      cases j with
      | zero => rfl
      | succ j => simpa using h3 j (by omega)
    · exact ⟨0, by simp, by simpa using e, fun j hj => by omega⟩
theorem tru_nat {s : List Bool} {v : Nat} (h : 1 ≤ v) : tru s (v : Int) = s.getD (v - 1) false := by
  unfold tru
  have : (0 : Int) < (v : Int) := by omega
  rw [decide_eq_true this, Int.natAbs_natCast]
  cases s.getD (v - 1) false <;> rfl
theorem tru_negnat {s : List Bool} {v : Nat} (h : 1 ≤ v) : tru s (-(v : Int)) = !s.getD (v - 1) false := by
  rw [tru_neg (by omega), tru_nat h]
theorem finv_first {n : Nat} {pile : List Say} {wishes K : List Int} (ok : PileOk n pile) (wl : ∀ x ∈ wishes, Lit n x) (f : FInv n pile wishes n K) {s : List Bool} (hs : s.length = n) (g : goodB pile s = true) (hw : ∀ x ∈ wishes, tru s x = true) {k : Nat}
    (hk : k < n) (ne : (setOf n K).getD k false ≠ s.getD k false) (eq : ∀ j, j < k → (setOf n K).getD j false = s.getD j false) : (setOf n K).getD k false = false := by
  cases e : (setOf n K).getD k false with
  | false => rfl
  | true =>
    exfalso
    have hv : ((k + 1 : Nat) : Int) ∈ K := by
      have := setOf_get (K := K) (v := k + 1) (by omega) (n := n) (by omega)
      rw [Nat.add_sub_cancel, e] at this
      exact of_decide_eq_true this.symm
    have t := f.on (k + 1) (by omega) (by omega) hv
    refine torn_no (n := n) ok (fun x hx => ?_) t g fun x hx => ?_
    · rcases hx with h | h | h
      · exact wl x h
      · exact f.lk x h.1
      · rw [h]; exact (lit_nat (by omega) (by omega)).neg
    · rcases hx with h | h | h
      · exact hw x h
      · obtain ⟨v, h1, h2, e'⟩ := (f.lk x h.1).cases
        have hvk : v - 1 < k := by omega
        have q := (tru_setOf f.de f.cl.co (f.lk x h.1)).mpr h.1
        rcases e' with e' | e'
        · rw [e', tru_nat h1, ← eq _ hvk]
          rw [e', tru_nat h1] at q
          exact q
        · rw [e', tru_negnat h1, ← eq _ hvk]
          rw [e', tru_negnat h1] at q
          exact q
      · rw [h, tru_negnat (by omega), Nat.add_sub_cancel]
        have : s.getD k false = false := by
          cases z : s.getD k false with
          | false => rfl
          | true => rw [e, z] at ne; exact absurd rfl ne
        rw [this]
        rfl
theorem first_none {n : Nat} {pile : List Say} {wishes : List Int} (ok : PileOk n pile) (wl : ∀ x ∈ wishes, Lit n x) (h : First n pile wishes none) {s : List Bool} (g : goodB pile s = true) (hw : ∀ x ∈ wishes, tru s x = true) : False := by
  rcases h with t | ⟨v, h1, h2, k⟩
  · exact torn_no ok wl t g hw
  · exact knot_no ok (lit_nat h1 h2) k g
inductive Walk (pile : List Say) (a : Int) : Int → Nat → Prop
  | zero : Walk pile a a 0
  | succ {b c : Int} {n : Nat} : Walk pile a b n → Step pile b c → Walk pile a c (n + 1)
theorem Walk.reach {pile : List Say} {a b : Int} {n : Nat} (w : Walk pile a b n) : Reach pile a b := by
  induction w with
  | zero => exact .refl
  | succ _ s ih => exact .tail ih s
theorem Reach.walk {pile : List Say} {a b : Int} (r : Reach pile a b) : ∃ n, Walk pile a b n := by
  induction r with
  | refl => exact ⟨0, .zero⟩
  | tail _ s ih => obtain ⟨n, w⟩ := ih; exact ⟨n + 1, .succ w s⟩
noncomputable def Dst (pile : List Say) (a b : Int) (n : Nat) : Prop := Walk pile a b n ∧ ∀ m, Walk pile a b m → n ≤ m
theorem walk_least {pile : List Say} {a b : Int} : ∀ n, Walk pile a b n → ∃ d, d ≤ n ∧ Dst pile a b d := by
  intro n
  induction n using Nat.strongRecOn with
  | ind n ih =>
    intro w
    by_cases h : ∃ m, m < n ∧ Walk pile a b m
    · obtain ⟨m, hm, wm⟩ := h
      obtain ⟨d, h1, h2⟩ := ih m hm wm
      exact ⟨d, by omega, h2⟩
    · refine ⟨n, Nat.le_refl _, w, fun m wm => ?_⟩
      by_cases hm : m < n
      · exact absurd ⟨m, hm, wm⟩ h
      · omega
theorem Dst.uniq {pile : List Say} {a b : Int} {m n : Nat} (x : Dst pile a b m) (y : Dst pile a b n) : m = n := Nat.le_antisymm (x.2 n y.1) (y.2 m x.1)
theorem Dst.pred {pile : List Say} {a c : Int} {n : Nat} (x : Dst pile a c (n + 1)) : ∃ b, Dst pile a b n ∧ Step pile b c := by
  obtain ⟨w, l⟩ := x
  cases w with
  | succ w s => exact ⟨_, ⟨w, fun m wm => by have := l (m + 1) (.succ wm s); omega⟩, s⟩
theorem Dst.zero {pile : List Say} {a : Int} : Dst pile a a 0 := ⟨.zero, fun _ _ => Nat.zero_le _⟩
theorem Dst.zero_eq {pile : List Say} {a b : Int} (x : Dst pile a b 0) : b = a := by
  obtain ⟨w, _⟩ := x
  cases w
  rfl
theorem Dst.back {pile : List Say} {a x : Int} {n : Nat} : ∀ k, Dst pile a x (n + k) → ∃ y, Dst pile a y n
  | 0, h => ⟨x, h⟩
  | k + 1, h => by
    obtain ⟨b, hb, _⟩ := Dst.pred (n := n + k) h
    induction k generalizing x b with
    | zero => exact ⟨b, hb⟩
    | succ k ih =>
      obtain ⟨c, hc, _⟩ := Dst.pred (n := n + k) hb
      exact ih (x := b) hb c hc ‹_›
structure LInv (pile : List Say) (a : Int) (n : Nat) (C : Int → Prop) (L : List Int) : Prop where
  seen : ∀ x, C x ↔ ∃ m, m ≤ n ∧ Walk pile a x m
  lay : ∀ x, x ∈ L ↔ Dst pile a x n
theorem LInv.start {pile : List Say} {a : Int} {C : Int → Prop} (h : ∀ x, C x ↔ x = a) : LInv pile a 0 C [a] where
  seen := fun x => by
    rw [h]
    constructor
    · rintro rfl; exact ⟨0, Nat.le_refl _, .zero⟩
    · rintro ⟨m, hm, w⟩
      obtain rfl : m = 0 := by omega
      cases w
      rfl
  lay := fun x => by
    rw [List.mem_singleton]
    constructor
    · rintro rfl; exact .zero
    · exact Dst.zero_eq
theorem LInv.next {pile : List Say} {a : Int} {n : Nat} {C C' : Int → Prop} {L L' : List Int} (i : LInv pile a n C L) (hC : ∀ x, C' x ↔ C x ∨ ∃ p ∈ L, Step pile p x) (hL : ∀ x, x ∈ L' ↔ ¬ C x ∧ ∃ p ∈ L, Step pile p x) : LInv pile a (n + 1) C' L' := by
  have key : ∀ x, ¬ C x → Walk pile a x (n + 1) → Dst pile a x (n + 1) ∧ ∃ p ∈ L, Step pile p x := fun x nc w => by
    have d : Dst pile a x (n + 1) := ⟨w, fun m wm => by
      by_cases hm : m ≤ n
      · exact absurd ((i.seen x).mpr ⟨m, hm, wm⟩) nc
      · omega⟩
    obtain ⟨b, hb, s⟩ := d.pred
    exact ⟨d, b, (i.lay b).mpr hb, s⟩
  constructor
  · intro x
    rw [hC]
    constructor
    · rintro (h | ⟨p, hp, s⟩)
      · obtain ⟨m, hm, w⟩ := (i.seen x).mp h
        exact ⟨m, by omega, w⟩
      · exact ⟨n + 1, Nat.le_refl _, .succ ((i.lay p).mp hp).1 s⟩
    · rintro ⟨m, hm, w⟩
      by_cases hc : C x
      · exact .inl hc
      · by_cases h : m ≤ n
        · exact .inl ((i.seen x).mpr ⟨m, h, w⟩)
        · obtain rfl : m = n + 1 := by omega
          exact .inr (key x hc w).2
  · intro x
    rw [hL]
    constructor
    · rintro ⟨nc, p, hp, s⟩
      exact (key x nc (.succ ((i.lay p).mp hp).1 s)).1
    · intro d
      have nc : ¬ C x := fun h => by
        obtain ⟨m, hm, w⟩ := (i.seen x).mp h
        have := d.2 m w
        omega
      exact ⟨nc, (key x nc d.1).2⟩
theorem LInv.all {pile : List Say} {a : Int} {n : Nat} {C : Int → Prop} (i : LInv pile a n C []) {x : Int} (r : Reach pile a x) : C x := by
  obtain ⟨m, w⟩ := r.walk
  obtain ⟨d, _, hd⟩ := walk_least m w
  by_cases h : d ≤ n
  · exact (i.seen x).mpr ⟨d, h, hd.1⟩
  · obtain ⟨k, rfl⟩ : ∃ k, d = n + k := ⟨d - n, by omega⟩
    obtain ⟨y, hy⟩ := Dst.back k hd
    exact absurd ((i.lay y).mpr hy) (by simp)
noncomputable def Chain (pile : List Say) : List Int → Prop
  | [] => True
  | [_] => True
  | x :: y :: r => Step pile x y ∧ Chain pile (y :: r)
theorem chain_get {pile : List Say} : ∀ {l : List Int} {i : Nat} {x y : Int}, Chain pile l → l[i]? = some x → l[i + 1]? = some y → Step pile x y
  | [], _, _, _, _, h, _ => by simp at h
  | [_], 0, _, _, _, _, h => by simp at h
  | [_], _ + 1, _, _, _, h, _ => by simp at h
  | a :: b :: r, 0, x, y, c, h1, h2 => by
    simp at h1 h2
    subst h1; subst h2
    exact c.1
  | a :: b :: r, i + 1, x, y, c, h1, h2 => chain_get (i := i) c.2 (by simpa using h1) (by simpa using h2)
end EB
namespace EB
noncomputable def LexLt (a b : List Bool) : Prop := ∃ k, k < a.length ∧ a.getD k false = false ∧ b.getD k false = true ∧ ∀ j, j < k → a.getD j false = b.getD j false
theorem LexLt.asymm {a b : List Bool} (h : LexLt a b) (h' : LexLt b a) : False := by
  obtain ⟨k, _, a1, b1, e⟩ := h
  obtain ⟨j, _, b2, a2, e'⟩ := h'
  rcases Nat.lt_trichotomy k j with l | l | l
  · have := e' k l; rw [a1, b1] at this; cases this
  · subst l; rw [a1] at a2; cases a2
  · have := e j l; rw [a2, b2] at this; cases this
noncomputable def settings : Nat → List (List Bool)
  | 0 => [[]]
  | n + 1 => (settings n).flatMap fun b => [b ++ [false], b ++ [true]]
theorem settings_len : ∀ (n : Nat) (s : List Bool), s ∈ settings n → s.length = n
  | 0, s, h => by
    rw [settings, List.mem_singleton] at h
    subst h
    rfl
  | n + 1, s, h => by
    rw [settings, List.mem_flatMap] at h
    obtain ⟨b, hb, hs⟩ := h
    have := settings_len n b hb
    simp at hs
    rcases hs with rfl | rfl <;> simp [this]
theorem mem_settings : ∀ (n : Nat) (s : List Bool), s.length = n → s ∈ settings n
  | 0, s, h => by
    rw [settings, List.mem_singleton]
    exact List.length_eq_zero_iff.mp h
  | n + 1, s, h => by
    rw [settings, List.mem_flatMap]
    have hne : s ≠ [] := fun z => by rw [z] at h; simp at h
    refine ⟨s.dropLast, mem_settings n _ (by simp [h]), ?_⟩
    have e := List.dropLast_concat_getLast hne
    cases hb : s.getLast hne with
    | false => rw [hb] at e; simp [e]
    | true => rw [hb] at e; simp [e]
theorem getD_app {a : List Bool} {b : Bool} {j : Nat} (h : j < a.length) : (a ++ [b]).getD j false = a.getD j false := by
  rw [List.getD_eq_getElem?_getD, List.getD_eq_getElem?_getD, List.getElem?_append_left h]
theorem getD_last {a : List Bool} {b : Bool} : (a ++ [b]).getD a.length false = b := by
  rw [List.getD_eq_getElem?_getD, List.getElem?_append_right (Nat.le_refl _)]
  simp
theorem lex_app {a b : List Bool} {x y : Bool} (hl : a.length = b.length) (h : LexLt a b) : LexLt (a ++ [x]) (b ++ [y]) := by
  obtain ⟨k, hk, a1, b1, e⟩ := h
  exact ⟨k, by simp; omega, by rw [getD_app hk]; exact a1, by rw [getD_app (by omega)]; exact b1, fun j hj => by rw [getD_app (by omega), getD_app (by omega)]; exact e j hj⟩
theorem settings_sorted : ∀ n, (settings n).Pairwise LexLt
  | 0 => by simp [settings]
  | n + 1 => by
    have ih := settings_sorted n
    have hl := settings_len n
    rw [settings]
    generalize settings n = l at ih hl
    induction l with
    | nil => simp
    | cons b r ihr =>
      rw [List.pairwise_cons] at ih
      rw [List.flatMap_cons, List.pairwise_append]
      refine ⟨?_, ihr ih.2 (fun s hs => hl s (List.mem_cons_of_mem _ hs)), ?_⟩
      · rw [List.pairwise_cons]
        refine ⟨fun x hx => ?_, by simp⟩
        rw [List.mem_singleton] at hx
        subst hx
        exact ⟨b.length, by simp, getD_last, getD_last, fun j hj => by rw [getD_app hj, getD_app hj]⟩
      · intro x hx y hy
        rw [List.mem_flatMap] at hy
        obtain ⟨c, hc, hy⟩ := hy
        have lb := hl b List.mem_cons_self
        have lc := hl c (List.mem_cons_of_mem _ hc)
        have lt := ih.1 c hc
        simp at hx hy
        rcases hx with rfl | rfl <;> rcases hy with rfl | rfl <;> exact lex_app (by omega) lt
theorem find_before {α : Type} {R : α → α → Prop} {p : α → Bool} : ∀ {l : List α} {s t : α}, l.Pairwise R → l.find? p = some t → s ∈ l → p s = true → s = t ∨ R t s
  | [], _, _, _, h, _, _ => by simp at h
  | x :: r, s, t, pw, h, hm, hp => by
    rw [List.pairwise_cons] at pw
    rw [List.find?_cons] at h
    cases hx : p x with
    | true =>
      rw [hx] at h
      cases h
      rcases List.mem_cons.mp hm with rfl | hm
      · exact .inl rfl
      · exact .inr (pw.1 s hm)
    | false =>
      rw [hx] at h
      rcases List.mem_cons.mp hm with rfl | hm
      · rw [hx] at hp; cases hp
      · exact find_before pw.2 h hm hp
theorem find_first {n : Nat} {p : List Bool → Bool} {S : List Bool} (hS : S.length = n) (hp : p S = true) (h : ∀ s, s.length = n → p s = true → s ≠ S → LexLt S s) : (settings n).find? p = some S := by
  cases e : (settings n).find? p with
  | none =>
    have := List.find?_eq_none.mp e S (mem_settings n S hS)
    rw [hp] at this
    exact absurd rfl this
  | some T =>
    have hT : p T = true := List.find?_some e
    have hm := List.mem_of_find?_eq_some e
    by_cases ne : T = S
    · rw [ne]
    · rcases find_before (settings_sorted n) e (mem_settings n S hS) hp with z | z
      · exact absurd z.symm ne
      · exact (z.asymm (h T (settings_len n T hm) hT ne)).elim
theorem find_none {n : Nat} {p : List Bool → Bool} (h : ∀ s, s.length = n → p s = true → False) : (settings n).find? p = none := by
  rw [List.find?_eq_none]
  intro s hs hp
  exact h s (settings_len n s hs) hp
noncomputable def wishB (wishes : List Int) (s : List Bool) : Bool := wishes.all (tru s)
theorem wishB_iff {wishes : List Int} {s : List Bool} : wishB wishes s = true ↔ ∀ x ∈ wishes, tru s x = true := by
  unfold wishB
  rw [List.all_eq_true]
theorem first_find {n : Nat} {pile : List Say} {wishes : List Int} (ok : PileOk n pile) (wl : ∀ x ∈ wishes, Lit n x) {r : Option (List Bool)} (h : First n pile wishes r) : (settings n).find? (fun s => goodB pile s && wishB wishes s) = r := by
  cases r with
  | none =>
    refine find_none fun s hs hp => ?_
    rw [Bool.and_eq_true] at hp
    exact first_none ok wl h hp.1 (wishB_iff.mp hp.2)
  | some S =>
    obtain ⟨K, f, rfl⟩ := h
    refine find_first (setOf_len n K) ?_ fun s hs hp ne => ?_
    · rw [finv_good ok f, wishB_iff.mpr fun x hx => finv_wish f hx]
      rfl
    · rw [Bool.and_eq_true] at hp
      obtain ⟨k, hk, d, e⟩ := first_diff (setOf n K) s (by rw [setOf_len, hs]) (Ne.symm ne)
      rw [setOf_len] at hk
      have off := finv_first ok wl f hs hp.1 (wishB_iff.mp hp.2) hk d e
      refine ⟨k, by rw [setOf_len]; exact hk, off, ?_, e⟩
      cases z : s.getD k false with
      | true => rfl
      | false => rw [off, z] at d; exact absurd rfl d
end EB
namespace EB
open PySem L2
noncomputable abbrev CF := List (Int × Option Int)
noncomputable def optV : Option Int → V
  | none => .non
  | some p => .int p
noncomputable def cfK (C : CF) : List (Key × V) := C.map fun p => ((Sum.inl p.1 : Key), optV p.2)
noncomputable def keys (C : CF) : List Int := C.map (·.1)
theorem cf_len (C : CF) : (cfK C).length = C.length := List.length_map _
theorem cf_none : ∀ {C : CF} {x : Int}, x ∉ keys C → valV (cfK C) (Sum.inl x : Key) = none
  | [], _, _ => rfl
  | (y, o) :: r, x, h => by
    have h1 : ¬ y = x := fun z => h (by rw [z]; exact List.mem_cons_self)
    have h2 : x ∉ keys r := fun z => h (List.mem_cons_of_mem _ z)
    show valV (((Sum.inl y : Key), optV o) :: cfK r) (Sum.inl x) = none
    rw [valV_neg (fun z => h1 (Sum.inl.inj z))]
    exact cf_none h2
theorem cf_some : ∀ {C : CF} {x : Int}, x ∈ keys C → ∃ o, (x, o) ∈ C ∧ valV (cfK C) (Sum.inl x : Key) = some (optV o)
  | [], _, h => nomatch h
  | (y, o) :: r, x, h => by
    by_cases e : y = x
    · subst e
      exact ⟨o, List.mem_cons_self, valV_pos rfl⟩
    · have h2 : x ∈ keys r := by
        rcases List.mem_cons.mp h with z | z
        · exact absurd z.symm e
        · exact z
      obtain ⟨o', a, b⟩ := cf_some h2
      refine ⟨o', List.mem_cons_of_mem _ a, ?_⟩
      show valV (((Sum.inl y : Key), optV o) :: cfK r) (Sum.inl x) = _
      rw [valV_neg (fun z => e (Sum.inl.inj z))]
      exact b
theorem cf_put {C : CF} {x p : Int} (h : x ∉ keys C) : putK (cfK C) (Sum.inl x : Key) (.int p) = cfK (C ++ [(x, some p)]) := by
  rw [putK_new _ (cf_none h)]
  unfold cfK
  rw [List.map_append]
  rfl
theorem keys_snoc (C : CF) (x : Int) (o : Option Int) : keys (C ++ [(x, o)]) = keys C ++ [x] := by unfold keys; rw [List.map_append]; rfl
theorem keys_app (C E : CF) : keys (C ++ E) = keys C ++ keys E := by unfold keys; rw [List.map_append]
structure NInv (n : Nat) (pile : List Say) (C : CF) (L : List Int) (done : Int → Prop) (E : CF) : Prop where
  nd : (keys (C ++ E)).Nodup
  lit : ∀ x ∈ keys (C ++ E), Lit n x
  new : ∀ y o, (y, o) ∈ E → ∃ p ∈ L, o = some p ∧ Step pile p y
  all : ∀ p y, done p → Step pile p y → y ∈ keys (C ++ E)
theorem NInv.start {n : Nat} {pile : List Say} {C : CF} {L : List Int} (nd : (keys C).Nodup) (lit : ∀ x ∈ keys C, Lit n x) : NInv n pile C L (fun _ => False) [] := by
  refine ⟨by rw [List.append_nil]; exact nd, by rw [List.append_nil]; exact lit, (fun y o h => nomatch h), fun p y h => False.elim h⟩
theorem NInv.add {n : Nat} {pile : List Say} {C E : CF} {L : List Int} {done : Int → Prop} (i : NInv n pile C L done E) {p y : Int} (hp : p ∈ L) (s : Step pile p y) (hy : Lit n y) (h : y ∉ keys (C ++ E)) : NInv n pile C L done (E ++ [(y, some p)]) := by
  have e : C ++ (E ++ [(y, some p)]) = (C ++ E) ++ [(y, some p)] := (List.append_assoc _ _ _).symm
  refine ⟨?_, ?_, fun z o hz => ?_, fun q z hq hs => ?_⟩
  · rw [e, keys_snoc, List.nodup_append]
    refine ⟨i.nd, by simp, fun a ha b hb z => ?_⟩
    rw [List.mem_singleton] at hb
    subst hb; subst z
    exact h ha
  · rw [e, keys_snoc]
    intro x hx
    rcases List.mem_append.mp hx with hx | hx
    · exact i.lit x hx
    · rw [List.mem_singleton] at hx; subst hx; exact hy
  · rcases List.mem_append.mp hz with hz | hz
    · exact i.new z o hz
    · rw [List.mem_singleton] at hz
      cases hz
      exact ⟨p, hp, rfl, s⟩
  · rw [e, keys_snoc]
    exact List.mem_append_left _ (i.all q z hq hs)
theorem NInv.mono {n : Nat} {pile : List Say} {C E : CF} {L : List Int} {done done' : Int → Prop} (i : NInv n pile C L done E) (h : ∀ p, done' p → done p ∨ ∀ y, Step pile p y → y ∈ keys (C ++ E)) : NInv n pile C L done' E :=
  ⟨i.nd, i.lit, i.new, fun p y hp s => (h p hp).elim (fun z => i.all p y z s) fun z => z y s⟩
theorem NInv.len {n : Nat} {pile : List Say} {C E : CF} {L : List Int} {done : Int → Prop} (i : NInv n pile C L done E) : (C ++ E).length ≤ 2 * n := by
  have := lits_le i.nd i.lit
  rw [keys, List.length_map] at this
  exact this
structure SInv (n : Nat) (pile : List Say) (a : Int) (k : Nat) (C : CF) (L : List Int) : Prop where
  li : LInv pile a k (· ∈ keys C) L
  nd : (keys C).Nodup
  lit : ∀ x ∈ keys C, Lit n x
  par : ∀ x o, (x, o) ∈ C → (o = none ∧ x = a) ∨ ∃ p d, o = some p ∧ Step pile p x ∧ Dst pile a p d ∧ Dst pile a x (d + 1)
theorem SInv.start {n : Nat} {pile : List Say} {a : Int} (h : Lit n a) : SInv n pile a 0 [(a, none)] [a] where
  li := LInv.start fun x => by simp [keys]
  nd := by simp [keys]
  lit := fun x hx => by
    have : x = a := by simpa [keys] using hx
    subst this; exact h
  par := fun x o hx => by
    rw [List.mem_singleton] at hx
    cases hx
    exact .inl ⟨rfl, rfl⟩
theorem SInv.next {n : Nat} {pile : List Say} {a : Int} {k : Nat} {C E : CF} {L : List Int} (s : SInv n pile a k C L) (i : NInv n pile C L (· ∈ L) E) : SInv n pile a (k + 1) (C ++ E) (keys E) := by
  have disj : ∀ y, y ∈ keys E → y ∉ keys C := fun y h1 h2 => by
    have := i.nd
    rw [keys_app, List.nodup_append] at this
    exact this.2.2 y h2 y h1 rfl
  have hL : ∀ x, x ∈ keys E ↔ ¬ x ∈ keys C ∧ ∃ p ∈ L, Step pile p x := fun x => by
    constructor
    · intro h
      obtain ⟨⟨y, o⟩, hm, rfl⟩ := List.mem_map.mp h
      obtain ⟨p, hp, _, st⟩ := i.new y o hm
      exact ⟨disj _ h, p, hp, st⟩
    · rintro ⟨h1, p, hp, st⟩
      have := i.all p x hp st
      rw [keys_app] at this
      exact (List.mem_append.mp this).resolve_left h1
  have hC : ∀ x, x ∈ keys (C ++ E) ↔ x ∈ keys C ∨ ∃ p ∈ L, Step pile p x := fun x => by
    constructor
    · intro h
      rw [keys_app] at h
      rcases List.mem_append.mp h with h | h
      · exact .inl h
      · exact .inr ((hL x).mp h).2
    · rintro (h | ⟨p, hp, st⟩)
      · rw [keys_app]; exact List.mem_append_left _ h
      · exact i.all p x hp st
  have li := s.li.next hC hL
  refine ⟨li, i.nd, i.lit, fun x o hx => ?_⟩
  rcases List.mem_append.mp hx with hx | hx
  · exact s.par x o hx
  · obtain ⟨p, hp, e, st⟩ := i.new x o hx
    exact .inr ⟨p, k, e, st, (s.li.lay p).mp hp, (li.lay x).mp (List.mem_map.mpr ⟨(x, o), hx, rfl⟩)⟩
theorem SInv.meas {n : Nat} {pile : List Say} {a : Int} {k : Nat} {C E : CF} {L : List Int} (i : NInv n pile C L (· ∈ L) E) (hL : L ≠ []) : 2 * (2 * n - (C ++ E).length) + (if keys E = [] then 0 else 1) < 2 * (2 * n - C.length) + (if L = [] then 0 else 1) := by
  have h1 := i.len
  rw [if_neg hL]
  rw [List.length_append] at h1 ⊢
  cases E with
  | nil => simp [keys]
  | cons e r =>
    have : keys (e :: r) ≠ [] := by simp [keys]
    rw [if_neg this]
    simp only [List.length_cons] at h1 ⊢
    omega
structure RoadOf (pile : List Say) (a b : Int) (P : List Int) : Prop where
  ch : Chain pile P
  hd : P.head? = some a
  lt : P.getLast? = some b
  di : ∃ d, Dst pile a b d ∧ P.length = d + 1
structure TInv (pile : List Say) (a b : Int) (d : Nat) (T : List Int) (x : Int) (k : Nat) : Prop where
  dx : Dst pile a x k
  len : T.length + k = d
  ch : Chain pile (x :: T.reverse)
  lt : (x :: T.reverse).getLast? = some b
theorem TInv.start {pile : List Say} {a b : Int} {d : Nat} (h : Dst pile a b d) : TInv pile a b d [] b d := ⟨h, by simp, trivial, rfl⟩
theorem TInv.step {pile : List Say} {a b p x : Int} {d k : Nat} {T : List Int} (t : TInv pile a b d T x (k + 1)) (s : Step pile p x) (dp : Dst pile a p k) : TInv pile a b d (T ++ [x]) p k where
  dx := dp
  len := by rw [List.length_append, List.length_singleton]; have := t.len; omega
  ch := by rw [List.reverse_append]; exact ⟨s, t.ch⟩
  lt := by
    rw [List.reverse_append]
    show (p :: x :: T.reverse).getLast? = some b
    rw [List.getLast?_cons_cons]
    exact t.lt
theorem TInv.done {pile : List Say} {a b x : Int} {d : Nat} {T : List Int} (t : TInv pile a b d T x 0) (h : Dst pile a b d) : RoadOf pile a b (T ++ [x]).reverse := by
  have e : (T ++ [x]).reverse = x :: T.reverse := by rw [List.reverse_append]; rfl
  rw [e]
  refine ⟨t.ch, ?_, t.lt, d, h, ?_⟩
  · rw [t.dx.zero_eq]; rfl
  · rw [List.length_cons, List.length_reverse]; have := t.len; omega
end EB
namespace EB
open PySem L2
theorem ints_get {L : List Int} {i : Nat} {x : V} (h : (L.map V.int)[i]? = some x) : ∃ p, x = .int p ∧ L[i]? = some p := by
  rw [List.getElem?_map] at h
  cases e : L[i]? with
  | none => rw [e] at h; cases h
  | some p => rw [e] at h; cases h; exact ⟨p, rfl, rfl⟩
theorem SInv.path {n : Nat} {pile : List Say} {a : Int} {k : Nat} {C : CF} {L : List Int} (s : SInv n pile a k C L) : ∀ (d : Nat) (x : Int), Dst pile a x d → x ∈ keys C → ∃ l : List Int, l.Nodup ∧ l.length = d + 1 ∧ (∀ z ∈ l, z ∈ keys C) ∧ ∀ z ∈ l, ∃ j, j ≤ d ∧ Dst pile a z j
  | 0, x, hd, hx => ⟨[x], by simp, rfl, by simpa using hx, fun z hz => ⟨0, Nat.le_refl _, by rw [List.mem_singleton] at hz; subst hz; exact hd⟩⟩
  | d + 1, x, hd, hx => by
    obtain ⟨p, hp, st⟩ := hd.pred
    have hpk : p ∈ keys C := by
      obtain ⟨m, hm, w⟩ := (s.li.seen x).mp hx
      have := hd.2 m w
      exact (s.li.seen p).mpr ⟨d, by omega, hp.1⟩
    obtain ⟨l, h1, h2, h3, h4⟩ := s.path d p hp hpk
    refine ⟨x :: l, List.nodup_cons.mpr ⟨fun hm => ?_, h1⟩, by rw [List.length_cons, h2], fun z hz => ?_, fun z hz => ?_⟩
    · obtain ⟨j, hj, dj⟩ := h4 x hm
      have := dj.uniq hd
      omega
    · rcases List.mem_cons.mp hz with rfl | hz
      · exact hx
      · exact h3 z hz
    · rcases List.mem_cons.mp hz with rfl | hz
      · exact ⟨d + 1, Nat.le_refl _, hd⟩
      · obtain ⟨j, hj, dj⟩ := h4 z hz
        exact ⟨j, by omega, dj⟩
theorem dst_bound {n : Nat} {pile : List Say} {a b : Int} {k d : Nat} {C : CF} {L : List Int} (s : SInv n pile a k C L) (hd : Dst pile a b d) (hb : b ∈ keys C) : d ≤ 2 * n := by
  obtain ⟨l, h1, h2, h3, _⟩ := s.path d b hd hb
  have := lits_le h1 fun z hz => s.lit z (h3 z hz)
  omega
end EB
namespace EB
open PySem L2
theorem shaped_say (c : Say) : SeqAt.shaped (dSay c) = true := by
  refine shaped_of ?_ ?_
  · unfold dSay; simp only [PyData.canLay0, PyData.canLayAll0, Bool.and_self]
  · unfold dSay; simp [PyData.depth, PyData.depthAll]
end EB
namespace EB
open PySem L2
theorem seq_c {v : V} {g : TG} {u : TS} {D : Ends} {σ : St} {H : Hp} (h : g v σ H (u D)) : tSeq (tAsg (tC v) g) u D σ H := h
end EB
namespace EB
open PySem L2
theorem at_head {P : List Int} {x : Int} (h : P.head? = some x) : atI (P.map V.int) 0 = some (V.int x) := by
  cases P with
  | nil => cases h
  | cons y r =>
    simp at h
    subst h
    exact atI_nat (j := 0) rfl
theorem at_tail {P : List Int} {y : Int} (h : P.getLast? = some y) : atI (P.map V.int) (-1) = some (V.int y) := by
  obtain ⟨r, rfl⟩ : ∃ r, P = r ++ [y] := by
    have hne : P ≠ [] := fun z => by rw [z] at h; simp at h
    refine ⟨P.dropLast, ?_⟩
    rw [List.getLast?_eq_getLast hne] at h
    have h' := Option.some.inj h
    rw [← h']
    exact (List.dropLast_concat_getLast hne).symm
  rw [List.map_append]
  exact atI_last _ _
theorem chain_lit {n : Nat} {pile : List Say} (ok : PileOk n pile) : ∀ {P : List Int}, Chain pile P → (∀ x, P.head? = some x → Lit n x) → ∀ z ∈ P, Lit n z
  | [], _, _, z, h => nomatch h
  | [x], _, hx, z, h => by rw [List.mem_singleton] at h; subst h; exact hx z rfl
  | x :: y :: r, c, hx, z, h => by
    rcases List.mem_cons.mp h with rfl | h
    · exact hx z rfl
    · exact chain_lit ok c.2 (fun w hw => by simp at hw; subst hw; exact (c.1.lit ok).2) z h
theorem road_lit {n : Nat} {pile : List Say} (ok : PileOk n pile) {a b : Int} (ha : Lit n a) {P : List Int} (r : RoadOf pile a b P) : ∀ z ∈ P, Lit n z :=
  chain_lit ok r.ch fun x hx => by rw [r.hd] at hx; cases hx; exact ha
theorem dst_list {n : Nat} {pile : List Say} (ok : PileOk n pile) {a : Int} (ha : Lit n a) : ∀ (d : Nat) (x : Int), Dst pile a x d → ∃ l : List Int, l.Nodup ∧ l.length = d + 1 ∧ (∀ z ∈ l, Lit n z) ∧ ∀ z ∈ l, ∃ j, j ≤ d ∧ Dst pile a z j
  | 0, x, hd => ⟨[x], by simp, rfl, (fun z hz => by rw [List.mem_singleton] at hz; subst hz; exact hd.1.reach.lit ok ha), fun z hz => ⟨0, Nat.le_refl _, by rw [List.mem_singleton] at hz; subst hz; exact hd⟩⟩
  | d + 1, x, hd => by
    obtain ⟨p, hp, st⟩ := hd.pred
    obtain ⟨l, h1, h2, h3, h4⟩ := dst_list ok ha d p hp
    refine ⟨x :: l, List.nodup_cons.mpr ⟨fun hm => ?_, h1⟩, by rw [List.length_cons, h2], fun z hz => ?_, fun z hz => ?_⟩
    · obtain ⟨j, hj, dj⟩ := h4 x hm
      have := dj.uniq hd
      omega
    · rcases List.mem_cons.mp hz with rfl | hz
      · exact hd.1.reach.lit ok ha
      · exact h3 z hz
    · rcases List.mem_cons.mp hz with rfl | hz
      · exact ⟨d + 1, Nat.le_refl _, hd⟩
      · obtain ⟨j, hj, dj⟩ := h4 z hz
        exact ⟨j, by omega, dj⟩
theorem road_short {n : Nat} {pile : List Say} (ok : PileOk n pile) {a b : Int} {d : Nat} (ha : Lit n a) (hd : Dst pile a b d) : d + 1 ≤ 2 * n := by
  obtain ⟨l, h1, h2, h3, _⟩ := dst_list ok ha d b hd
  have := lits_le h1 h3
  omega
end EB
namespace L2
open PySem PySem.Spec PyProof.Rows
theorem call_dict_of {X : Cx} : CallR X (.type "dict") (fun xs H Q => ∃ (a : Addr) (kvs : List (Key × V)), xs = [.ref a] ∧ H a = some (.dK kvs) ∧ ∀ p, H p = none → Q (.ref p) (upd H p (.dK kvs))) := by
  intro pins s σ H xs us Q I r h
  obtain ⟨a, kvs, rfl, ha, q⟩ := h
  obtain ⟨u, rfl, ru⟩ := vals1 r
  cases (show u = Value.ref a from ru)
  exact d_copyOf I (.inl ha) fun p s' hp I' => ⟨.ref p, _, I', rfl, q p hp⟩
end L2
namespace EB
open PySem L2
noncomputable def dkT (F : List Int) : List (Key × V) := F.map fun x => ((Sum.inl x : Key), V.bl true)
theorem dkT_len (F : List Int) : (dkT F).length = F.length := List.length_map _
theorem dkT_val (x : Int) : ∀ F : List Int, valV (dkT F) (Sum.inl x : Key) = if x ∈ F then some (.bl true) else none
  | [] => by simp [dkT, valV]
  | y :: r => by
    show valV (((Sum.inl y : Key), V.bl true) :: dkT r) (Sum.inl x) = _
    by_cases e : y = x
    · subst e
      rw [valV_pos rfl, if_pos List.mem_cons_self]
    · rw [valV_neg (fun z => e (Sum.inl.inj z)), dkT_val x r]
      by_cases h : x ∈ r
      · rw [if_pos h, if_pos (List.mem_cons_of_mem _ h)]
      · rw [if_neg h, if_neg (fun z => (List.mem_cons.mp z).elim (fun w => e w.symm) h)]
theorem dkT_isSome (x : Int) (F : List Int) : (valV (dkT F) (Sum.inl x : Key)).isSome = decide (x ∈ F) := by
  rw [dkT_val]
  by_cases h : x ∈ F
  · rw [if_pos h, decide_eq_true h]; rfl
  · rw [if_neg h, decide_eq_false h]; rfl
theorem dkT_put {F : List Int} {x : Int} (h : x ∉ F) : putK (dkT F) (Sum.inl x : Key) (.bl true) = dkT (F ++ [x]) := by
  rw [putK_new _ (by rw [dkT_val, if_neg h])]
  unfold dkT
  rw [List.map_append]
  rfl
theorem GInv.wlen {n : Nat} {pile : List Say} {known lits F W : List Int} (g : GInv n pile known lits F W) : W.length ≤ 2 * n * (2 * n + 1) + lits.length := by have := g.bd; omega
theorem GInv.flen' {n : Nat} {pile : List Say} {known lits F W : List Int} (g : GInv n pile known lits F W) : F.length ≤ 2 * n := lits_le g.nd g.lf
end EB
namespace EB
open PySem L2
theorem bools_get {L : List Bool} {i : Nat} {x : V} (h : (L.map V.bl)[i]? = some x) : ∃ p, x = .bl p := by
  rw [List.getElem?_map] at h
  cases e : L[i]? with
  | none => rw [e] at h; cases h
  | some p => rw [e] at h; cases h; exact ⟨p, rfl⟩
end EB
namespace EB
open PySem L2
mutual
theorem eqv_self : ∀ d : PyData, d.canLay0 = true → PyData.eqv d d = true
  | .none, _ => by simp [PyData.eqv]
  | .bool b, _ => by simp [PyData.eqv]
  | .int i, _ => by simp [PyData.eqv]
  | .str x, _ => by simp [PyData.eqv]
  | .list xs, h => by simp only [PyData.eqv]; exact eqvAll_self xs (by simpa [PyData.canLay0] using h)
  | .tuple xs, h => by simp only [PyData.eqv]; exact eqvAll_self xs (by simpa [PyData.canLay0] using h)
  | .dict _, h => by simp [PyData.canLay0] at h
theorem eqvAll_self : ∀ xs : List PyData, PyData.canLayAll0 xs = true → PyData.eqvAll xs xs = true
  | [], _ => by simp [PyData.eqvAll]
  | x :: r, h => by
    have h' : x.canLay0 = true ∧ PyData.canLayAll0 r = true := by simpa [PyData.canLayAll0] using h
    simp only [PyData.eqvAll, eqv_self x h'.1, eqvAll_self r h'.2, Bool.and_self]
end
theorem ne_self {d : PyData} (h : SeqAt.shaped d = true) : (if true = true then !PyData.eqv d d else PyData.eqv d d) = false := by
  rw [eqv_self d (SeqAt.canLay_of_shaped h)]
  rfl
end EB
namespace EB
open PySem L2
theorem first_len {n : Nat} {pile : List Say} {wishes : List Int} {S : List Bool} (h : First n pile wishes (some S)) : S.length = n := by
  obtain ⟨K, _, rfl⟩ := h
  exact setOf_len n K
end EB
namespace EB
open PySem L2
end EB
namespace L2
open PySem PySem.Spec PyProof.Rows
end L2
namespace EB
open PySem L2
theorem chain_app {pile : List Say} : ∀ {P Q : List Int} {v : Int}, Chain pile P → P.getLast? = some v → Chain pile (v :: Q) → Chain pile (P ++ Q)
  | [], _, _, _, h, _ => by simp at h
  | [x], Q, v, _, h, c => by
    simp at h
    subst h
    exact c
  | x :: y :: r, Q, v, c, h, d => ⟨c.1, chain_app (P := y :: r) c.2 (by rw [List.getLast?_cons_cons] at h; exact h) d⟩
structure RingOf (n : Nat) (pile : List Say) (R : List Int) : Prop where
  ch : Chain pile R
  lit : ∀ x ∈ R, Lit n x
  ends : ∃ v : Nat, 1 ≤ v ∧ v ≤ n ∧ Knot pile (v : Int) ∧ R.head? = some (v : Int) ∧ R.getLast? = some (v : Int) ∧ (v : Int) ∈ R ∧ -(v : Int) ∈ R
  len : R.length ≤ 4 * n + 2
theorem ring_of {n : Nat} {pile : List Say} (ok : PileOk n pile) {v : Nat} (h1 : 1 ≤ v) (h2 : v ≤ n) {P Q : List Int} (r1 : RoadOf pile (v : Int) (-(v : Int)) P) (r2 : RoadOf pile (-(v : Int)) (v : Int) Q) : RingOf n pile (P ++ Q.drop 1) := by
  have lv : Lit n (v : Int) := lit_nat h1 h2
  obtain ⟨d1, e1, len1⟩ := r1.di
  obtain ⟨d2, e2, len2⟩ := r2.di
  have s1 := road_short ok lv e1
  have s2 := road_short ok lv.neg e2
  have hP : P ≠ [] := fun z => by rw [z] at len1; simp at len1
  have hlast := r1.lt
  cases Q with
  | nil => simp at len2
  | cons q Q' =>
    have hq : q = -(v : Int) := by have := r2.hd; simpa using this
    subst hq
    show RingOf n pile (P ++ Q')
    have hQ' : Q' ≠ [] := fun z => by
      rw [z] at len2
      have : d2 = 0 := by simpa using len2.symm
      subst this
      have := e2.zero_eq
      omega
    have lastQ : Q'.getLast? = some (v : Int) := by
      have := r2.lt
      obtain ⟨y, r, rfl⟩ := List.exists_cons_of_ne_nil hQ'
      rwa [List.getLast?_cons_cons] at this
    have hm1 : (v : Int) ∈ P := List.mem_of_head? r1.hd
    have hm2 : -(v : Int) ∈ P := List.mem_of_getLast? hlast
    refine ⟨chain_app r1.ch hlast r2.ch, fun x hx => ?_, ⟨v, h1, h2, ⟨e1.1.reach, e2.1.reach⟩, ?_, ?_, List.mem_append_left _ hm1, List.mem_append_left _ hm2⟩, ?_⟩
    · rcases List.mem_append.mp hx with hx | hx
      · exact road_lit ok lv r1 x hx
      · exact road_lit ok lv.neg r2 x (List.mem_cons_of_mem _ hx)
    · rw [List.head?_append, r1.hd]; rfl
    · rw [List.getLast?_append, lastQ]; rfl
    · rw [List.length_append]
      rw [List.length_cons] at len2
      omega
theorem torn_nil {pile : List Say} : ¬ Torn pile (· ∈ ([] : List Int)) := fun ⟨_, ⟨_, h, _⟩, _⟩ => nomatch h
end EB
namespace EB
open PySem L2
theorem ix_listK {X : Cx} {K : PySem.W.Frag} (h : X.K = K) : IxR X (rIxL K) := h ▸ ix_list
structure CInv (n : Nat) (pile : List Say) (W F : List Int) (k : Nat) : Prop where
  ex : ∃ E, F = W ++ E ∧ E.Nodup ∧ ∀ x ∈ E, Lit n x
  fr : ∀ x ∈ F, RS pile (· ∈ W) x
  dn : ∀ p ∈ F.take k, ∀ z, Step pile p z → z ∈ F
theorem CInv.start (n : Nat) (pile : List Say) (W : List Int) : CInv n pile W W 0 where
  ex := ⟨[], by simp, List.nodup_nil, (fun x h => nomatch h)⟩
  fr := fun x h => RS.of h
  dn := fun p h => by simp at h
theorem CInv.len {n : Nat} {pile : List Say} {W F : List Int} {k : Nat} (c : CInv n pile W F k) : F.length ≤ W.length + 2 * n := by
  obtain ⟨E, rfl, nd, lt⟩ := c.ex
  have := lits_le nd lt
  rw [List.length_append]
  omega
theorem CInv.add {n : Nat} {pile : List Say} {W F : List Int} {k : Nat} {p z : Int} (c : CInv n pile W F k) (hk : k ≤ F.length) (hp : p ∈ F) (st : Step pile p z) (lz : Lit n z) (hz : z ∉ F) : CInv n pile W (F ++ [z]) k where
  ex := by
    obtain ⟨E, rfl, nd, lt⟩ := c.ex
    refine ⟨E ++ [z], by rw [List.append_assoc], ?_, fun x hx => ?_⟩
    · rw [List.nodup_append]
      refine ⟨nd, by simp, fun a ha b hb e => ?_⟩
      rw [List.mem_singleton] at hb
      subst hb; subst e
      exact hz (List.mem_append_right _ ha)
    · rcases List.mem_append.mp hx with hx | hx
      · exact lt x hx
      · rw [List.mem_singleton] at hx; subst hx; exact lz
  fr := fun x hx => by
    rcases List.mem_append.mp hx with hx | hx
    · exact c.fr x hx
    · rw [List.mem_singleton] at hx; subst hx; exact (c.fr p hp).step st
  dn := fun q hq y hy => by
    rw [List.take_append_of_le_length hk] at hq
    exact List.mem_append_left _ (c.dn q hq y hy)
theorem CInv.next {n : Nat} {pile : List Say} {W F : List Int} {k : Nat} {p : Int} (c : CInv n pile W F k) (hp : F[k]? = some p) (h : ∀ z, Step pile p z → z ∈ F) : CInv n pile W F (k + 1) where
  ex := c.ex
  fr := c.fr
  dn := fun q hq y hy => by
    rw [take_snoc hp] at hq
    rcases List.mem_append.mp hq with hq | hq
    · exact c.dn q hq y hy
    · rw [List.mem_singleton] at hq; subst hq; exact h y hy
theorem CInv.done {n : Nat} {pile : List Say} {W F : List Int} {k : Nat} (c : CInv n pile W F k) (hk : F.length ≤ k) (x : Int) : x ∈ F ↔ RS pile (· ∈ W) x := by
  refine ⟨c.fr x, fun ⟨l, hl, r⟩ => ?_⟩
  obtain ⟨E, e, _, _⟩ := c.ex
  have d := c.dn
  rw [List.take_of_length_le hk] at d
  induction r with
  | refl => rw [e]; exact List.mem_append_left _ hl
  | tail r s ih => exact d _ (ih ⟨l, hl, r⟩) _ s
theorem at_get {F : List Int} {k : Nat} {p : Int} (h : F[k]? = some p) : atI (F.map V.int) (k : Int) = some (.int p) := by
  have hk : k < F.length := (List.getElem?_eq_some_iff.mp h).1
  have := at_int (ns := F) (k := (k : Int)) (by omega) (by rw [List.length_map]; omega)
  rw [this]
  have : (k : Int).toNat = k := by omega
  rw [this, List.getD_eq_getElem?_getD, h]
  rfl
theorem torn_iff {pile : List Say} {W F : List Int} (h : ∀ x, x ∈ F ↔ RS pile (· ∈ W) x) : (∃ x ∈ F, -x ∈ F) ↔ Torn pile (· ∈ W) :=
  ⟨fun ⟨x, a, b⟩ => ⟨x, (h x).mp a, (h _).mp b⟩, fun ⟨x, a, b⟩ => ⟨x, (h x).mpr a, (h _).mpr b⟩⟩
noncomputable def litsOf (bs : List Bool) (c : Nat) : List Int := (List.range c).map fun (k : Nat) => if bs.getD k false = true then (k : Int) + 1 else -((k : Int) + 1)
theorem litsOf_len (bs : List Bool) (c : Nat) : (litsOf bs c).length = c := by unfold litsOf; simp
theorem litsOf_mem {n : Nat} {K : List Int} (co : ∀ x ∈ K, -x ∉ K) {v c : Nat} {l : Int} (hc : c ≤ n) (h1 : l ∈ K) (h0 : l ≠ 0) (h2 : l.natAbs ≤ c) : l ∈ litsOf (setOf n K) c := by
  unfold litsOf
  refine List.mem_map.mpr ⟨l.natAbs - 1, List.mem_range.mpr (by omega), ?_⟩
  rw [setOf_get (v := l.natAbs) (by omega) (by omega)]
  by_cases hp : 0 < l
  · have e : ((l.natAbs : Nat) : Int) = l := by omega
    rw [e, decide_eq_true h1, if_pos rfl]
    omega
  · have e : ((l.natAbs : Nat) : Int) = -l := by omega
    rw [e, decide_eq_false (co l h1), if_neg (by decide)]
    omega
theorem ahead_torn {n : Nat} {pile : List Say} {ws K : List Int} (f : FInv n pile ws n K) {v : Nat} (h1 : 1 ≤ v) (h2 : v ≤ n) (h : (setOf n K).getD (v - 1) false = true) : Torn pile (· ∈ (ws ++ litsOf (setOf n K) (v - 1)) ++ [-(v : Int)]) := by
  rw [setOf_get h1 h2] at h
  refine (f.on v h1 h2 (of_decide_eq_true h)).mono fun l hl => ?_
  rcases hl with hl | ⟨a, b⟩ | rfl
  · exact List.mem_append_left _ (List.mem_append_left _ hl)
  · exact List.mem_append_left _ (List.mem_append_right _ (litsOf_mem (v := v) f.cl.co (by omega) a (f.lk l a).ne0 (by omega)))
  · exact List.mem_append_right _ (List.mem_singleton.mpr rfl)
noncomputable def RchI (n : Nat) (pile : List Say) (W : List Int) (l w lf : Addr) (H : Hp) (m : Nat) (σ : St) (H2 : Hp) : Prop :=
  ∃ (k : Nat) (F : List Int) (v : Option V), m = W.length + 2 * n - k ∧ CInv n pile W F k ∧ k ≤ F.length ∧ σ = [some (.ref l), some (.ref w), some (.ref lf), some (.int (k : Int)), v] ∧ Same H H2 ∧ H2 lf = some (.lst (F.map V.int))
end EB
namespace L2
open PySem PySem.Spec PyProof.Rows
section
variable {X : Cx} {tg : Expr}
end
end L2
namespace PySem
open Sem (wp)
open AutoSeq1 (wpAny_loadPart')
namespace F
end F
section
variable {prog : Program} {w : World} {A : Around} {E : Value → Shared → Prop} {s : Shared}
end
end PySem
namespace L2
open PySem PySem.Spec PyProof.Rows
section
variable {X : Cx} {pins : List (Addr × Obj)} {σ : List (Option V)} {H H' : Hp} {s : Shared} {h' : Heap}
end
section
variable {X : Cx}
end
end L2
namespace EB
open PySem L2
end EB
namespace L2
open PySem PySem.Spec PyProof.Rows PySem.SeqAt
variable {X : Cx}
end L2
namespace EB
open PySem L2
theorem eq_self_bl {d : PyData} (h : SeqAt.shaped d = true) : V.bl (if false = true then !PyData.eqv d d else PyData.eqv d d) = .bl true := by
  have := ne_self h
  rw [if_pos rfl] at this
  rw [if_neg (by decide)]
  cases e : PyData.eqv d d with
  | true => rfl
  | false => rw [e] at this; cases this
end EB
namespace L2
open PySem PySem.Spec PyProof.Rows
section
variable {X : Cx} {scope : Scope} {cl : List (Str × Addr)} {N' : List Str} {mv : List (Option Nat)} {pos : Pos}
end
end L2
namespace EB
open PySem L2
noncomputable def Ends2 (c : Say) (s g : Int) : Prop := (s = -c.1 ∨ s = -c.2) ∧ (g = c.1 ∨ g = c.2)
noncomputable def NoKnot (n : Nat) (pile : List Say) : Prop := ∀ v : Nat, 1 ≤ v → v ≤ n → ¬ Knot pile (v : Int)
theorem torn_road {pile : List Say} {c : Say} (t : Torn pile (· ∈ [-c.1, -c.2])) : ∃ s g, Ends2 c s g ∧ Reach pile s g := by
  obtain ⟨x, ⟨l, a, b⟩, ⟨k, a2, b2⟩⟩ := t
  have h := b2.flip
  rw [Int.neg_neg] at h
  have ha : l = -c.1 ∨ l = -c.2 := by simpa using a
  have hk : k = -c.1 ∨ k = -c.2 := by simpa using a2
  exact ⟨l, -k, ⟨ha, by omega⟩, b.trans h⟩
theorem road_of_none {n : Nat} {pile : List Say} {c : Say} (h : First n pile [-c.1, -c.2] none) (nk : NoKnot n pile) : ∃ s g, Ends2 c s g ∧ Reach pile s g := by
  rcases h with t | ⟨v, h1, h2, k⟩
  · exact torn_road t
  · exact absurd k (nk v h1 h2)
theorem first_some_good {n : Nat} {pile : List Say} {ws : List Int} {S : List Bool} (ok : PileOk n pile) (h : First n pile ws (some S)) : goodB pile S = true ∧ ∀ x ∈ ws, tru S x = true := by
  obtain ⟨K, f, rfl⟩ := h
  exact ⟨finv_good ok f, fun x hx => finv_wish f hx⟩
theorem first_some_noknot {n : Nat} {pile : List Say} {ws : List Int} {S : List Bool} (ok : PileOk n pile) (h : First n pile ws (some S)) : NoKnot n pile := fun v h1 h2 k =>
  knot_no ok (lit_nat h1 h2) k (first_some_good ok h).1
theorem lits2 {n : Nat} {c : Say} (h1 : Lit n c.1) (h2 : Lit n c.2) : ∀ x ∈ ([-c.1, -c.2] : List Int), Lit n x := fun x hx => by
  have : x = -c.1 ∨ x = -c.2 := by simpa using hx
  rcases this with rfl | rfl
  · exact h1.neg
  · exact h2.neg
end EB
namespace L2
open PySem PySem.Spec PyProof.Rows
section
variable {X : Cx}
end
end L2
namespace EB
open PySem L2
end EB
namespace EB
open PySem L2
end EB
namespace L2
open PySem PySem.Spec PyProof.Rows
section
variable {X : Cx} {e v1 v2 : Expr} {es : List Expr} {te : TE} {pos : Pos}
noncomputable def tFmt (ta : TE) : TE := fun σ H Q => ta σ H fun x H1 => (∃ i : Int, x = .int i ∧ i.natAbs.log2 < 1920 ∧ Q (.str (toString i)) H1) ∨ ∃ z, x = .str z ∧ z.length ≤ sizeLine ∧ Q (.str z) H1
theorem pe_fmt (ha : PE X e te) : PE X (.FormattedValue e (-1) none pos) (tFmt te) := by
  intro pins s σ H Q I h
  refine FormattedValue_plain (thn (ha pins s σ H _ I h) fun u s1 ⟨x, H1, I1, r, q⟩ => ?_)
  rcases q with ⟨i, rfl, hd, q⟩ | ⟨z, rfl, hz, q⟩
  · obtain ⟨t, rfl⟩ := r
    exact wpAny_formatField_int hd ⟨.str _, H1, I1.tok _, ⟨_, rfl⟩, q⟩
  · obtain ⟨t, rfl⟩ := r
    exact formatField_str (fun t' tk => ⟨.str z, H1, I1.tok _, ⟨_, rfl⟩, q⟩) hz
noncomputable def PJ (X : Cx) (es : List Expr) (t : Str → TE) : Prop :=
  ∀ (out : Str) (pins : List (Addr × Obj)) (s : Shared) (σ : St) (H : Hp) (Q : VK), Inv X pins σ H s → t out σ H Q → wpAny (model X.prog X.w) X.A (joinParts out (evalEach es X.env)) (EP X pins σ Q) X.xe s
noncomputable def jNil : Str → TE := fun out _ H Q => out.length ≤ sizeLine ∧ Q (.str out) H
noncomputable def jCons (te : TE) (t : Str → TE) : Str → TE := fun out σ H Q => te σ H fun x H1 => ∃ y, x = .str y ∧ (out ++ y).length ≤ sizeLine ∧ t (out ++ y) σ H1 Q
theorem pj_nil : PJ X [] jNil := fun out pins s σ H Q I h => joinParts_nil ⟨.str out, H, I.tok _, ⟨_, rfl⟩, h.2⟩ h.1
theorem pj_cons {t : Str → TE} (he : PE X e te) (hr : PJ X es t) (hs : evalEach (e :: es) X.env = eval e X.env :: evalEach es X.env := by rfl) : PJ X (e :: es) (jCons te t) := by
  intro out pins s σ H Q I h
  rw [hs]
  refine joinParts_cons (thn (he pins s σ H _ I h) fun u s1 ⟨x, H1, I1, r, y, ex, hz, q⟩ => ?_)
  subst ex
  obtain ⟨tk, rfl⟩ := r
  exact ⟨hz, hr _ pins s1 σ H1 Q I1 q⟩
theorem pe_text {t : Str → TE} (h : PJ X (v1 :: v2 :: es) t) (hs : evalEach (v1 :: v2 :: es) X.env = eval v1 X.env :: eval v2 X.env :: evalEach es X.env := by rfl) : PE X (.JoinedStr (v1 :: v2 :: es) pos) (t Str.empty) := by
  intro pins s σ H Q I hq
  refine JoinedStr_many ?_
  rw [← hs]
  exact h _ pins s σ H Q I hq
end
end L2
namespace EB
open PySem L2
end EB
namespace EB
open PySem L2
end EB
namespace EB
open PySem L2
end EB
namespace PySem.W
open PySem PySem.Spec PySem.Calls PyProof.Rows
section
variable {prog : Program} {w : World} {A : Around} {E : Value → Shared → Prop} {s : Shared} {K : Frag} {x C : Addr} {ox : Obj}
noncomputable def OfCls (h : Heap) (x C : Addr) : Prop := ∃ o, h.get? x = some o ∧ o.cls = .ref C
theorem OfCls.type {M : Model} {h : Heap} (I : OfCls h x C) : Looks M h (typeOf (.ref x)) (.ref C) := by
  obtain ⟨o, e, c⟩ := I
  exact c ▸ (Looks.ld e).andThen .now
theorem xc_find {M : Model} {h : Heap} (X : K.In h) (ha : findIn K (.ref C) "__class__" = some (some (.builtin "object.__class__"))) (hn : specialIn K (.builtin "object.__class__") "__get__" = some (some (.builtin "getset_descriptor.__get__"))) (htk : takesIn K (.builtin "object.__class__") = some true) :
    Looks M h (Builtin.ObjectAttr.find (.ref x) (.ref C) "__class__") (.bind (.builtin "getset_descriptor.__get__") (.builtin "object.__class__")) := by
  refine (looks_findIn X ha).andThen ((looks_specialIn X hn).andThen ?_)
  have L3 := looks_takesIn (M := M) X htk
  refine Looks.andThen (show Looks M h (Builtin.ObjectAttr.dataDescriptor? (some (.builtin "object.__class__")) (some (.builtin "getset_descriptor.__get__"))) (some (.builtin "getset_descriptor.__get__", .builtin "object.__class__")) from L3.andThen .now) ?_
  exact Looks.tag .now
theorem xc_get {R : Result → Shared → Prop} {tp : Value} (X : K.In s.heap) (I : OfCls s.heap x C) (hm : mroIn K C (.type "object") = some true) (h : R (.ok (.ret (.ref C))) s) :
    codeAny (model prog w) A (.call (.builtin "getset_descriptor.__get__") ⟨[.builtin "object.__class__", .ref x, tp], []⟩) R s := by
  obtain ⟨hp, gs, dw, tk, o5⟩ := s
  have L0 := I.type (M := model prog w)
  have L1 := looks_mroIn (M := model prog w) X hm
  refine codeAny_call_builtin KF.slot_gs.plain KF.entry_gs ?_
  refine KF.slot_gs.check _ _ _ _ _ _ _ _ KF.type_class (KF.args_gs _ _ _) ?_
  unfold Builtin.«getset_descriptor.__get__» Builtin.Getset_descriptor.descrGet
  rw [dga_obj]
  refine wpAny_bind (wpAny_pure ?_)
  unfold Builtin.Getset_descriptor.descrGetter Builtin.Getset_descriptor.descrCheckInstance Builtin.Getset_descriptor.descrNameAndClass isInstance; simp only [KF.owner_class]
  repeat lk
  refine ⟨Code.quiet_builtin _ (by decide +kernel), ?_⟩
  refine codeAny_builtin KF.entry_class ?_
  unfold Builtin.«object.__class__» shownTypeOf
  repeat lk
  exact h
theorem xc_class {Q : Option Value → Shared → Prop} (X : K.In s.heap) (I : OfCls s.heap x C) (hga : findIn K (.ref C) "__getattribute__" = some (some (.builtin "BaseException.__getattribute__"))) (hgt : findIn K (.ref C) "__getattr__" = some none)
    (ha : findIn K (.ref C) "__class__" = some (some (.builtin "object.__class__"))) (hn : specialIn K (.builtin "object.__class__") "__get__" = some (some (.builtin "getset_descriptor.__get__"))) (htk : takesIn K (.builtin "object.__class__") = some true)
    (hm : mroIn K C (.type "object") = some true) (hb : mroIn K C (.type "BaseException") = some true)
    (h : Q (some (.ref C)) { s with toks := s.toks + 1 }) : wpAny (model prog w) A (getAttr? (.ref x) "__class__") Q E s := by
  obtain ⟨hh, g, d, t, os⟩ := s
  have L0 := I.type (M := model prog w)
  have L1 := looks_findIn (M := model prog w) X hga
  have L2 := looks_hook (M := model prog w) (mc := .ref C) X (r := none) hgt
  have L3 := xc_find (M := model prog w) (x := x) X ha hn htk
  have L4 := looks_mroIn (M := model prog w) X hb
  unfold getAttr? getAttrBy? getAttrBy
  refine wpAny_bind (wpAny_mkText (wpAny_bind (wpAny_attempt (wpAny_holding (wpAny_bind (L0.at (wpAny_bind (L1.at ?_))))))))
  dsimp only
  rw [show (onTheHeap (Value.ref C) && Value.builtin "BaseException.__getattribute__" == Value.builtin "object.__getattribute__") = false by rw [show (Value.builtin "BaseException.__getattribute__" == Value.builtin "object.__getattribute__") = false by decide +kernel]; rfl]
  show wpAny _ _ (getAttrByItsOwn _ _ _ _ _ _) _ _ _
  unfold getAttrByItsOwn
  refine wpAny_bind (L2.at (wpAny_bind (wpAny_attempt (wpAny_holding ?_))))
  have hbd := F.excAttr_ValueError.ga.bind (.ref x)
  unfold callGetattribute boundAndCalled
  rw [show (false && onTheHeap (Value.builtin "BaseException.__getattribute__")) = false from rfl]
  dsimp only [Bool.false_eq_true, if_false]
  refine wpAny_bind (wpAny_of_eq hbd ?_)
  refine wpAny_call (codeAny_call_builtin F.excAttr_ValueError.ga.plain F.entry_bexc_ga ?_)
  have hk : builtinKind "BaseException.__getattribute__" = some .slot := by kernel_rfl
  have hsp : splitId "BaseException.__getattribute__" = some ("BaseException", "__getattribute__") := by kernel_rfl
  have hargs := F.args_bexc_ga (.ref x) (.str "__class__" t)
  simp only [checkBuiltinCall, hk, hsp]
  refine wpAny_bind ?_
  unfold isInstance
  refine wpAny_bind (L0.at (L4.at ?_))
  rw [if_neg (by decide)]
  refine wpAny_of_eq hargs ?_
  show wpAny _ _ (Builtin.«object.__getattribute__» ⟨[.ref x, .str "__class__" t], []⟩) _ _ _
  unfold Builtin.«object.__getattribute__»
  refine wpAny_bind (wpAny_pure (wpAny_bind (wpAny_pure (wpAny_bind (L0.at (wpAny_bind (L3.at ?_)))))))
  show wpAny _ _ (do ret (← holding [Value.builtin "object.__class__"] (call (.builtin "getset_descriptor.__get__") [.builtin "object.__class__", .ref x, .ref C]))) _ _ _
  refine wpAny_bind (wpAny_holding (wpAny_call (xc_get (s := ⟨hh, g, d, t + 1, os⟩) X I hm ?_)))
  refine wpAny_pure ?_
  exact handed_on rfl (wpAny_pure h)
theorem kitx_exc (hc : hasDictIn K C = true) (hga : findIn K (.ref C) "__getattribute__" = some (some (.builtin "BaseException.__getattribute__"))) (hgt : findIn K (.ref C) "__getattr__" = some none)
    (ha : findIn K (.ref C) "__class__" = some (some (.builtin "object.__class__"))) (hn : specialIn K (.builtin "object.__class__") "__get__" = some (some (.builtin "getset_descriptor.__get__"))) (htk : takesIn K (.builtin "object.__class__") = some true)
    (hm : mroIn K C (.type "object") = some true) (hb : mroIn K C (.type "BaseException") = some true) :
    KitX K (.ref x) (.ref C) (fun h => OfCls h x C) where
  ty := fun _ _ _ I => I.type
  it := fun M h X _ => by
    obtain ⟨cd, e, _⟩ := any_some hc
    unfold clsIn at e
    split at e
    · rename_i ho
      intro A' Q' E' s' kk qq
      unfold isType loadHead
      exact wpAny_bind (wpAny_loadPart (kk _ _ (X _ _ ho)) (wpAny_pure qq))
    · cases e
  ne := fun h tp dd its n sl X htp => by
    obtain ⟨cd, e, _⟩ := any_some hc
    refine Bool.eq_false_iff.mpr fun qq => ?_
    obtain rfl : C = tp := Value.ref.inj (beq_iff_eq.mp qq)
    unfold clsIn at e
    split at e
    · rename_i ho
      have zz := (X _ _ ho).symm.trans htp
      cases zz
    · cases e
  ca := fun X I kk => xc_class X I hga hgt ha hn htk hm hb kk
def vMro : List Value := [.type "ValueError", .type "Exception", .type "BaseException", .type "object"]
theorem exc_obj {h : Heap} (X : K.In h) (q : excIn K C vMro "ValueError.__new__" = true) : ∃ nm qn N bs bm hd sn sub ab col dd k0 k1 k2 k3 k5 mN, h.get? C = some (excClassObj nm qn C N bs bm hd sn sub ab col dd k0 k1 k2 k3 k5 "ValueError.__new__") ∧ h.Ns N mN ∧ mN "__init__" = none ∧ OwnTail h vMro bm ∧
    ∀ D, mroIn K C (.ref D) = some ((Value.ref C :: bm).contains (.ref D)) := by
  unfold excIn at q
  split at q
  case h_2 => cases q
  case h_1 dd cd sl look =>
    split at q
    case h_2 => cases q
    case h_1 C' bm a0 a1 a2 a3 n a5 mro slots =>
      simp only [Bool.and_eq_true, beq_iff_eq, Bool.not_eq_true'] at q
      obtain ⟨⟨⟨⟨⟨eC, en⟩, del⟩, tl⟩, nok⟩, nin⟩ := q
      subst eC en
      have look' := X _ _ look
      have hsub : ∀ D, mroIn K C' (.ref D) = some ((Value.ref C' :: bm).contains (.ref D)) := fun D => by
        unfold mroIn clsIn
        rw [look]
        show (if cd.mro.isEmpty then none else some (cd.mro.contains (Value.ref D))) = _
        rw [mro]
        rfl
      obtain ⟨c1, c2, c3, c4, c5, c6, c7, c8, c9, c10, c11⟩ := cd
      dsimp only at mro del nok nin look'
      subst mro del
      obtain ⟨ls⟩ := sl
      dsimp only at slots
      subst slots
      exact ⟨c1, c5, c4, c2, bm, c6, c7, c8, c9, c10, dd, a0, a1, a2, a3, a5, _, look', .of_isNs (isNs_of_in X nok), nsMap_none_of_in X nok nin, tail_of_in X tl, hsub⟩
theorem xc_matches {D : Addr} {oe : Obj} {Q : Bool → Shared → Prop} (X : K.In s.heap) (qC : excIn K C vMro "ValueError.__new__" = true) (qD : excIn K D vMro "ValueError.__new__" = true) (hs : mroIn K C (.ref D) = some true) (he : s.heap.get? x = some oe) (hcls : oe.cls = .ref C)
    (hq : Q true s) : wpAny (model prog w) A (excMatches (.ref x) (.ref D)) Q E s := by
  obtain ⟨h, g, d, t, os⟩ := s
  obtain ⟨_, _, _, _, bm, _, _, _, _, _, _, _, _, _, _, _, _, hC, _, _, T, sb⟩ := exc_obj X qC
  obtain ⟨_, _, _, _, bmD, _, _, _, _, _, _, _, _, _, _, _, _, hD, _, _, TD, _⟩ := exc_obj X qD
  have c1 : (Value.ref C :: bm).contains (.ref D) = true := Option.some.inj ((sb D).symm.trans hs)
  have c2 : (Value.ref D :: bmD).contains (.type "BaseException") = true := by rw [List.contains_cons, TD.hasType (b := true) (by decide +kernel), Bool.or_true]
  have f := tc_notTuple
  unfold excMatches
  repeat (first | (with_reducible refine wpAny_loadPart_at he ?_; rw [hcls]) | with_reducible refine wpAny_loadPart_at hD ?_ | (with_reducible refine wpAny_isSubtype_exc hD ?_; rw [c2]) | (with_reducible refine wpAny_isSubtype_exc hC ?_; rw [c1]) | wp_step)
  exact hq
end
end PySem.W
namespace L2
open PySem PySem.Spec PyProof.Rows
structure Flies (P : Program) (w : World) (outer : List Env) (H : Hp) (s : Shared) (x C : Addr) (H' : Hp) (B : Heap) (s' : Shared) : Prop where
  os : s'.os = s.os
  bare : AllBare s'.gens
  fly : ∃ t, Heap.FlyingW B outer x (.ref C) (.ref t) s'.heap
  hok : HOk P w H' B
  un : Un (frs outer) [] H H' s.heap s'.heap
  keepB : ∀ b o, s.heap.get? b = some o → H b = none → b ∉ frs outer → B.get? b = some o
  thereB : ∀ b o, s.heap.get? b = some o → b ∉ frs outer → ∃ o', B.get? b = some o'
noncomputable def CX1 (P : Program) (w : World) : CXT := fun outer H s E e s' => ∃ x C H' B, e = .ref x ∧ Flies P w outer H s x C H' B s' ∧ E (.ref C) none H'
section
variable {P : Program} {w : World} {K : PySem.W.Frag} {mg : Str → Option Value} {base : Heap} {N : List Str} {qual : Str} {scope : Scope} {f : Addr} {cd : Value} {A : Around} {outer : List Env} {s₀ : Shared} {H₀ : Hp} {E : XK}
theorem hok_hide {h : Heap} {H : Hp} {l : List Addr} (x : HOk P w H h) (hl : ∀ b ∈ l, H b = none) : HOk P w H (PySem.W.hideAll h l) := fun a o e => by
  refine (x a o e).stay (fun b u hb q => PySem.W.hideAll_get l q fun hm => ?_) (fun _ q => q) fun _ _ q => q
  have z := hl b hm
  rcases hb with rfl | hb
  · rw [e] at z; cases z
  · rw [hb] at z; cases z
theorem raise_leaves {pins : List (Addr × Obj)} {σ : St} {H : Hp} {s : Shared} {x C : Addr} {vs : List Value} {h' : Heap} (hk : scope.kind = .function)
    (I : Inv (cxOf (CX1 P w) P w K mg base N qual scope f cd A outer s₀ H₀ E) pins σ H s) (hx : Heap.MadeExcOf s.heap h' x (.ref C) vs) (hE : E (.ref C) none H) :
    (cxOf (CX1 P w) P w K mg base N qual scope f cd A outer s₀ H₀ E).xe (.ref x) { s with heap := h' } := by
  have fr := I.ok.frames
  have ff := I.stack
  have nf := I.stkFree
  have hlt := I.lt
  have hsub := I.stkSub
  have inB : ∀ b o, s.heap.get? b = some o → b ∉ frs (envOfC qual scope s₀.heap.objs.size f cd :: outer) → (PySem.W.hideAll s.heap (frs (envOfC qual scope s₀.heap.objs.size f cd :: outer))).get? b = some o := fun b o e n => PySem.W.hideAll_get _ e n
  have old : ∀ b o, s₀.heap.get? b = some o → b ∉ frs outer → b ∉ frs (envOfC qual scope s₀.heap.objs.size f cd :: outer) := fun b o e n hm => by
    unfold frs at hm
    rw [List.filterMap_cons] at hm
    rcases List.mem_cons.mp hm with z | z
    · have := Heap.lt_size e
      rw [z] at this
      exact absurd this (Nat.lt_irrefl _)
    · exact n z
  show wpAny _ _ (leaving _ (.ref x)) _ _ _
  refine wpAny_leaves_madeW (base := PySem.W.hideAll s.heap (frs (envOfC qual scope s₀.heap.objs.size f cd :: outer))) (h := s.heap) (outer := outer) fr rfl (fun b o e => PySem.W.of_hideAll _ e) (PySem.W.funFrames_hide ff fun env he a ha => List.mem_filterMap.mpr ⟨env, he, ha⟩) hx fun h'' t fl tu tn up => ?_
  have stays := fl.1
  have ups : s.heap.UpToSlots h'' := (Heap.UpToSlots.of_keeps hx.keeps).trans up
  have base' : Un (frs outer) [] H₀ H s₀.heap s.heap := I.base
  refine ⟨x, C, H, _, rfl, ⟨I.os, I.bare, ⟨t, fl⟩, hok_hide I.hok nf, ⟨fun b o e n hb _ => ?_, fun b o e n hb _ => ?_, fun b o e n _ => base'.free b o e n (by simp), fun b o e _ => ?_, base'.tups, base'.frzs, base'.tbls⟩, fun b o e n hb => ?_, fun b o e hb => ?_⟩, hE⟩
  · exact stays b o (inB b o (base'.keep b o e n hb (by simp)) (old b o e hb))
  · obtain ⟨sl, q⟩ := base'.slot b o e n hb (by simp)
    have hm := ff.mem (b := b) (by show b ∈ frs (_ :: outer); unfold frs; rw [List.filterMap_cons]; exact List.mem_cons_of_mem _ hb)
    obtain ⟨_, o2, q2, nd⟩ := hm
    rw [q] at q2
    cases q2
    obtain ⟨sl2, q3⟩ := ups b _ q nd
    exact ⟨sl2, q3⟩
  · obtain ⟨o', q⟩ := base'.there b o e (by simp)
    by_cases hb : b ∈ frs (envOfC qual scope s₀.heap.objs.size f cd :: outer)
    · obtain ⟨_, o2, q2, nd⟩ := ff.mem hb
      obtain ⟨sl2, q3⟩ := ups b _ q2 nd
      exact ⟨_, q3⟩
    · exact ⟨o', stays b o' (inB b o' q hb)⟩
  · exact inB b o (base'.keep b o e n hb (by simp)) (old b o e hb)
  · obtain ⟨o', q⟩ := base'.there b o e (by simp)
    exact ⟨o', inB b o' q (old b o e hb)⟩
end
end L2
namespace L2
open PySem PySem.Spec PyProof.Rows
section
variable {P : Program} {w : World} {K : PySem.W.Frag} {mg : Str → Option Value} {base : Heap} {N : List Str} {qual : Str} {scope : Scope} {f : Addr} {cd : Value} {A : Around} {outer : List Env} {s₀ : Shared} {H₀ : Hp} {E : XK}
noncomputable def sRaise (E : XK) (C : Addr) (ta : TA) : TS := fun _ σ H => ta σ H fun vs H1 => vs.length ≤ sizeLine ∧ E (.ref C) none H1
theorem ps_raise {x : Str} {C : Addr} {e0 : Expr} {rest : List Expr} {np cpos pos : Pos} {ta : TA} (hk : scope.kind = .function) (hg : Gl (cxOf (CX1 P w) P w K mg base N qual scope f cd A outer s₀ H₀ E) x) (hm : mg x = some (.ref C))
    (qC : PySem.W.excIn K C PySem.W.vMro "ValueError.__new__" = true) (ha : PA (cxOf (CX1 P w) P w K mg base N qual scope f cd A outer s₀ H₀ E) (e0 :: rest) ta) (hd : (x == ("__debug__" : Str)) = false := by decide)
    (he : starEach (e0 :: rest) (envOfC qual scope s₀.heap.objs.size f cd) = (false, eval e0 (envOfC qual scope s₀.heap.objs.size f cd)) :: starEach rest (envOfC qual scope s₀.heap.objs.size f cd) := by rfl)
    (hpl : (backTo cpos (starEach rest (envOfC qual scope s₀.heap.objs.size f cd))).any (·.1) = false := by rfl) :
    PS (cxOf (CX1 P w) P w K mg base N qual scope f cd A outer s₀ H₀ E) (.Raise (some (.Call (.Name x np) (e0 :: rest) [] cpos)) none pos) (sRaise E C ta) := by
  intro pins s σ H D I h
  obtain ⟨nm, qn, NN, bs, bm, hdc, sn, sub, ab, col, dd, k0, k1, k2, k3, k5, mN, hC, hN, hni, T, _⟩ := PySem.W.exc_obj I.ok.mod.kin qC
  have hh := I.ok.hd rfl
  refine wpAny_Raise_call_subT (C := C) (nm := nm) (q := qn) (N := NN) (bs := bs) (bm := bm) (hdct := hdc) (sn := sn) (sub := sub) (ab := ab) (col := col) (dd := dd) (k0 := k0) (k1 := k1) (k2 := k2) (k3 := k3) (k5 := k5) F.excBase_ValueError (mN := mN) (T.hasType (by decide +kernel)) hh ?_ hni (ld_glob I hg hm ⟨rfl, ?_⟩ hd)
  · show (backTo cpos (starEach (e0 :: rest) (envOfC qual scope s₀.heap.objs.size f cd))).any (·.1) = false
    rw [he]
    show (false || (backTo cpos (starEach rest (envOfC qual scope s₀.heap.objs.size f cd))).any (·.1)) = false
    rw [hpl]
    rfl
  · have hA := ha cpos pins s σ H _ I h
    show wpAny _ _ (evalArgs _ _ (backTo cpos (starEach (e0 :: rest) (envOfC qual scope s₀.heap.objs.size f cd))) []) _ _ _
    have hA' : wpAny (model P w) (A.deeper (envOfC qual scope s₀.heap.objs.size f cd)) (spliced (backTo cpos (starEach (e0 :: rest) (envOfC qual scope s₀.heap.objs.size f cd)))) _ _ s := hA
    rw [he] at hA' ⊢
    refine Calls.evalArgs_plain (thn hA' fun us s2 ⟨vs, H2, I2, r, hz, hE⟩ => ⟨rfl, by rw [← r.length]; exact hz, I2.bk _ _ hC, hN.keeps I2.bk, T.keeps I2.bk, fun h' e hm' => ?_⟩)
    exact raise_leaves hk I2 hm' hE
theorem Fun.okX {x : Str} {st : Stmt} {fd : FuncData} {ps : List Str} {k : Nat} {sp : Sp} (F : Fun K x qual st f fd) (S : FnScope N ps (defScope st)) (len : ∀ vs H Q E, sp vs H Q E → vs.length = ps.length)
    (hbody : ∀ (cdv : Value) (A : Around) (outer : List Env) (s : Shared) (H : Hp) (vs : List V) (Q : VK) (E : XK), Room k (A.deeper (envOfC qual (defScope st) s.heap.objs.size f cdv)) → sp vs H Q E →
      ∃ t, PSs (cxOf (CX1 P w) P w K mg base N qual (defScope st) f cdv A outer s H E) (defBody st) t ∧ t { nx := fun _ H' => Q .non H', rt := Q } (start N vs) H) : FnOk P w K mg base (CX1 P w) (k + 1) f fd ps sp := by
  obtain ⟨oc, od, kV, doc, pm, an, cdv, ct, osl, rfl, lk, hcd⟩ := F.ex
  exact fn_of lk hcd S len fun A outer s H vs Q E hr hsp => hbody cdv A outer s H vs Q E hr hsp
theorem own_leaving : PassesOwn (model P w) (cxOf (CX1 P w) P w K mg base N qual scope f cd A outer s₀ H₀ E).A (cxOf (CX1 P w) P w K mg base N qual scope f cd A outer s₀ H₀ E).env (cxOf (CX1 P w) P w K mg base N qual scope f cd A outer s₀ H₀ E).xe :=
  PassesOwn.leaving (Q₁ := fun e s'' => CX1 P w outer H₀ s₀ E e s'')
end
section
variable {X : Cx} {pins : List (Addr × Obj)} {σ : St} {H : Hp} {s : Shared}
theorem unbind_ok {M : Model} {A : Around} {E : Value → Shared → Prop} {i : Nat} {x : Str} {v : V} {Q : Unit → Shared → Prop} (I : Inv X pins σ H s) (hN : X.N.Nodup) (hi : X.N[i]? = some x) (hk : X.env.scope.names.lookup x = some .local) (hv : σ[i]? = some (some v))
    (h : ∀ s', Inv X pins (σ.set i none) H s' → Q () s') : wpAny M A (unbindName X.env x) Q E s := by
  obtain ⟨m, hn, hl⟩ := id I.loc
  have hcls : (X.env.scope.kind == .class || (X.env.scope.kind == .module && X.env.locals != X.env.globals)) = false := by rw [I.ok.kind]; rfl
  have cne := I.cne
  obtain ⟨oL, _, _, hoL, _⟩ := id hn
  obtain ⟨u, _, lk⟩ := hl i x v hi hv (.inl hk)
  have hmx : m x = some u := by
    rcases lk with ⟨_, e⟩ | ⟨k, _⟩
    · exact e
    · have k' : X.env.scope.names.lookup x = some .cell ∨ X.env.scope.names.lookup x = some .free := k
      rw [hk] at k'
      rcases k' with z | z <;> cases z
  refine wpAny_unbindName_local hk hn hmx hcls fun h' u' hn' hs => h _ ?_
  have old : ∀ b o, X.s₀.heap.get? b = some o → b ≠ X.env.locals := fun b o e => Nat.ne_of_lt (Nat.lt_of_lt_of_le (Heap.lt_size e) I.ok.above)
  refine ⟨I.ok, I.os, I.bare, ⟨fun b o e n hb hx => (hs.2 b (old b o e)).trans (I.base.keep b o e n hb hx), fun b o e n hb hx => ?_, I.base.free, fun b o e hx => ?_, I.base.tups, I.base.frzs, I.base.tbls⟩, ⟨_, hn', fun j y v' e1 e2 e3 => ?_⟩, fun y c e => ?_, I.free, I.freeC, fun p hp => ?_, fun b ob e => ?_, by simpa using I.len⟩
  · obtain ⟨sl, e1⟩ := I.base.slot b o e n hb hx
    exact ⟨sl, (hs.2 b (old b o e)).trans e1⟩
  · obtain ⟨o', e1⟩ := I.base.there b o e hx
    exact ⟨o', (hs.2 b (old b o e)).trans e1⟩
  · by_cases hj : j = i
    · subst hj
      rw [List.getElem?_set_self (List.getElem?_eq_some_iff.mp hv).1] at e2
      cases e2
    · rw [List.getElem?_set_ne (Ne.symm hj)] at e2
      obtain ⟨u2, r2, q⟩ := hl j y v' e1 e2 e3
      refine ⟨u2, r2, ?_⟩
      rcases q with ⟨k, e⟩ | ⟨k, c, e, z⟩
      · refine .inl ⟨k, ?_⟩
        have : y ≠ x := fun e => hj (nodup_ix hN e1 (e ▸ hi))
        simp [this, e]
      · exact .inr ⟨k, c, e, z.sameBut hs (cne y c e)⟩
  · obtain ⟨w', z⟩ := I.cell y c e
    exact ⟨w', z.sameBut hs (cne y c e)⟩
  · obtain ⟨e, n, ne, nf, d⟩ := I.pin p hp
    exact ⟨(hs.2 p.1 ne).trans e, n, ne, nf, d⟩
  · refine (I.hok b ob e).stay (fun c w' hc q => (hs.2 c ?_).trans q) (fun _ q => q) fun _ _ q => q
    rintro rfl
    have fr := I.free
    rcases hc with rfl | hc
    · rw [fr] at e; cases e
    · rw [fr] at hc; cases hc
noncomputable abbrev Cx.caught (X : Cx) (x : Addr) (ox : Obj) (ps : List (Addr × Obj)) : Cx := { X with A := X.A.mark (some (.ref x)), calm := false, pn := X.pn ++ (ps ++ [(x, ox)]), xe := fun _ _ => False }
theorem Inv.caught {x : Addr} {ox : Obj} (I : Inv X pins σ H s) (e : s.heap.get? x = some ox) (n : H x = none) (ne : x ≠ X.env.locals) (nf : x ∉ X.fs) (nd : ∀ v, ox.data ≠ .cell v) : Inv (X.caught x ox pins) [] σ H s :=
  ⟨⟨I.ok.mod, I.ok.kind, I.ok.glob, I.ok.blt, I.ok.above, I.ok.inj, I.ok.has, I.ok.cab, (fun z => by cases z), I.ok.frames, I.ok.stk, I.ok.exf, I.ok.bs, I.ok.bsz, I.ok.noex, I.ok.exfs, I.ok.funs, I.ok.frf⟩,
    I.os, I.bare, I.base, I.loc, I.cell, I.free, I.freeC, fun p hp => by
      rw [List.append_nil] at hp
      rcases List.mem_append.mp hp with z | z
      · exact I.pin p (List.mem_append_left _ z)
      · rcases List.mem_append.mp z with z | z
        · exact I.pin p (List.mem_append_right _ z)
        · rw [List.mem_singleton] at z
          subst z
          exact ⟨e, n, ne, nf, nd⟩, I.hok, I.len⟩
noncomputable def PXE (X : Cx) (CX : CXT) (e : Expr) (te : XK → TE) : Prop :=
  ∀ (E : XK) (pins : List (Addr × Obj)) (s : Shared) (σ : St) (H : Hp) (Q : VK) (XE : Value → Shared → Prop), Inv X pins σ H s → te E σ H Q → (∀ H1 s1 u s', Inv X pins σ H1 s1 → CX X.stack H1 s1 E u s' → XE u s') →
    wpAny (model X.prog X.w) X.A (eval e X.env) (EP X pins σ Q) XE s
noncomputable def PXS (X : Cx) (CX : CXT) (st : Stmt) (ts : XK → TS) : Prop :=
  ∀ (E : XK) (pins : List (Addr × Obj)) (s : Shared) (σ : St) (H : Hp) (D : Ends) (XE : Value → Shared → Prop), Inv X pins σ H s → ts E D σ H → (∀ H1 s1 u s', Inv X pins σ H1 s1 → CX X.stack H1 s1 E u s' → XE u s') →
    wpAny (model X.prog X.w) X.A (exec st X.env) (SP X pins D) XE s
theorem px_expr {CX : CXT} {e : Expr} {te : XK → TE} {pos : Pos} (he : PXE X CX e te) (hs : swapsWith e none pos.line X.env = pure false := by rfl) : PXS X CX (.Expr e pos) (fun E => tDrop (te E)) := by
  intro E pins s σ H D XE I h hx
  exact wpAny_Expr_any (thn (he E pins s σ H _ XE I h hx) fun v s1 ⟨x, H1, I1, r1, q1⟩ => ⟨σ, H1, I1, q1⟩) I.quiet hs
theorem run_try {CX : CXT} {k : Nat} {f : Addr} {fd : FuncData} {ps : List Str} {sp : Sp} {dvs : List V} {ds : List Value} {E : XK} {Q : VK} {us : List Value} {vs : List V} {XE : Value → Shared → Prop} (F : FnOk X.prog X.w X.K X.mg X.base CX k f fd ps sp) (hr : Room k X.A) (hb : Binds X.K fd ps ds) (hd : Vals dvs ds)
    (I : Inv X pins σ H s) (r : Vals vs us) (h : sp (vs ++ dvs) H Q E) (hx : ∀ u s', CX X.stack H s E u s' → XE u s') : wpAny (model X.prog X.w) X.A (call (.ref f) us) (EP X pins σ Q) XE s := by
  have r2 : Vals (vs ++ dvs) (us ++ ds) := r.append hd
  have hl : (us ++ ds).length = ps.length := by rw [← r2.length]; exact F.len _ _ _ _ h
  refine wpAny_call (codeAny_mono (F.run X.A X.stack s H ⟨us, []⟩ (us ++ ds) (vs ++ dvs) Q E hr I.env0 (hb s us I.kIn hl) r2 h) fun r s' hq => ?_)
  rcases r with e | fl
  · exact hx e s' hq
  · rcases fl with _ | _ | _ | u
    all_goals first | exact I.after hq | exact False.elim hq
theorem ObjOk.there {P : Program} {w : World} {H : Hp} {h : Heap} {a : Addr} {o : HO} (x : ObjOk P w H h a o) : ∃ u, h.get? a = some u := by
  cases o with
  | lst xs => obtain ⟨_, _, _, _, e⟩ := x; exact ⟨_, e⟩
  | tup xs => obtain ⟨_, _, _, _, e, _⟩ := x; exact ⟨_, e⟩
  | dK kvs => obtain ⟨_, _, _, _, o, _, _, e, _⟩ := x; exact ⟨_, e⟩
  | dT kvs => obtain ⟨_, _, _, _, o, _, _, e, _⟩ := x; exact ⟨_, e⟩
  | set S n => obtain ⟨o, _, _, _, e, _⟩ := x; exact ⟨_, e⟩
  | ins C dx fs => obtain ⟨_, _, _, e, _⟩ := x; exact ⟨_, e⟩
  | own y => exact x
  | xd fs => obtain ⟨_, ⟨_, _, _, e, _⟩, _⟩ := x; exact ⟨_, e⟩
  | rng lo hi => obtain ⟨_, _, _, e⟩ := x; exact ⟨_, e⟩
  | frz ob u => obtain ⟨e, _⟩ := x; exact ⟨_, e⟩
  | tbl ps => exact ⟨_, (show h.get? a = some _ from x)⟩
  | met f y => exact ⟨_, (show h.get? a = some _ from x)⟩
  | ext φ => obtain ⟨_, ⟨_, e⟩, _⟩ := x; exact ⟨_, e⟩
theorem Inv.landed {x C : Addr} {H1 H' : Hp} {s1 s' : Shared} {B h6 : Heap} {t : Addr} (hst : X.stack = X.env :: X.outer) (I1 : Inv X pins σ H1 s1) (F : Flies X.prog X.w X.stack H1 s1 x C H' B s') (ff : s'.heap.FunFrames B X.stack) (fl6 : Heap.FlyingW B X.stack x (.ref C) (.ref t) h6) (up : s'.heap.UpToSlots h6) :
    Inv X pins σ H' { s' with heap := h6 } := by
  refine I1.call' (s' := { s' with heap := h6 }) (ch := []) F.os ⟨fun b o e n hb _ => fl6.1 b o (F.keepB b o e n hb), fun b o e n hb _ => ?_, F.un.free, fun b o e _ => ?_, F.un.tups, F.un.frzs, F.un.tbls⟩ (F.hok.kept fl6.1) F.bare (fun b z => absurd z (by simp))
  · obtain ⟨sl, q⟩ := F.un.slot b o e n hb (by simp)
    obtain ⟨_, o2, q2, nd⟩ := ff.mem hb
    rw [q] at q2
    cases q2
    obtain ⟨sl2, q3⟩ := up b _ q nd
    exact ⟨sl2, q3⟩
  · by_cases hb : b ∈ frs X.stack
    · obtain ⟨_, o2, q2, nd⟩ := ff.mem hb
      obtain ⟨sl2, q3⟩ := up b _ q2 nd
      exact ⟨_, q3⟩
    · obtain ⟨o2, q2⟩ := F.thereB b o e hb
      exact ⟨o2, fl6.1 b o2 q2⟩
theorem Inv.exc {x C : Addr} {H1 H' : Hp} {s1 s' : Shared} {B h6 : Heap} {t : Addr} (F : Flies X.prog X.w X.stack H1 s1 x C H' B s') (fl6 : Heap.FlyingW B X.stack x (.ref C) (.ref t) h6) (J : Inv X pins σ H' { s' with heap := h6 }) :
    H' x = none ∧ ∃ ox, ox.cls = .ref C ∧ h6.get? x = some ox ∧ Inv (X.caught x ox pins) [] σ H' { s' with heap := h6 } := by
  obtain ⟨oe, vs, T, oT, ts, he, ⟨hc, h0⟩, hd, _⟩ := fl6.2.2.2
  have hxn : H' x = none := by
    cases q : H' x with
    | none => rfl
    | some u =>
      obtain ⟨o, e⟩ := (F.hok x u q).there
      rw [fl6.2.1] at e
      cases e
  refine ⟨hxn, oe, hc, he, J.caught he hxn (fun z => ?_) (fun hm => ?_) fun v z => ?_⟩
  · obtain ⟨m, ⟨o, es, ep, ho, hdd, _⟩, _⟩ := J.loc
    rw [← z] at ho
    have ho' : h6.get? x = some o := ho
    rw [he] at ho'
    cases ho'
    rw [hd] at hdd
    cases hdd
  · obtain ⟨_, o, ho, nd⟩ := J.funs.mem hm
    have ho' : h6.get? x = some o := ho
    rw [he] at ho'
    cases ho'
    exact nd vs hd
  · rw [hd] at z
    cases z
noncomputable def IsC (K : PySem.W.Frag) (x : Str) (C : Addr) : Prop := PySem.W.nsIn K mainGlobals x = some (some (.ref C))
theorem IsC.uniq {K : PySem.W.Frag} {x : Str} {C D : Addr} (h : IsC K x C) (h' : IsC K x D) : C = D := by
  unfold IsC at h h'
  rw [h] at h'
  injection h' with h'
  injection h' with h'
  injection h' with h'
structure ExK (K : PySem.W.Frag) (C : Addr) : Prop where
  ex : PySem.W.excIn K C PySem.W.vMro "ValueError.__new__" = true
  cls : PySem.W.hasDictIn K C = true
  ga : PySem.W.findIn K (.ref C) "__getattribute__" = some (some (.builtin "BaseException.__getattribute__"))
  gt : PySem.W.findIn K (.ref C) "__getattr__" = some none
  ca : PySem.W.findIn K (.ref C) "__class__" = some (some (.builtin "object.__class__"))
  mo : PySem.W.mroIn K C (.type "object") = some true
  mb : PySem.W.mroIn K C (.type "BaseException") = some true
structure ObK (K : PySem.W.Frag) : Prop where
  gt : PySem.W.specialIn K (.builtin "object.__class__") "__get__" = some (some (.builtin "getset_descriptor.__get__"))
  tk : PySem.W.takesIn K (.builtin "object.__class__") = some true
noncomputable def clsV : V → Option Value
  | .ref D => some (.ref D)
  | .ty n => some (.type n)
  | _ => none
end
end L2
namespace L2
open PySem PySem.Spec PyProof.Rows
theorem pass10 {P : Program} {w : World} {X : Cx} : Passes (CX1 P w) X E0 := by
  rintro pins σ H s e s' I ⟨_, _, _, _, _, _, z⟩
  exact z.elim
end L2
namespace EB
open PySem L2
end EB
namespace L2
open PySem PySem.Spec PyProof.Rows
section
variable {X : Cx}
theorem px_meth {CX : CXT} {k : Nat} {f C : Addr} {fd : FuncData} {ps : List Str} {sp : Sp} {dvs : List V} {ds : List Value} {m : Str} {apos pos : Pos} {o e : Expr} {es : List Expr} {ta : TE} {t : TA} {pl : Sem Bool} (he : PE X.nox o ta) (c : Cls X.K C) (hm : Meth X.K C m f)
    (F : FnOk X.prog X.w X.K X.mg X.base CX k f fd ps sp) (hr : Room k X.A) (hb : Binds X.K fd ps ds) (hd : Vals dvs ds) (ha : PA X.nox (e :: es) t)
    (hst : starEach (e :: es) X.env = (false, eval e X.env) :: starEach es X.env := by rfl) (hpl : (backTo pos (starEach es X.env)).any (·.1) = false := by rfl)
    (ht : eval (.Call (.Attribute o m apos) (e :: es) [] pos) X.env = (do
      let ov ← eval o X.env
      standAt apos.atName
      let (f, first) ← holding [ov] (getMethod ov m pl)
      callWith pos f first (backTo pos (starEach (e :: es) X.env)) (backToKw pos (keywordEach [] X.env))) := by rfl) :
    PXE X CX (.Call (.Attribute o m apos) (e :: es) [] pos) (fun E => tMeth C m sp dvs E ta t) := by
  intro E pins s σ H Q XE I h hx
  refine PySem.W.methodCall_KW (pl := pl) (wpAny_mono (he pins s σ H _ (I.wish _) h) (fun u s1 ⟨x, H1, J1, rx, a, dx, fs, ex, ea, l, q⟩ => ?_) fun _ _ z => z.elim) ht
  have I1 := J1.unwish
  subst ex
  obtain rfl : u = Value.ref a := rx
  refine getmeth_ok I1 ea c hm l ?_
  refine PySem.W.callWith_K (first := [.ref a]) (h₀ := X.base) I.ok.mod.kin hm.kp (wpAny_mono (ha pos pins s1 σ H1 _ (I1.wish _) q) (fun us s2 ⟨vs, H2, I2, r, q2⟩ => ⟨I2.unwish.kIn, ?_⟩) fun _ _ z => z.elim) hst hpl
  exact run_try (us := .ref a :: us) (vs := .ref a :: vs) F hr hb hd I2.unwish (.cons rfl r) q2 fun u s' hq => hx _ _ u s' I2.unwish hq
theorem px_meth0 {CX : CXT} {k : Nat} {f C : Addr} {fd : FuncData} {ps : List Str} {sp : Sp} {dvs : List V} {ds : List Value} {m : Str} {apos pos : Pos} {o : Expr} {ta : TE} {pl : Sem Bool} (he : PE X.nox o ta) (c : Cls X.K C) (hm : Meth X.K C m f)
    (F : FnOk X.prog X.w X.K X.mg X.base CX k f fd ps sp) (hr : Room k X.A) (hb : Binds X.K fd ps ds) (hd : Vals dvs ds)
    (ht : eval (.Call (.Attribute o m apos) [] [] pos) X.env = (do
      let ov ← eval o X.env
      standAt apos.atName
      let (f, first) ← holding [ov] (getMethod ov m pl)
      callWith pos f first (backTo pos (starEach [] X.env)) (backToKw pos (keywordEach [] X.env))) := by rfl) :
    PXE X CX (.Call (.Attribute o m apos) [] [] pos) (fun E => tMeth C m sp dvs E ta tNil) := by
  intro E pins s σ H Q XE I h hx
  refine PySem.W.methodCall_KW (pl := pl) (wpAny_mono (he pins s σ H _ (I.wish _) h) (fun u s1 ⟨x, H1, J1, rx, a, dx, fs, ex, ea, l, q⟩ => ?_) fun _ _ z => z.elim) ht
  have I1 := J1.unwish
  subst ex
  obtain rfl : u = Value.ref a := rx
  refine getmeth_ok I1 ea c hm l ?_
  refine PySem.W.callWith_K0 (first := [.ref a]) I1.kIn hm.kp ?_
  exact run_try (us := [.ref a]) (vs := [.ref a]) F hr hb hd I1 (.cons rfl .nil) q fun u s' hq => hx _ _ u s' I1 hq
end
end L2
namespace EB
open PySem L2
theorem mp_ne : ¬ (("many" : Str) = "pile") := by decide +kernel
noncomputable def bflds (n : Int) (l : Addr) : List (Str × V) := putF "pile" (.ref l) (putF "many" (.int n) [])
theorem bflds_many (n : Int) (l : Addr) : (bflds n l).lookup ("many" : Str) = some (.int n) := by
  unfold bflds
  rw [lookup_putF, if_neg mp_ne, lookup_putF, if_pos rfl]
theorem bflds_pile (n : Int) (l : Addr) : (bflds n l).lookup ("pile" : Str) = some (.ref l) := by
  unfold bflds
  rw [lookup_putF, if_pos rfl]
theorem bflds_no (n : Int) (l : Addr) {m : Str} (h1 : ¬ m = "pile") (h2 : ¬ m = "many") : (bflds n l).lookup m = none := by
  unfold bflds
  rw [lookup_putF, if_neg h1, lookup_putF, if_neg h2]
  rfl
structure BookAt (K : PySem.W.Frag) (H : Hp) (p l : Addr) (n : Nat) (pile : List Say) : Prop where
  ob : ∃ C dx, IsC K "Book" C ∧ H p = some (.ins C dx (bflds (n : Int) l))
  pl : PileAt H l pile
noncomputable def But (l : Addr) (H H' : Hp) : Prop := ∀ c o, H c = some o → c ≠ l → H' c = some o
theorem BookAt.same {K : PySem.W.Frag} {H H' : Hp} {p l : Addr} {n : Nat} {pile : List Say} (B : BookAt K H p l n pile) (s : Same H H') : BookAt K H' p l n pile :=
  ⟨let ⟨C, dx, h1, h2⟩ := B.ob; ⟨C, dx, h1, s _ _ h2⟩, B.pl.same s⟩
theorem BookAt.ne {K : PySem.W.Frag} {H : Hp} {p l : Addr} {n : Nat} {pile : List Say} (B : BookAt K H p l n pile) : p ≠ l := by
  obtain ⟨⟨C, dx, _, h⟩, as, g, _⟩ := B
  exact ne_of h g (by intro z; cases z)
theorem TupsAt.but {H H' : Hp} {l : Addr} {xs : List V} (hl : H l = some (.lst xs)) (b : But l H H') : ∀ {as : List Addr} {pile : List Say}, TupsAt H as pile → TupsAt H' as pile
  | _, _, .nil => .nil
  | _, _, .cons r t => .cons (b _ _ r (ne_of r hl (fun z => nomatch z))) (TupsAt.but hl b t)
theorem PileAt.but {H H' : Hp} {l l' : Addr} {xs : List V} {pile : List Say} (hl : H l = some (.lst xs)) (b : But l H H') (n : l' ≠ l) (P : PileAt H l' pile) : PileAt H' l' pile :=
  let ⟨as, h, t⟩ := P; ⟨as, b _ _ h n, TupsAt.but hl b t⟩
theorem BookAt.but {K : PySem.W.Frag} {H H' : Hp} {p l l' : Addr} {n : Nat} {pile : List Say} {xs : List V} (B : BookAt K H p l' n pile) (hl : H l = some (.lst xs)) (b : But l H H') (ne : l' ≠ l) : BookAt K H' p l' n pile :=
  ⟨let ⟨C, dx, h1, h2⟩ := B.ob; ⟨C, dx, h1, b _ _ h2 (ne_of h2 hl (by intro z; cases z))⟩, B.pl.but hl b ne⟩
theorem lit_test (n : Nat) (x : Int) : (x = 0 ∨ (n : Int) < (if x < 0 then -x else x)) ↔ ¬ Lit n x := by
  unfold Lit
  split <;> omega
end EB
namespace EB
open PySem L2
instance (n : Nat) (x : Int) : Decidable (Lit n x) := inferInstanceAs (Decidable (_ ∧ _))
theorem lit_small {n : Nat} {x : Int} (h : Lit n x) (hn : n ≤ 1000) : x.natAbs < 10 ^ 30 := Nat.lt_of_le_of_lt (Nat.le_trans h.2 hn) (by decide)
theorem BookAt.at {K : PySem.W.Frag} {H : Hp} {p l : Addr} {n : Nat} {pile : List Say} {C : Addr} (B : BookAt K H p l n pile) (hC : IsC K "Book" C) : ∃ dx, H p = some (.ins C dx (bflds (n : Int) l)) := by
  obtain ⟨C', dx, h, ho⟩ := B.ob
  have := h.uniq hC
  subst this
  exact ⟨dx, ho⟩
end EB
namespace L2
open PySem PySem.Spec PyProof.Rows
noncomputable abbrev HO.exc (x C : Addr) : HO := .ext fun h => PySem.W.OfCls h x C
section
variable {X : Cx} {pins : List (Addr × Obj)} {σ : St} {H : Hp} {s : Shared}
theorem Inv.track {x : Addr} {o : HO} (I : Inv X pins σ H s) (hn : H x = none) (new : X.s₀.heap.get? x = none) (nl : x ≠ X.env.locals) (nc : ∀ y c, X.env.cells.lookup y = some c → c ≠ x) (np : ∀ p ∈ X.pn ++ pins, p.1 ≠ x) (ok : ObjOk X.prog X.w (upd H x o) s.heap x o) :
    Inv X pins σ (upd H x o) s := by
  refine ⟨I.ok, I.os, I.bare, ⟨I.base.keep, I.base.slot, fun b ob e n hx => ?_, I.base.there, fun b xs e => ?_, fun b ob u e => ?_, fun b ps e => ?_⟩, I.loc, I.cell, ?_, fun y c e => ?_, fun p hp => ?_, fun b ob e => ?_, I.len⟩
  · rw [upd_ne (fun z => by rw [z, new] at e; cases e)]
    exact I.base.free b ob e n hx
  · have e' := I.base.tups b xs e
    rw [upd_ne (ne_of_none e' hn)]
    exact e'
  · have e' := I.base.frzs b ob u e
    rw [upd_ne (ne_of_none e' hn)]
    exact e'
  · obtain ⟨m, e'⟩ := I.base.tbls b ps e
    exact ⟨m, by rw [upd_ne (ne_of_none e' hn)]; exact e'⟩
  · rw [upd_ne (Ne.symm nl)]
    exact I.free
  · rw [upd_ne (nc y c e)]
    exact I.freeC y c e
  · obtain ⟨e, n, r⟩ := I.pin p hp
    exact ⟨e, by rw [upd_ne (np p hp)]; exact n, r⟩
  · by_cases hb : b = x
    · subst hb
      rw [upd_same] at e
      cases e
      exact ok
    · rw [upd_ne hb] at e
      exact (I.hok b ob e).stay (fun c v _ q => q) (fun c q => by rw [upd_ne (ne_of_none q hn)]; exact q) fun c ys q => by rw [upd_ne (ne_of_none q hn)]; exact q
noncomputable abbrev Cx.held (X : Cx) (x : Addr) (ps : List (Addr × Obj)) : Cx := { X with A := X.A.mark (some (.ref x)), calm := false, pn := X.pn ++ ps, xe := fun _ _ => False }
theorem Inv.held {x : Addr} (I : Inv X pins σ H s) : Inv (X.held x pins) [] σ H s :=
  ⟨⟨I.ok.mod, I.ok.kind, I.ok.glob, I.ok.blt, I.ok.above, I.ok.inj, I.ok.has, I.ok.cab, (fun z => by cases z), I.ok.frames, I.ok.stk, I.ok.exf, I.ok.bs, I.ok.bsz, I.ok.noex, I.ok.exfs, I.ok.funs, I.ok.frf⟩,
    I.os, I.bare, I.base, I.loc, I.cell, I.free, I.freeC, fun p hp => I.pin p (by rw [List.append_nil] at hp; exact hp), I.hok, I.len⟩
theorem Inv.unheld {x : Addr} (hX : X.calm = true → X.A.handled = none) (I : Inv (X.held x pins) [] σ H s) : Inv X pins σ H s :=
  ⟨⟨I.ok.mod, I.ok.kind, I.ok.glob, I.ok.blt, I.ok.above, I.ok.inj, I.ok.has, I.ok.cab, hX, I.ok.frames, I.ok.stk, I.ok.exf, I.ok.bs, I.ok.bsz, I.ok.noex, I.ok.exfs, I.ok.funs, I.ok.frf⟩,
    I.os, I.bare, I.base, I.loc, I.cell, I.free, I.freeC, fun p hp => I.pin p (by rw [List.append_nil]; exact hp), I.hok, I.len⟩
noncomputable def sTryT (K : PySem.W.Frag) (Dc : Addr) (i : Nat) (tb : XK → TS) (ts : TS) : TS := fun D σ H => ∃ E : XK, tb E D σ H ∧ ∀ C H', E (.ref C) none H' → PySem.W.excIn K C PySem.W.vMro "ValueError.__new__" = true ∧ PySem.W.mroIn K C (.ref Dc) = some true ∧
  ∀ x, H' x = none → ts { nx := fun σ' H2 => D.nx (σ'.set i none) H2, rt := D.rt } (σ.set i (some (.ref x))) (upd H' x (HO.exc x C))
theorem Inv.excT {x C : Addr} {H1 H' : Hp} {s1 s' : Shared} {B h6 : Heap} {t : Addr} (hex : X.ex = []) (I1 : Inv X pins σ H1 s1) (F : Flies X.prog X.w X.stack H1 s1 x C H' B s') (fl6 : Heap.FlyingW B X.stack x (.ref C) (.ref t) h6) (J : Inv X pins σ H' { s' with heap := h6 }) :
    H' x = none ∧ PySem.W.OfCls h6 x C ∧ Inv (X.held x pins) [] σ (upd H' x (HO.exc x C)) { s' with heap := h6 } := by
  obtain ⟨hxn, ox, hc, he, _⟩ := Inv.exc F fl6 J
  obtain ⟨oe, vs, T, oT, ts, he2, _, hd, _⟩ := fl6.2.2.2
  rw [he] at he2
  cases he2
  have nfr : x ∉ frs X.stack := fun hm => by
    obtain ⟨_, o, ho, nd⟩ := fl6.2.2.1.mem hm
    rw [he] at ho
    cases ho
    exact nd vs hd
  have n1 : s1.heap.get? x = none := by
    cases q : s1.heap.get? x with
    | none => rfl
    | some o =>
      obtain ⟨o', e⟩ := F.thereB x o q nfr
      rw [fl6.2.1] at e
      cases e
  have n0 : X.s₀.heap.get? x = none := by
    cases q : X.s₀.heap.get? x with
    | none => rfl
    | some o =>
      obtain ⟨o', e⟩ := I1.base.there x o q (by rw [hex]; simp)
      rw [n1] at e
      cases e
  have nl : x ≠ X.env.locals := fun z => by
    obtain ⟨m, ⟨o, es, ep, ho, hdd, _⟩, _⟩ := J.loc
    have ho' : h6.get? x = some o := by rw [z]; exact ho
    rw [he] at ho'
    cases ho'
    rw [hd] at hdd
    cases hdd
  have nc : ∀ y c, X.env.cells.lookup y = some c → c ≠ x := fun y c e z => by
    obtain ⟨v, o, ho, hdd⟩ := J.cell y c e
    have ho' : h6.get? x = some o := by rw [← z]; exact ho
    rw [he] at ho'
    cases ho'
    rw [hd] at hdd
    cases hdd
  have np : ∀ p ∈ X.pn ++ pins, p.1 ≠ x := fun p hp z => by
    obtain ⟨e, _⟩ := I1.pin p hp
    rw [z, n1] at e
    cases e
  refine ⟨hxn, ⟨ox, he, hc⟩, (J.track (o := HO.exc x C) hxn n0 nl nc np ⟨⟨ox, he, hc⟩, ⟨ox, he⟩, fun h h' p k => ?_⟩).held⟩
  obtain ⟨o, e, c⟩ := p
  exact ⟨o, k o e, c⟩
theorem ps_tryT {st : Stmt} {cls n : Str} {i : Nat} {Dc : Addr} {b₀ : Stmt} {suite : List Stmt} {np hpos pos : Pos} {tb : XK → TS} {ts : TS} (hst : X.stack = X.env :: X.outer) (hfr : X.env.frame = some X.env.locals) (hex : X.ex = []) (hb : PXS X (CX1 X.prog X.w) st tb) (hg : Gl X cls) (hm : X.mg cls = some (.ref Dc)) (qD : PySem.W.excIn X.K Dc PySem.W.vMro "ValueError.__new__" = true)
    (hN : X.N.Nodup) (hi : X.N[i]? = some n) (hk : X.env.scope.names.lookup n = some .local) (hs : ∀ (x : Addr) (ps : List (Addr × Obj)), PSs (X.held x ps) (b₀ :: suite) ts) (hd : (cls == ("__debug__" : Str)) = false := by decide) :
    PS X (.Try [st] [.ExceptHandler (some (.Name cls np)) (some n) (b₀ :: suite) hpos] [] [] pos) (sTryT X.K Dc i tb ts) := by
  intro pins s σ H D I h
  obtain ⟨E, hbody, hsuite⟩ := h
  refine wpAny_Try_except (wpAny_execs_cons (wpAny_mono (hb E pins s σ H D _ I hbody (fun H1 s1 u s' I1 hcx => ?_)) (fun f s1 q => ?_) fun _ _ z => z))
  · obtain ⟨x, C, H', B, rfl, F, hE⟩ := hcx
    obtain ⟨qC, sub, hts⟩ := hsuite C H' hE
    obtain ⟨t, fl⟩ := F.fly
    have ff := fl.2.2.1
    have fr := I1.ok.frames
    have fl0 := fl
    rw [hst] at fr fl0
    refine wpAny_looks_onW fr hfr fl0 fun h4 held4 up4 => ?_
    refine wpAny_landsW held4 fun h5 fl5 up5 => ?_
    have fl5' := fl5
    rw [← hst] at fl5'
    have J5 := I1.landed hst F ff fl5' (up4.trans up5)
    obtain ⟨hxn, ⟨ox, hox, hcls⟩, I5⟩ := Inv.excT hex I1 F fl5' J5
    refine wpAny_handleBy_cons (codeAny_handlers_test ?_) (by intro q; cases q)
    refine ld_glob (X := X.held x pins) I5 hg hm ?_ hd
    refine PySem.W.xc_matches J5.kIn qC qD sub hox hcls ?_
    refine codeAny_handlers_suite_as ?_
    refine lands_againW fl5 fun h6 fl6 up6 => ?_
    have fl6' := fl6
    rw [← hst] at fl6'
    have J6 := I1.landed hst F ff fl6' ((up4.trans up5).trans up6)
    obtain ⟨_, _, I6⟩ := Inv.excT hex I1 F fl6' J6
    refine store_ok (X := X.held x pins) I6 hN hi (.inl hk) (v := .ref x) rfl (fun s7 I7 => ?_) (.inr hk)
    refine wpAny_mono (hs x pins [] s7 _ _ _ I7 (hts x hxn)) (fun fw s8 q => ?_) fun _ _ z => z.elim
    have goes : ∀ {σ' : St} {H2 : Hp} {Q : Unit → Shared → Prop}, Inv X pins σ' H2 s8 → (∀ s10, Inv X pins (σ'.set i none) H2 s10 → Q () s10) → wpAny (model X.prog X.w) X.A (do bindName X.env n .none; unbindBehindTheSuite X.env n hpos) Q X.xe s8 := fun {σ' H2 Q} J k => by
      have hlt : i < σ'.length := by rw [J.len]; exact (List.getElem?_eq_some_iff.mp hi).1
      refine wpAny_bind (wpAny_bindName (store_ok J hN hi (.inl hk) (v := .non) rfl (fun s9 J9 => ?_) (.inr hk)))
      unfold unbindBehindTheSuite
      refine wpAny_onRaise (unbind_ok J9 hN hi hk (v := .non) (List.getElem?_set_self hlt) fun s10 J10 => k s10 ?_)
      rw [List.set_set] at J10
      exact J10
    cases fw with
    | next =>
      obtain ⟨σ', H2, J, q⟩ := q
      exact goes (J.unheld I.ok.hd) fun s10 J10 => ⟨_, H2, J10, q⟩
    | ret u =>
      obtain ⟨v, σ', H2, J, rv, q⟩ := q
      exact goes (J.unheld I.ok.hd) fun s10 J10 => ⟨v, _, H2, J10, rv, q⟩
    | brk =>
      obtain ⟨_, _, _, q⟩ := q
      exact q.elim
    | cont =>
      obtain ⟨_, _, _, q⟩ := q
      exact q.elim
  · cases f with
    | next => exact wpAny_execs_nil (wpAny_execs_nil q)
    | ret u => exact q
    | brk => exact q
    | cont => exact q
inductive rIst (K : PySem.W.Frag) (xs : List V) (H : Hp) (Q : VK) : Prop
  | mk (x : _) (C : _) (c : _) (cv : _) (b : _) (h0 : xs = [.ref x, c]) (h1 : H x = some (HO.exc x C)) (h2 : clsV c = some cv) (h3 : ExK K C) (h4 : ObK K) (h5 : PySem.W.kitOne K (.ref C) cv = some b) (h6 : Q (.bl b) H) : rIst K xs H Q
theorem call_ist : CallR X (.builtin "isinstance") (rIst X.K) := by
  intro pins s σ H xs us Q I r h
  obtain ⟨x, C, c, cv, b, rfl, hx, hcv, ek, ob, e, q⟩ := h
  obtain ⟨u, v, rfl, ru, rv⟩ := vals2 r
  cases (show u = Value.ref x from ru)
  have hv : v = cv := by
    cases c with
    | ref D => cases (show v = Value.ref D from rv); exact Option.some.inj hcv
    | ty n => cases (show v = Value.type n from rv); exact Option.some.inj hcv
    | _ => cases hcv
  subst hv
  obtain ⟨p, _, _⟩ := (show ObjOk X.prog X.w H s.heap x (HO.exc x C) from I.hok x _ hx)
  exact PySem.W.kia_one (PySem.W.kitx_exc ek.cls ek.ga ek.gt ek.ca ob.gt ob.tk ek.mo ek.mb) I.kIn p e (fun z => nomatch z) fun tk => ⟨.bl b, H, I.tok tk, rfl, q⟩
end
structure RoomS (k : Nat) (A : Around) : Prop where
  dp : A.depth + 3 * k + 5 < recursionLimit
  un : A.units + 16 * k + 200 < cLine
theorem Room.suite {k : Nat} {A : Around} (r : Room k A) (v : Option Value) : RoomS k (A.mark v) := ⟨r.dp, r.un⟩
structure FnOkS (P : Program) (w : World) (K : PySem.W.Frag) (mg : Str → Option Value) (base : Heap) (k : Nat) (f : Addr) (fd : FuncData) (ps : List Str) (sp : Sp) : Prop where
  len : ∀ vs H Q E, sp vs H Q E → vs.length = ps.length
  run : ∀ (A : Around) (outer : List Env) (s : Shared) (H : Hp) (args : Args) (us : List Value) (vs : List V) (Q : VK) (E : XK), RoomS k A → Env0 P w K mg base A outer s H → BindsTo s fd args (ps.zip us) → Vals vs us → sp vs H Q E →
    codeAny (model P w) A (.call (.ref f) args) (CR CX0 outer P w H s Q E) s
noncomputable abbrev cxS (P : Program) (w : World) (K : PySem.W.Frag) (mg : Str → Option Value) (base : Heap) (N : List Str) (qual : Str) (scope : Scope) (f : Addr) (cd : Value) (A : Around) (outer : List Env) (s : Shared) (H : Hp) (E : XK) : Cx :=
  { cxOf CX0 P w K mg base N qual scope f cd A outer s H E with calm := false, xe := fun _ _ => False }
section
variable {P : Program} {w : World} {K : PySem.W.Frag} {mg : Str → Option Value} {base : Heap} {N : List Str} {qual : Str} {f : Addr}
theorem Fun.okS {x : Str} {st : Stmt} {fd : FuncData} {ps : List Str} {k : Nat} {sp : Sp} (F : Fun K x qual st f fd) (S : FnScope N ps (defScope st)) (len : ∀ vs H Q E, sp vs H Q E → vs.length = ps.length)
    (hbody : ∀ (cdv : Value) (A : Around) (outer : List Env) (s : Shared) (H : Hp) (vs : List V) (Q : VK) (E : XK), sp vs H Q E →
      ∃ t, PSs (cxS P w K mg base N qual (defScope st) f cdv A outer s H E) (defBody st) t ∧ t { nx := fun _ H' => Q .non H', rt := Q } (start N vs) H) : FnOkS P w K mg base (k + 1) f fd ps sp := by
  obtain ⟨oc, od, kV, doc, pm, an, cdv, ct, osl, rfl, lk, hcd⟩ := F.ex
  refine ⟨len, fun A outer s H args us vs Q E hr e0 hb r hsp => ?_⟩
  have hl := len _ _ _ _ hsp
  have KX : K.In s.heap := e0.mod.kin.keeps fun b o e => (e0.bs b o e).1
  have lim : s.heap.NoLimit := e0.mod.nolimit.keeps fun b o e => (e0.bs b o e).1
  have hkind : ∀ y ∈ ps.zip us, (defScope st).names.lookup y.1 = some .local ∨ ((defScope st).names.lookup y.1 = some .cell ∧ ((cellsFrom (s.heap.objs.size + 1) (defScope st).names []).lookup y.1).isSome = true) := fun ⟨n, v⟩ hy => by
    rcases S.par n (List.of_mem_zip hy).1 with q | q
    · exact .inl q
    · exact .inr ⟨q, PySem.W.cellsFrom_some _ _ _ (.inl q)⟩
  refine codeAny_call_function (by have := hr.dp; omega) (KX _ _ lk) rfl S.co S.gen rfl (PySem.W.codeRec_of KX hcd) (hb _ _ _ _ ?_)
  refine wpAny_newFunctionEnv_cells S.kind hkind fun env he s1 x => ?_
  subst he
  refine ⟨lim.keeps x.toInCall.keep, codeAny_func ?_⟩
  obtain ⟨t, ht, hq⟩ := hbody cdv A outer s H vs Q E hsp
  have e1 : Env0 P w K mg base { A with handled := none } outer s H := ⟨e0.frames, e0.mod, e0.bs, e0.bsz, e0.funs, e0.frf, e0.hok, e0.bare⟩
  have I0 := inv_start (CX := CX0) (E := E) (f := f) (cd := cdv) (qual := qual) (N := N) S rfl e1 hl r x
  have I : Inv (cxS P w K mg base N qual (defScope st) f cdv A outer s H E) [] (start N vs) H s1 :=
    ⟨⟨I0.ok.mod, I0.ok.kind, I0.ok.glob, I0.ok.blt, I0.ok.above, I0.ok.inj, I0.ok.has, I0.ok.cab, (fun z => by cases z), Around.frames_deeper e0.frames, .inr ⟨rfl, rfl⟩, I0.ok.exf, I0.ok.bs, I0.ok.bsz, I0.ok.noex, I0.ok.exfs, I0.ok.funs, I0.ok.frf⟩,
      I0.os, I0.bare, I0.base, I0.loc, I0.cell, I0.free, I0.freeC, I0.pin, I0.hok, I0.len⟩
  refine wpAny_mono (ht [] s1 (start N vs) H _ I hq) (fun fl s' hs => ?_) fun e s' hs => hs.elim
  have fin : ∀ {σ' : St} {H' : Hp} {v : V} {u : Value}, Inv (cxS P w K mg base N qual (defScope st) f cdv A outer s H E) [] σ' H' s' → RelV v u → Q v H' → CE outer P w H s Q u s' :=
    fun {σ' H' v u} J rv q => ⟨v, H', J.os, J.bare, J.base, J.hok, rv, q⟩
  cases fl with
  | ret u =>
    obtain ⟨v, σ', H', J, rv, q⟩ := hs
    exact fin J rv q
  | next =>
    obtain ⟨σ', H', J, q⟩ := hs
    exact fin (v := V.non) (u := Value.none) J rfl q
  | brk =>
    obtain ⟨_, _, _, q⟩ := hs
    exact False.elim q
  | cont =>
    obtain ⟨_, _, _, q⟩ := hs
    exact False.elim q
end
section
variable {X : Cx}
theorem pe_callS {k : Nat} {f : Addr} {fd : FuncData} {ps : List Str} {sp : Sp} {x : Str} {p pos : Pos} {e : Expr} {es : List Expr} {t : TA} (F : FnOkS X.prog X.w X.K X.mg X.base k f fd ps sp) (hr : RoomS k X.A) (hg : Gl X x) (hm : X.mg x = some (.ref f)) (hk : PySem.W.keepIn X.K (.ref f) = true) (hb : Binds X.K fd ps [])
    (ha : PA X (e :: es) t) (hdb : (x == ("__debug__" : Str)) = false := by decide) (he : starEach (e :: es) X.env = (false, eval e X.env) :: starEach es X.env := by rfl) (hpl : (backTo pos (starEach es X.env)).any (·.1) = false := by rfl) :
    PE X (.Call (.Name x p) (e :: es) [] pos) (tCall sp [] E0 t) := by
  intro pins s σ H Q I h
  refine wpAny_Call_Name_kw (ld_glob I hg hm ?_ hdb)
  refine PySem.W.callWith_K (h₀ := X.base) I.ok.mod.kin hk (thn (ha pos pins s σ H _ I h) fun us s1 ⟨vs, H1, I1, r, q⟩ => ⟨I1.kIn, ?_⟩) he hpl
  have q' : sp (vs ++ []) H1 Q E0 := q
  rw [List.append_nil] at q'
  have hl : us.length = ps.length := by rw [← r.length]; exact F.len _ _ _ _ q'
  have hb' := hb s1 us I1.kIn (by rw [List.append_nil]; exact hl)
  rw [List.append_nil] at hb'
  refine wpAny_call (codeAny_mono (F.run X.A X.stack s1 H1 ⟨us, []⟩ us vs Q E0 hr I1.env0 hb' r q') fun r s' hq => ?_)
  rcases r with e | fl
  · exact False.elim hq
  · rcases fl with _ | _ | _ | u
    all_goals first | exact I1.after hq | exact False.elim hq
end
end L2
namespace EB
open PySem L2
noncomputable def SetIs (n : Nat) (pile : List Say) (H H' : Hp) (v : V) : Prop :=
  (v = .non ∧ First n pile [] none) ∨ ∃ (l : Addr) (S : List Bool), v = .ref l ∧ H l = none ∧ H' l = some (.lst (S.map V.bl)) ∧ First n pile [] (some S)
noncomputable def RingIs (n : Nat) (pile : List Say) (H H' : Hp) (v : V) : Prop :=
  (v = .non ∧ NoKnot n pile) ∨ ∃ (l : Addr) (R : List Int), v = .ref l ∧ H l = none ∧ H' l = some (.lst (R.map V.int)) ∧ RingOf n pile R
noncomputable def NewL (H H' : Hp) (v : V) : Prop := v = .non ∨ ∃ (l : Addr) (xs : List V), v = .ref l ∧ H l = none ∧ H' l = some (.lst xs)
theorem SetIs.newl {n : Nat} {pile : List Say} {H H' : Hp} {v : V} (h : SetIs n pile H H' v) : NewL H H' v := by
  rcases h with ⟨e, _⟩ | ⟨l, S, e, h1, h2, _⟩
  · exact .inl e
  · exact .inr ⟨l, _, e, h1, h2⟩
theorem RingIs.newl {n : Nat} {pile : List Say} {H H' : Hp} {v : V} (h : RingIs n pile H H' v) : NewL H H' v := by
  rcases h with ⟨e, _⟩ | ⟨l, S, e, h1, h2, _⟩
  · exact .inl e
  · exact .inr ⟨l, _, e, h1, h2⟩
theorem NewL.upd {H H1 : Hp} {v : V} {x : Addr} {ys : List V} (h : NewL H H1 v) : NewL H (upd H1 x (.lst ys)) v := by
  rcases h with e | ⟨l, xs, e, h1, h2⟩
  · exact .inl e
  · by_cases hx : l = x
    · subst hx
      exact .inr ⟨l, ys, e, h1, upd_same⟩
    · exact .inr ⟨l, xs, e, h1, by rw [upd_ne hx]; exact h2⟩
noncomputable def AnsAt (n : Nat) (pile : List Say) (c : Say) (H : Hp) (t lr : Addr) : Prop :=
  (∃ R : List Int, H t = some (.tup [.str "ring", .ref lr]) ∧ H lr = some (.lst (R.map V.int)) ∧ RingOf n pile R) ∨
  (∃ (s g : Int) (P : List Int), H t = some (.tup [.str "road", .ref lr]) ∧ H lr = some (.lst (P.map V.int)) ∧ NoKnot n pile ∧ Ends2 c s g ∧ RoadOf pile s g P) ∨
  (∃ S : List Bool, H t = some (.tup [.str "setting", .ref lr]) ∧ H lr = some (.lst (S.map V.bl)) ∧ First n pile [-c.1, -c.2] (some S))
theorem AnsAt.both {n : Nat} {pile : List Say} {c : Say} {H : Hp} {t lr : Addr} (h : AnsAt n pile c H t lr) : ∃ w xs, H t = some (.tup [.str w, .ref lr]) ∧ H lr = some (.lst xs) := by
  rcases h with ⟨_, a, b, _⟩ | ⟨_, _, _, a, b, _⟩ | ⟨_, a, b, _⟩
  · exact ⟨_, _, a, b⟩
  · exact ⟨_, _, a, b⟩
  · exact ⟨_, _, a, b⟩
noncomputable def But2 (l lp : Addr) (H H' : Hp) : Prop := ∀ b o, H b = some o → b ≠ l → b ≠ lp → H' b = some o
theorem But2.same {l lp : Addr} {H H' : Hp} (s : Same H H') : But2 l lp H H' := fun b o e _ _ => s b o e
theorem settings_cons : ∀ n : Nat, ∃ r, settings n = List.replicate n false :: r
  | 0 => ⟨[], rfl⟩
  | n + 1 => by
    obtain ⟨r, e⟩ := settings_cons n
    exact ⟨(List.replicate n false ++ [true]) :: r.flatMap fun b => [b ++ [false], b ++ [true]], by rw [settings, e, List.flatMap_cons, List.replicate_succ']; rfl⟩
theorem ok_empty (n : Nat) : PileOk n [] := fun c hc => by cases hc
theorem wl_empty (n : Nat) : ∀ x ∈ ([] : List Int), Lit n x := fun x hx => by cases hx
theorem first_empty {n : Nat} {S : List Bool} (h : First n [] [] (some S)) : S = List.replicate n false := by
  have e := first_find (ok_empty n) (wl_empty n) h
  obtain ⟨r, er⟩ := settings_cons n
  rw [er] at e
  have : (List.replicate n false :: r).find? (fun s => goodB [] s && wishB [] s) = some (List.replicate n false) := rfl
  rw [this] at e
  exact (Option.some.inj e).symm
theorem good_empty (S : List Bool) : goodB [] S = true := rfl
theorem noknot_empty (n : Nat) : NoKnot n [] := fun v h1 h2 k => knot_no (ok_empty n) (lit_nat h1 h2) k (good_empty [])
theorem first_some_empty {n : Nat} (h : First n [] [] none) : False := first_none (ok_empty n) (wl_empty n) h (good_empty []) (fun x hx => by cases hx)
theorem rep_one (n : Nat) : (List.replicate n [V.bl false]).flatten = (List.replicate n false).map V.bl := by
  induction n with
  | zero => rfl
  | succ n ih => rw [List.replicate_succ, List.flatten_cons, ih, List.replicate_succ]; rfl
theorem beyond_of {n : Nat} (cell : Int) : ∃ z : Int, atI [V.int 0, V.int ((n : Int) + 1 + cell / 64 % 1000), V.int (-(n : Int) - 1)] (cell / 8 % 3) = some (V.int z) ∧ ¬ Lit n z ∧ (n ≤ 1000 → z.natAbs < 10 ^ 30) := by
  obtain ⟨j, hj, ej⟩ := rest_of (cell / 8) (m := 3) (by decide)
  have h1 := Int.emod_nonneg (cell / 64) (b := 1000) (by decide)
  have h2 := Int.emod_lt_of_pos (cell / 64) (b := 1000) (by decide)
  rw [show cell / 8 % 3 = (j : Int) from ej]
  have : j = 0 ∨ j = 1 ∨ j = 2 := by omega
  have big : ∀ z : Int, z.natAbs < 10000 → z.natAbs < 10 ^ 30 := fun z h => Nat.lt_trans h (by decide)
  rcases this with rfl | rfl | rfl
  · exact ⟨0, rfl, (fun h => absurd h.1 (by decide)), fun _ => by decide⟩
  · refine ⟨_, rfl, (fun h => ?_), fun _ => big _ ?_⟩
    · have h3 : ((n : Int) + 1 + cell / 64 % 1000).natAbs ≤ n := h.2
      omega
    · omega
  · refine ⟨_, rfl, (fun h => ?_), fun _ => big _ ?_⟩
    · have h3 : (-(n : Int) - 1).natAbs ≤ n := h.2
      omega
    · omega
theorem two_of {α : Type} (f : α → V) (x y : α) (c : Int) : atI [f x, f y] (c % 2) = some (f x) ∨ atI [f x, f y] (c % 2) = some (f y) := by
  obtain ⟨j, hj, ej⟩ := rest_of c (m := 2) (by decide)
  rw [show c % 2 = (j : Int) from ej]
  have : j = 0 ∨ j = 1 := by omega
  rcases this with rfl | rfl
  · exact .inl rfl
  · exact .inr rfl
end EB
namespace L2
open PySem
theorem seq_hide {t1 t2 : TS} {D : Ends} {σ : St} {H : Hp} (h : ∀ R : TS, R = t2 → tSeq t1 R D σ H) : tSeq t1 t2 D σ H := h t2 rfl
end L2
namespace Eb
open PySem L2 EB
noncomputable def top (i : Nat) : Stmt := PySem.Challenge.pw_eitherbook_k12_whole_book.main.body.getD i (.Pass ⟨0, 0, 0, 0⟩)
noncomputable abbrev s_add_step : Stmt := top 8
noncomputable abbrev s_step_table : Stmt := top 9
noncomputable abbrev s_next_layer : Stmt := top 10
noncomputable abbrev s_traced_back : Stmt := top 11
noncomputable abbrev s_shortest : Stmt := top 12
noncomputable abbrev s_road : Stmt := top 13
noncomputable abbrev s_clash : Stmt := top 14
noncomputable abbrev s_grown : Stmt := top 16
noncomputable abbrev s_with_switch : Stmt := top 17
noncomputable abbrev s_first_good : Stmt := top 18
noncomputable abbrev s_least : Stmt := top 19
noncomputable abbrev s_least_with : Stmt := top 20
noncomputable abbrev s_road_for : Stmt := top 22
noncomputable abbrev s_why : Stmt := top 23
noncomputable abbrev s_against : Stmt := top 24
noncomputable abbrev s_Book_init : Stmt := inClass (top 27) 0
noncomputable abbrev s_Book_add : Stmt := inClass (top 27) 1
noncomputable abbrev s_Book_back : Stmt := inClass (top 27) 2
noncomputable abbrev s_Book_says : Stmt := inClass (top 27) 3
noncomputable abbrev s_Book_setting : Stmt := inClass (top 27) 4
noncomputable abbrev s_Book_ring : Stmt := inClass (top 27) 5
noncomputable abbrev s_Book_ask : Stmt := inClass (top 27) 6
noncomputable abbrev s_law_cell_at : Stmt := top 29
noncomputable abbrev s_law_lit_by : Stmt := top 30
noncomputable abbrev s_law_whole : Stmt := top 31
noncomputable abbrev s_law_true : Stmt := top 32
noncomputable abbrev s_law_all_true : Stmt := top 33
noncomputable abbrev s_law_is_setting : Stmt := top 34
noncomputable abbrev s_law_step : Stmt := top 35
noncomputable abbrev s_law_is_road : Stmt := top 36
noncomputable abbrev s_law_is_ring : Stmt := top 37
noncomputable abbrev s_law_reach : Stmt := top 38
noncomputable abbrev s_law_torn : Stmt := top 39
noncomputable abbrev s_law_lits : Stmt := top 40
noncomputable abbrev s_law_first : Stmt := top 41
noncomputable abbrev s_law_told : Stmt := top 42
noncomputable abbrev s_law_answers : Stmt := top 43
noncomputable abbrev s_law_asked : Stmt := top 44
noncomputable abbrev s_law_which : Stmt := top 45
noncomputable abbrev s_law_put_ill : Stmt := top 46
noncomputable abbrev s_law_taken_ill : Stmt := top 47
noncomputable abbrev s_law_deed : Stmt := top 48
noncomputable abbrev s_law : Stmt := top 49
set_option genInjectivity false in
set_option genSizeOf false in
structure Ad where
  f_add_step : Addr
  d_add_step : FuncData
  f_step_table : Addr
  d_step_table : FuncData
  f_next_layer : Addr
  d_next_layer : FuncData
  f_traced_back : Addr
  d_traced_back : FuncData
  f_shortest : Addr
  d_shortest : FuncData
  f_road : Addr
  d_road : FuncData
  f_clash : Addr
  d_clash : FuncData
  f_grown : Addr
  d_grown : FuncData
  f_with_switch : Addr
  d_with_switch : FuncData
  f_first_good : Addr
  d_first_good : FuncData
  f_least : Addr
  d_least : FuncData
  f_least_with : Addr
  d_least_with : FuncData
  f_road_for : Addr
  d_road_for : FuncData
  f_why : Addr
  d_why : FuncData
  f_against : Addr
  d_against : FuncData
  f_Book_init : Addr
  d_Book_init : FuncData
  f_Book_add : Addr
  d_Book_add : FuncData
  f_Book_back : Addr
  d_Book_back : FuncData
  f_Book_says : Addr
  d_Book_says : FuncData
  f_Book_setting : Addr
  d_Book_setting : FuncData
  f_Book_ring : Addr
  d_Book_ring : FuncData
  f_Book_ask : Addr
  d_Book_ask : FuncData
  f_law_cell_at : Addr
  d_law_cell_at : FuncData
  f_law_lit_by : Addr
  d_law_lit_by : FuncData
  f_law_whole : Addr
  d_law_whole : FuncData
  f_law_true : Addr
  d_law_true : FuncData
  f_law_all_true : Addr
  d_law_all_true : FuncData
  f_law_is_setting : Addr
  d_law_is_setting : FuncData
  f_law_step : Addr
  d_law_step : FuncData
  f_law_is_road : Addr
  d_law_is_road : FuncData
  f_law_is_ring : Addr
  d_law_is_ring : FuncData
  f_law_reach : Addr
  d_law_reach : FuncData
  f_law_torn : Addr
  d_law_torn : FuncData
  f_law_lits : Addr
  d_law_lits : FuncData
  f_law_first : Addr
  d_law_first : FuncData
  f_law_told : Addr
  d_law_told : FuncData
  f_law_answers : Addr
  d_law_answers : FuncData
  f_law_asked : Addr
  d_law_asked : FuncData
  f_law_which : Addr
  d_law_which : FuncData
  f_law_put_ill : Addr
  d_law_put_ill : FuncData
  f_law_taken_ill : Addr
  d_law_taken_ill : FuncData
  f_law_deed : Addr
  d_law_deed : FuncData
  f_law : Addr
  d_law : FuncData
  c_SayError : Addr
  c_BadSay : Addr
  c_BadLine : Addr
  c_FullBook : Addr
  c_EmptyBook : Addr
  c_NoSetting : Addr
  c_Book : Addr
set_option genInjectivity false in
set_option genSizeOf false in
structure Tx (K : PySem.W.Frag) (mg : Str → Option Value) (t : Ad) : Prop where
  F_add_step : Fun K "add_step" "add_step" s_add_step t.f_add_step t.d_add_step
  m_add_step : mg "add_step" = some (.ref t.f_add_step)
  F_step_table : Fun K "step_table" "step_table" s_step_table t.f_step_table t.d_step_table
  m_step_table : mg "step_table" = some (.ref t.f_step_table)
  F_next_layer : Fun K "next_layer" "next_layer" s_next_layer t.f_next_layer t.d_next_layer
  m_next_layer : mg "next_layer" = some (.ref t.f_next_layer)
  F_traced_back : Fun K "traced_back" "traced_back" s_traced_back t.f_traced_back t.d_traced_back
  m_traced_back : mg "traced_back" = some (.ref t.f_traced_back)
  F_shortest : Fun K "shortest" "shortest" s_shortest t.f_shortest t.d_shortest
  m_shortest : mg "shortest" = some (.ref t.f_shortest)
  F_road : Fun K "road" "road" s_road t.f_road t.d_road
  m_road : mg "road" = some (.ref t.f_road)
  F_clash : Fun K "clash" "clash" s_clash t.f_clash t.d_clash
  m_clash : mg "clash" = some (.ref t.f_clash)
  F_grown : Fun K "grown" "grown" s_grown t.f_grown t.d_grown
  m_grown : mg "grown" = some (.ref t.f_grown)
  F_with_switch : Fun K "with_switch" "with_switch" s_with_switch t.f_with_switch t.d_with_switch
  m_with_switch : mg "with_switch" = some (.ref t.f_with_switch)
  F_first_good : Fun K "first_good" "first_good" s_first_good t.f_first_good t.d_first_good
  m_first_good : mg "first_good" = some (.ref t.f_first_good)
  F_least : Fun K "least" "least" s_least t.f_least t.d_least
  m_least : mg "least" = some (.ref t.f_least)
  F_least_with : Fun K "least_with" "least_with" s_least_with t.f_least_with t.d_least_with
  m_least_with : mg "least_with" = some (.ref t.f_least_with)
  F_road_for : Fun K "road_for" "road_for" s_road_for t.f_road_for t.d_road_for
  m_road_for : mg "road_for" = some (.ref t.f_road_for)
  F_why : Fun K "why" "why" s_why t.f_why t.d_why
  m_why : mg "why" = some (.ref t.f_why)
  F_against : Fun K "against" "against" s_against t.f_against t.d_against
  m_against : mg "against" = some (.ref t.f_against)
  F_Book_init : Fun K "__init__" "Book.__init__" s_Book_init t.f_Book_init t.d_Book_init
  mk_Book : Mk K t.c_Book t.f_Book_init
  F_Book_add : Fun K "add" "Book.add" s_Book_add t.f_Book_add t.d_Book_add
  mt_Book_add : Meth K t.c_Book "add" t.f_Book_add
  F_Book_back : Fun K "back" "Book.back" s_Book_back t.f_Book_back t.d_Book_back
  mt_Book_back : Meth K t.c_Book "back" t.f_Book_back
  F_Book_says : Fun K "says" "Book.says" s_Book_says t.f_Book_says t.d_Book_says
  mt_Book_says : Meth K t.c_Book "says" t.f_Book_says
  F_Book_setting : Fun K "setting" "Book.setting" s_Book_setting t.f_Book_setting t.d_Book_setting
  mt_Book_setting : Meth K t.c_Book "setting" t.f_Book_setting
  F_Book_ring : Fun K "ring" "Book.ring" s_Book_ring t.f_Book_ring t.d_Book_ring
  mt_Book_ring : Meth K t.c_Book "ring" t.f_Book_ring
  F_Book_ask : Fun K "ask" "Book.ask" s_Book_ask t.f_Book_ask t.d_Book_ask
  mt_Book_ask : Meth K t.c_Book "ask" t.f_Book_ask
  F_law_cell_at : Fun K "_law_cell_at" "_law_cell_at" s_law_cell_at t.f_law_cell_at t.d_law_cell_at
  m_law_cell_at : mg "_law_cell_at" = some (.ref t.f_law_cell_at)
  F_law_lit_by : Fun K "_law_lit_by" "_law_lit_by" s_law_lit_by t.f_law_lit_by t.d_law_lit_by
  m_law_lit_by : mg "_law_lit_by" = some (.ref t.f_law_lit_by)
  F_law_whole : Fun K "_law_whole" "_law_whole" s_law_whole t.f_law_whole t.d_law_whole
  m_law_whole : mg "_law_whole" = some (.ref t.f_law_whole)
  F_law_true : Fun K "_law_true" "_law_true" s_law_true t.f_law_true t.d_law_true
  m_law_true : mg "_law_true" = some (.ref t.f_law_true)
  F_law_all_true : Fun K "_law_all_true" "_law_all_true" s_law_all_true t.f_law_all_true t.d_law_all_true
  m_law_all_true : mg "_law_all_true" = some (.ref t.f_law_all_true)
  F_law_is_setting : Fun K "_law_is_setting" "_law_is_setting" s_law_is_setting t.f_law_is_setting t.d_law_is_setting
  m_law_is_setting : mg "_law_is_setting" = some (.ref t.f_law_is_setting)
  F_law_step : Fun K "_law_step" "_law_step" s_law_step t.f_law_step t.d_law_step
  m_law_step : mg "_law_step" = some (.ref t.f_law_step)
  F_law_is_road : Fun K "_law_is_road" "_law_is_road" s_law_is_road t.f_law_is_road t.d_law_is_road
  m_law_is_road : mg "_law_is_road" = some (.ref t.f_law_is_road)
  F_law_is_ring : Fun K "_law_is_ring" "_law_is_ring" s_law_is_ring t.f_law_is_ring t.d_law_is_ring
  m_law_is_ring : mg "_law_is_ring" = some (.ref t.f_law_is_ring)
  F_law_reach : Fun K "_law_reach" "_law_reach" s_law_reach t.f_law_reach t.d_law_reach
  m_law_reach : mg "_law_reach" = some (.ref t.f_law_reach)
  F_law_torn : Fun K "_law_torn" "_law_torn" s_law_torn t.f_law_torn t.d_law_torn
  m_law_torn : mg "_law_torn" = some (.ref t.f_law_torn)
  F_law_lits : Fun K "_law_lits" "_law_lits" s_law_lits t.f_law_lits t.d_law_lits
  m_law_lits : mg "_law_lits" = some (.ref t.f_law_lits)
  F_law_first : Fun K "_law_first" "_law_first" s_law_first t.f_law_first t.d_law_first
  m_law_first : mg "_law_first" = some (.ref t.f_law_first)
  F_law_told : Fun K "_law_told" "_law_told" s_law_told t.f_law_told t.d_law_told
  m_law_told : mg "_law_told" = some (.ref t.f_law_told)
  F_law_answers : Fun K "_law_answers" "_law_answers" s_law_answers t.f_law_answers t.d_law_answers
  m_law_answers : mg "_law_answers" = some (.ref t.f_law_answers)
  F_law_asked : Fun K "_law_asked" "_law_asked" s_law_asked t.f_law_asked t.d_law_asked
  m_law_asked : mg "_law_asked" = some (.ref t.f_law_asked)
  F_law_which : Fun K "_law_which" "_law_which" s_law_which t.f_law_which t.d_law_which
  m_law_which : mg "_law_which" = some (.ref t.f_law_which)
  F_law_put_ill : Fun K "_law_put_ill" "_law_put_ill" s_law_put_ill t.f_law_put_ill t.d_law_put_ill
  m_law_put_ill : mg "_law_put_ill" = some (.ref t.f_law_put_ill)
  F_law_taken_ill : Fun K "_law_taken_ill" "_law_taken_ill" s_law_taken_ill t.f_law_taken_ill t.d_law_taken_ill
  m_law_taken_ill : mg "_law_taken_ill" = some (.ref t.f_law_taken_ill)
  F_law_deed : Fun K "_law_deed" "_law_deed" s_law_deed t.f_law_deed t.d_law_deed
  m_law_deed : mg "_law_deed" = some (.ref t.f_law_deed)
  F_law : Fun K "law" "law" s_law t.f_law t.d_law
  m_law : mg "law" = some (.ref t.f_law)
  cl_Book : Cls K t.c_Book
  nn_Book : IsC K "Book" t.c_Book
  m_Book : mg "Book" = some (.ref t.c_Book)
  nf_many : NoAttr K t.c_Book "many"
  nf_pile : NoAttr K t.c_Book "pile"
  z_ValueError : mg "ValueError" = none
  z_abs : mg "abs" = none
  z_bool : mg "bool" = none
  z_dict : mg "dict" = none
  z_int : mg "int" = none
  z_isinstance : mg "isinstance" = none
  z_len : mg "len" = none
  z_list : mg "list" = none
  z_range : mg "range" = none
  z_reversed : mg "reversed" = none
  z_str : mg "str" = none
  z_tuple : mg "tuple" = none
  ob : ObK K
  n_SayError : IsC K "SayError" t.c_SayError
  m_SayError : mg "SayError" = some (.ref t.c_SayError)
  x_SayError : ExK K t.c_SayError
  n_BadSay : IsC K "BadSay" t.c_BadSay
  m_BadSay : mg "BadSay" = some (.ref t.c_BadSay)
  x_BadSay : ExK K t.c_BadSay
  n_BadLine : IsC K "BadLine" t.c_BadLine
  m_BadLine : mg "BadLine" = some (.ref t.c_BadLine)
  x_BadLine : ExK K t.c_BadLine
  n_FullBook : IsC K "FullBook" t.c_FullBook
  m_FullBook : mg "FullBook" = some (.ref t.c_FullBook)
  x_FullBook : ExK K t.c_FullBook
  n_EmptyBook : IsC K "EmptyBook" t.c_EmptyBook
  m_EmptyBook : mg "EmptyBook" = some (.ref t.c_EmptyBook)
  x_EmptyBook : ExK K t.c_EmptyBook
  n_NoSetting : IsC K "NoSetting" t.c_NoSetting
  m_NoSetting : mg "NoSetting" = some (.ref t.c_NoSetting)
  x_NoSetting : ExK K t.c_NoSetting
  s_BadSay_SayError : PySem.W.mroIn K t.c_BadSay (.ref t.c_SayError) = some true
  q_BadSay_BadSay : PySem.W.kitOne K (.ref t.c_BadSay) (.ref t.c_BadSay) = some true
  q_BadSay_EmptyBook : PySem.W.kitOne K (.ref t.c_BadSay) (.ref t.c_EmptyBook) = some false
  q_BadSay_BadLine : PySem.W.kitOne K (.ref t.c_BadSay) (.ref t.c_BadLine) = some false
  q_BadSay_FullBook : PySem.W.kitOne K (.ref t.c_BadSay) (.ref t.c_FullBook) = some false
  q_BadSay_NoSetting : PySem.W.kitOne K (.ref t.c_BadSay) (.ref t.c_NoSetting) = some false
  q_BadSay_ValueError : PySem.W.kitOne K (.ref t.c_BadSay) (.type "ValueError") = some true
  s_FullBook_SayError : PySem.W.mroIn K t.c_FullBook (.ref t.c_SayError) = some true
  q_FullBook_BadSay : PySem.W.kitOne K (.ref t.c_FullBook) (.ref t.c_BadSay) = some false
  q_FullBook_EmptyBook : PySem.W.kitOne K (.ref t.c_FullBook) (.ref t.c_EmptyBook) = some false
  q_FullBook_BadLine : PySem.W.kitOne K (.ref t.c_FullBook) (.ref t.c_BadLine) = some false
  q_FullBook_FullBook : PySem.W.kitOne K (.ref t.c_FullBook) (.ref t.c_FullBook) = some true
  q_FullBook_NoSetting : PySem.W.kitOne K (.ref t.c_FullBook) (.ref t.c_NoSetting) = some false
  q_FullBook_ValueError : PySem.W.kitOne K (.ref t.c_FullBook) (.type "ValueError") = some true
  s_EmptyBook_SayError : PySem.W.mroIn K t.c_EmptyBook (.ref t.c_SayError) = some true
  q_EmptyBook_BadSay : PySem.W.kitOne K (.ref t.c_EmptyBook) (.ref t.c_BadSay) = some false
  q_EmptyBook_EmptyBook : PySem.W.kitOne K (.ref t.c_EmptyBook) (.ref t.c_EmptyBook) = some true
  q_EmptyBook_BadLine : PySem.W.kitOne K (.ref t.c_EmptyBook) (.ref t.c_BadLine) = some false
  q_EmptyBook_FullBook : PySem.W.kitOne K (.ref t.c_EmptyBook) (.ref t.c_FullBook) = some false
  q_EmptyBook_NoSetting : PySem.W.kitOne K (.ref t.c_EmptyBook) (.ref t.c_NoSetting) = some false
  q_EmptyBook_ValueError : PySem.W.kitOne K (.ref t.c_EmptyBook) (.type "ValueError") = some true
  g_MOST_SAYS : ∃ tk, mg "MOST_SAYS" = some (.int 400 tk)
theorem lenS {us : List Value} {n : Nat} (h : us.length = n + 1) : ∃ a vs, us = a :: vs ∧ vs.length = n := by
  cases us with
  | nil => cases h
  | cons a vs => exact ⟨a, vs, rfl, Nat.succ.inj h⟩
theorem bd1 {K : PySem.W.Frag} {x qual : Str} {st : Stmt} {f : Addr} {fd : FuncData} {p0 : Str} (F : Fun K x qual st f fd) (h : ∀ (kV doc pm : Value) (an : Option Addr) (cdv ct u0 : Value), bindArgs (PySem.W.fnOf x qual (defArgs st) (defBody st) (defScope st) .none kV doc pm an cdv ct) ⟨[u0], []⟩ = pure [(p0, u0)]) : Binds K fd [p0] [] := F.binds (ps := [p0]) fun kV doc pm an cdv ct us hl => by
  obtain ⟨u0, v0, rfl, h0⟩ := lenS hl
  cases List.length_eq_zero_iff.mp h0
  exact h kV doc pm an cdv ct u0
theorem bd2 {K : PySem.W.Frag} {x qual : Str} {st : Stmt} {f : Addr} {fd : FuncData} {p0 p1 : Str} (F : Fun K x qual st f fd) (h : ∀ (kV doc pm : Value) (an : Option Addr) (cdv ct u0 u1 : Value), bindArgs (PySem.W.fnOf x qual (defArgs st) (defBody st) (defScope st) .none kV doc pm an cdv ct) ⟨[u0, u1], []⟩ = pure [(p0, u0), (p1, u1)]) : Binds K fd [p0, p1] [] := F.binds (ps := [p0, p1]) fun kV doc pm an cdv ct us hl => by
  obtain ⟨u0, v0, rfl, h0⟩ := lenS hl
  obtain ⟨u1, v1, rfl, h1⟩ := lenS h0
  cases List.length_eq_zero_iff.mp h1
  exact h kV doc pm an cdv ct u0 u1
theorem bd3 {K : PySem.W.Frag} {x qual : Str} {st : Stmt} {f : Addr} {fd : FuncData} {p0 p1 p2 : Str} (F : Fun K x qual st f fd) (h : ∀ (kV doc pm : Value) (an : Option Addr) (cdv ct u0 u1 u2 : Value), bindArgs (PySem.W.fnOf x qual (defArgs st) (defBody st) (defScope st) .none kV doc pm an cdv ct) ⟨[u0, u1, u2], []⟩ = pure [(p0, u0), (p1, u1), (p2, u2)]) : Binds K fd [p0, p1, p2] [] := F.binds (ps := [p0, p1, p2]) fun kV doc pm an cdv ct us hl => by
  obtain ⟨u0, v0, rfl, h0⟩ := lenS hl
  obtain ⟨u1, v1, rfl, h1⟩ := lenS h0
  obtain ⟨u2, v2, rfl, h2⟩ := lenS h1
  cases List.length_eq_zero_iff.mp h2
  exact h kV doc pm an cdv ct u0 u1 u2
theorem bd4 {K : PySem.W.Frag} {x qual : Str} {st : Stmt} {f : Addr} {fd : FuncData} {p0 p1 p2 p3 : Str} (F : Fun K x qual st f fd) (h : ∀ (kV doc pm : Value) (an : Option Addr) (cdv ct u0 u1 u2 u3 : Value), bindArgs (PySem.W.fnOf x qual (defArgs st) (defBody st) (defScope st) .none kV doc pm an cdv ct) ⟨[u0, u1, u2, u3], []⟩ = pure [(p0, u0), (p1, u1), (p2, u2), (p3, u3)]) : Binds K fd [p0, p1, p2, p3] [] := F.binds (ps := [p0, p1, p2, p3]) fun kV doc pm an cdv ct us hl => by
  obtain ⟨u0, v0, rfl, h0⟩ := lenS hl
  obtain ⟨u1, v1, rfl, h1⟩ := lenS h0
  obtain ⟨u2, v2, rfl, h2⟩ := lenS h1
  obtain ⟨u3, v3, rfl, h3⟩ := lenS h2
  cases List.length_eq_zero_iff.mp h3
  exact h kV doc pm an cdv ct u0 u1 u2 u3
theorem Tx.b_add_step {K : PySem.W.Frag} {mg : Str → Option Value} {t : Ad} (T : Tx K mg t) : Binds K t.d_add_step ["table", "lit", "follower"] [] := bd3 T.F_add_step fun _ _ _ _ _ _ _ _ _ => rfl
theorem Tx.b_step_table {K : PySem.W.Frag} {mg : Str → Option Value} {t : Ad} (T : Tx K mg t) : Binds K t.d_step_table ["pile"] [] := bd1 T.F_step_table fun _ _ _ _ _ _ _ => rfl
theorem Tx.b_next_layer {K : PySem.W.Frag} {mg : Str → Option Value} {t : Ad} (T : Tx K mg t) : Binds K t.d_next_layer ["table", "layer", "came_from"] [] := bd3 T.F_next_layer fun _ _ _ _ _ _ _ _ _ => rfl
theorem Tx.b_traced_back {K : PySem.W.Frag} {mg : Str → Option Value} {t : Ad} (T : Tx K mg t) : Binds K t.d_traced_back ["came_from", "goal"] [] := bd2 T.F_traced_back fun _ _ _ _ _ _ _ _ => rfl
theorem Tx.b_shortest {K : PySem.W.Frag} {mg : Str → Option Value} {t : Ad} (T : Tx K mg t) : Binds K t.d_shortest ["table", "start", "goal"] [] := bd3 T.F_shortest fun _ _ _ _ _ _ _ _ _ => rfl
theorem Tx.b_road {K : PySem.W.Frag} {mg : Str → Option Value} {t : Ad} (T : Tx K mg t) : Binds K t.d_road ["pile", "start", "goal"] [] := bd3 T.F_road fun _ _ _ _ _ _ _ _ _ => rfl
theorem Tx.b_clash {K : PySem.W.Frag} {mg : Str → Option Value} {t : Ad} (T : Tx K mg t) : Binds K t.d_clash ["many", "pile"] [] := bd2 T.F_clash fun _ _ _ _ _ _ _ _ => rfl
theorem Tx.b_grown {K : PySem.W.Frag} {mg : Str → Option Value} {t : Ad} (T : Tx K mg t) : Binds K t.d_grown ["table", "known", "lits"] [] := bd3 T.F_grown fun _ _ _ _ _ _ _ _ _ => rfl
theorem Tx.b_with_switch {K : PySem.W.Frag} {mg : Str → Option Value} {t : Ad} (T : Tx K mg t) : Binds K t.d_with_switch ["table", "known", "switch"] [] := bd3 T.F_with_switch fun _ _ _ _ _ _ _ _ _ => rfl
theorem Tx.b_first_good {K : PySem.W.Frag} {mg : Str → Option Value} {t : Ad} (T : Tx K mg t) : Binds K t.d_first_good ["many", "table", "wishes"] [] := bd3 T.F_first_good fun _ _ _ _ _ _ _ _ _ => rfl
theorem Tx.b_least {K : PySem.W.Frag} {mg : Str → Option Value} {t : Ad} (T : Tx K mg t) : Binds K t.d_least ["many", "pile"] [] := bd2 T.F_least fun _ _ _ _ _ _ _ _ => rfl
theorem Tx.b_least_with {K : PySem.W.Frag} {mg : Str → Option Value} {t : Ad} (T : Tx K mg t) : Binds K t.d_least_with ["many", "pile", "wishes"] [] := bd3 T.F_least_with fun _ _ _ _ _ _ _ _ _ => rfl
theorem Tx.b_road_for {K : PySem.W.Frag} {mg : Str → Option Value} {t : Ad} (T : Tx K mg t) : Binds K t.d_road_for ["pile", "say"] [] := bd2 T.F_road_for fun _ _ _ _ _ _ _ _ => rfl
theorem Tx.b_why {K : PySem.W.Frag} {mg : Str → Option Value} {t : Ad} (T : Tx K mg t) : Binds K t.d_why ["many", "pile", "say"] [] := bd3 T.F_why fun _ _ _ _ _ _ _ _ _ => rfl
theorem Tx.b_against {K : PySem.W.Frag} {mg : Str → Option Value} {t : Ad} (T : Tx K mg t) : Binds K t.d_against ["many", "pile", "say"] [] := bd3 T.F_against fun _ _ _ _ _ _ _ _ _ => rfl
theorem Tx.b_Book_init {K : PySem.W.Frag} {mg : Str → Option Value} {t : Ad} (T : Tx K mg t) : Binds K t.d_Book_init ["self", "many"] [] := bd2 T.F_Book_init fun _ _ _ _ _ _ _ _ => rfl
theorem Tx.b_Book_add {K : PySem.W.Frag} {mg : Str → Option Value} {t : Ad} (T : Tx K mg t) : Binds K t.d_Book_add ["self", "say"] [] := bd2 T.F_Book_add fun _ _ _ _ _ _ _ _ => rfl
theorem Tx.b_Book_back {K : PySem.W.Frag} {mg : Str → Option Value} {t : Ad} (T : Tx K mg t) : Binds K t.d_Book_back ["self"] [] := bd1 T.F_Book_back fun _ _ _ _ _ _ _ => rfl
theorem Tx.b_Book_says {K : PySem.W.Frag} {mg : Str → Option Value} {t : Ad} (T : Tx K mg t) : Binds K t.d_Book_says ["self"] [] := bd1 T.F_Book_says fun _ _ _ _ _ _ _ => rfl
theorem Tx.b_Book_setting {K : PySem.W.Frag} {mg : Str → Option Value} {t : Ad} (T : Tx K mg t) : Binds K t.d_Book_setting ["self"] [] := bd1 T.F_Book_setting fun _ _ _ _ _ _ _ => rfl
theorem Tx.b_Book_ring {K : PySem.W.Frag} {mg : Str → Option Value} {t : Ad} (T : Tx K mg t) : Binds K t.d_Book_ring ["self"] [] := bd1 T.F_Book_ring fun _ _ _ _ _ _ _ => rfl
theorem Tx.b_Book_ask {K : PySem.W.Frag} {mg : Str → Option Value} {t : Ad} (T : Tx K mg t) : Binds K t.d_Book_ask ["self", "say"] [] := bd2 T.F_Book_ask fun _ _ _ _ _ _ _ _ => rfl
theorem Tx.b_law_cell_at {K : PySem.W.Frag} {mg : Str → Option Value} {t : Ad} (T : Tx K mg t) : Binds K t.d_law_cell_at ["script", "k"] [] := bd2 T.F_law_cell_at fun _ _ _ _ _ _ _ _ => rfl
theorem Tx.b_law_lit_by {K : PySem.W.Frag} {mg : Str → Option Value} {t : Ad} (T : Tx K mg t) : Binds K t.d_law_lit_by ["index"] [] := bd1 T.F_law_lit_by fun _ _ _ _ _ _ _ => rfl
theorem Tx.b_law_whole {K : PySem.W.Frag} {mg : Str → Option Value} {t : Ad} (T : Tx K mg t) : Binds K t.d_law_whole ["found"] [] := bd1 T.F_law_whole fun _ _ _ _ _ _ _ => rfl
theorem Tx.b_law_true {K : PySem.W.Frag} {mg : Str → Option Value} {t : Ad} (T : Tx K mg t) : Binds K t.d_law_true ["say", "bits"] [] := bd2 T.F_law_true fun _ _ _ _ _ _ _ _ => rfl
theorem Tx.b_law_all_true {K : PySem.W.Frag} {mg : Str → Option Value} {t : Ad} (T : Tx K mg t) : Binds K t.d_law_all_true ["pile", "bits"] [] := bd2 T.F_law_all_true fun _ _ _ _ _ _ _ _ => rfl
theorem Tx.b_law_is_setting {K : PySem.W.Frag} {mg : Str → Option Value} {t : Ad} (T : Tx K mg t) : Binds K t.d_law_is_setting ["found", "many"] [] := bd2 T.F_law_is_setting fun _ _ _ _ _ _ _ _ => rfl
theorem Tx.b_law_step {K : PySem.W.Frag} {mg : Str → Option Value} {t : Ad} (T : Tx K mg t) : Binds K t.d_law_step ["pile", "here", "there"] [] := bd3 T.F_law_step fun _ _ _ _ _ _ _ _ _ => rfl
theorem Tx.b_law_is_road {K : PySem.W.Frag} {mg : Str → Option Value} {t : Ad} (T : Tx K mg t) : Binds K t.d_law_is_road ["pile", "found"] [] := bd2 T.F_law_is_road fun _ _ _ _ _ _ _ _ => rfl
theorem Tx.b_law_is_ring {K : PySem.W.Frag} {mg : Str → Option Value} {t : Ad} (T : Tx K mg t) : Binds K t.d_law_is_ring ["pile", "found"] [] := bd2 T.F_law_is_ring fun _ _ _ _ _ _ _ _ => rfl
theorem Tx.b_law_reach {K : PySem.W.Frag} {mg : Str → Option Value} {t : Ad} (T : Tx K mg t) : Binds K t.d_law_reach ["pile", "starts"] [] := bd2 T.F_law_reach fun _ _ _ _ _ _ _ _ => rfl
theorem Tx.b_law_torn {K : PySem.W.Frag} {mg : Str → Option Value} {t : Ad} (T : Tx K mg t) : Binds K t.d_law_torn ["lits"] [] := bd1 T.F_law_torn fun _ _ _ _ _ _ _ => rfl
theorem Tx.b_law_lits {K : PySem.W.Frag} {mg : Str → Option Value} {t : Ad} (T : Tx K mg t) : Binds K t.d_law_lits ["bits", "count"] [] := bd2 T.F_law_lits fun _ _ _ _ _ _ _ _ => rfl
theorem Tx.b_law_first {K : PySem.W.Frag} {mg : Str → Option Value} {t : Ad} (T : Tx K mg t) : Binds K t.d_law_first ["pile", "wishes", "bits"] [] := bd3 T.F_law_first fun _ _ _ _ _ _ _ _ _ => rfl
theorem Tx.b_law_told {K : PySem.W.Frag} {mg : Str → Option Value} {t : Ad} (T : Tx K mg t) : Binds K t.d_law_told ["book", "pile"] [] := bd2 T.F_law_told fun _ _ _ _ _ _ _ _ => rfl
theorem Tx.b_law_answers {K : PySem.W.Frag} {mg : Str → Option Value} {t : Ad} (T : Tx K mg t) : Binds K t.d_law_answers ["book", "pile", "say", "found"] [] := bd4 T.F_law_answers fun _ _ _ _ _ _ _ _ _ _ => rfl
theorem Tx.b_law_asked {K : PySem.W.Frag} {mg : Str → Option Value} {t : Ad} (T : Tx K mg t) : Binds K t.d_law_asked ["book", "pile", "say"] [] := bd3 T.F_law_asked fun _ _ _ _ _ _ _ _ _ => rfl
theorem Tx.b_law_which {K : PySem.W.Frag} {mg : Str → Option Value} {t : Ad} (T : Tx K mg t) : Binds K t.d_law_which ["e"] [] := bd1 T.F_law_which fun _ _ _ _ _ _ _ => rfl
theorem Tx.b_law_put_ill {K : PySem.W.Frag} {mg : Str → Option Value} {t : Ad} (T : Tx K mg t) : Binds K t.d_law_put_ill ["book", "say"] [] := bd2 T.F_law_put_ill fun _ _ _ _ _ _ _ _ => rfl
theorem Tx.b_law_taken_ill {K : PySem.W.Frag} {mg : Str → Option Value} {t : Ad} (T : Tx K mg t) : Binds K t.d_law_taken_ill ["book"] [] := bd1 T.F_law_taken_ill fun _ _ _ _ _ _ _ => rfl
theorem Tx.b_law_deed {K : PySem.W.Frag} {mg : Str → Option Value} {t : Ad} (T : Tx K mg t) : Binds K t.d_law_deed ["book", "pile", "cell", "many"] [] := bd4 T.F_law_deed fun _ _ _ _ _ _ _ _ _ _ => rfl
inductive Sp_add_step (K : PySem.W.Frag) (vs : List V) (H : Hp) (Q : VK) (E : XK) : Prop
  | mk (t : Addr) (x y : Int) (H0 : Hp) (T : Int → List Int) (m : Nat) (h0 : vs = [.ref t, .int x, .int y]) (h1 : TabAt H0 H t T m) (h2 : m ≤ 5000) (h3 : (T x).length ≤ 5000) (h4 : ∀ H', TabAt H0 H' t (addT T x y) (m + 1) → Q .non H') : Sp_add_step K vs H Q E
noncomputable abbrev sp_add_step (K : PySem.W.Frag) : Sp := fun vs H Q E => Sp_add_step K vs H Q E
theorem sc_add_step : FnScope ["table", "lit", "follower", "followers"] ["table", "lit", "follower"] (defScope s_add_step) := ⟨rfl, rfl, rfl, by decide +kernel, rfl, by decide +kernel, by decide +kernel⟩
set_option maxHeartbeats 4000000 in
theorem ok_add_step {P : Program} {w : World} {K : PySem.W.Frag} {mg : Str → Option Value} {base : Heap} {t : Ad} (T : Tx K mg t) : FnOk P w K mg base CX0 1 t.f_add_step t.d_add_step ["table", "lit", "follower"] (sp_add_step K) := by
  refine T.F_add_step.ok sc_add_step (fun vs H Q E h => ?_) (fun cdv A outer s H vs Q E hr h => ?_)
  · obtain ⟨t', x, y, H0, T', m, rfl, tb, hm, hx, q⟩ := h
    rfl
  · obtain ⟨t', x, y, H0, T', m, rfl, tb, hm, hx, q⟩ := h
    have hu := hu_of hr
    refine ⟨_, (pss_cons (ps_set (i := 3) sc_add_step.nd rfl (Or.inl rfl) (pe_bm PySem.F.plainAttrs_dict PySem.F.slot_dict_setdefault PySem.F.type_dict_setdefault mt_setdefault (pv 0) (pa_cons (pv 1) (pa_cons (pe_lst pa_nil) pa_nil))))
      (pss_one (ps_if (pt_cmpR op_notIn_seq (pv 2) (pv 3) (by with_unfolding_all rfl)) (pss_one (ps_expr (pe_bm PySem.F.plainAttrs_list PySem.F.slot_list_append PySem.F.type_list_append mt_append (pv 3) (pa_cons (pv 2) pa_nil)))) pss_nil))), ?_⟩
    try dsimp only [cxOf]
    obtain ⟨kvs, hk, hm2, look⟩ := tb.look
    have big : ∀ n, n ≤ 5000 → n < sizeLine := fun n h => Nat.lt_of_le_of_lt h (by decide)
    refine ⟨_, rfl, .inr (.inr (.inl ⟨rfl, .inl ⟨kvs, hk⟩⟩)), _, rfl, by decide, fun l0 h0 => ?_⟩
    have s0 := same_new (o := .lst []) h0
    refine ⟨t', kvs, Sum.inl x, _, rfl, rfl, s0 _ _ hk, big _ (by omega), fun v e => ?_, fun e => ?_⟩
    · rcases look x with ⟨z, _⟩ | ⟨l, a, b, c⟩
      · rw [e] at z; cases z
      · rw [e] at a
        cases a
        refine ⟨_, rfl, _, rfl, l, _, rfl, .inl (SqL.of (s0 _ _ b)), rfl, flat_ints _, _, rfl, ?_⟩
        rw [if_pos rfl, in_ints]
        by_cases hy : y ∈ T' x
        · rw [decide_eq_true hy]
          exact iteF (q _ (tb.skip h0 hy))
        · rw [decide_eq_false hy]
          refine iteT ⟨_, rfl, .inl ⟨rfl, _, SqL.of (s0 _ _ b)⟩, _, rfl, l, _, _, rfl, rfl, s0 _ _ b, big _ (by rw [List.length_map]; exact hx), ?_⟩
          exact q _ (tb.more hk h0 e hy)
    · have ntl : l0 ≠ t' := fun z => by rw [z, hk] at h0; cases h0
      have g : upd (upd H l0 (.lst [])) t' (.dK (putK kvs (Sum.inl x) (.ref l0))) l0 = some (.lst []) := by rw [upd_ne ntl]; exact upd_same
      refine ⟨_, rfl, _, rfl, l0, _, rfl, .inl (SqL.of g), rfl, rfl, _, rfl, ?_⟩
      refine iteT ⟨_, rfl, .inl ⟨rfl, _, SqL.of g⟩, _, rfl, l0, _, _, rfl, rfl, g, by decide, ?_⟩
      exact q _ (tb.key hk h0 e)
inductive Sp_step_table (K : PySem.W.Frag) (vs : List V) (H : Hp) (Q : VK) (E : XK) : Prop
  | mk (l : Addr) (pile : List Say) (h0 : vs = [.ref l]) (h1 : PileAt H l pile) (h2 : pile.length ≤ 1000) (h3 : ∀ (t : Addr) (H' : Hp), TabAt H H' t (due pile) (2 * pile.length) → Q (.ref t) H') : Sp_step_table K vs H Q E
noncomputable abbrev sp_step_table (K : PySem.W.Frag) : Sp := fun vs H Q E => Sp_step_table K vs H Q E
theorem sc_step_table : FnScope ["pile", "table", "p", "q"] ["pile"] (defScope s_step_table) := ⟨rfl, rfl, rfl, by decide +kernel, rfl, by decide +kernel, by decide +kernel⟩
set_option maxHeartbeats 4000000 in
theorem ok_step_table {P : Program} {w : World} {K : PySem.W.Frag} {mg : Str → Option Value} {base : Heap} {t : Ad} (T : Tx K mg t) : FnOk P w K mg base CX0 2 t.f_step_table t.d_step_table ["pile"] (sp_step_table K) := by
  have G_add_step := ok_add_step (P := P) (w := w) (base := base) T
  refine T.F_step_table.ok sc_step_table (fun vs H Q E h => ?_) (fun cdv A outer s H vs Q E hr h => ?_)
  · obtain ⟨l, pile, rfl, P', hp, q⟩ := h
    rfl
  · obtain ⟨l, pile, rfl, P', hp, q⟩ := h
    have hu := hu_of hr
    refine ⟨_, (pss_cons (ps_set (i := 1) sc_step_table.nd rfl (Or.inl rfl) pe_dnewK)
      (pss_cons (ps_for PassesOwn.never rfl (pi_list (pv 0)) (pg_tup rfl (pgs_cons (pg_name (i := 2) sc_step_table.nd rfl (Or.inl rfl)) (pgs_cons (pg_name (i := 3) sc_step_table.nd rfl (Or.inl rfl)) pgs_nil)))
        (pss_cons (ps_expr (pe_call G_add_step (hr.mono (by decide)) rfl T.m_add_step T.F_add_step.kp T.b_add_step .nil pass0 (pa_cons (pv 1) (pa_cons (pe_un un_neg (pv 2)) (pa_cons (pv 3) pa_nil)))))
        (pss_one (ps_expr (pe_call G_add_step (hr.mono (by decide)) rfl T.m_add_step T.F_add_step.kp T.b_add_step .nil pass0 (pa_cons (pv 1) (pa_cons (pe_un un_neg (pv 3)) (pa_cons (pv 2) pa_nil))))))))
      (pss_one (ps_ret (pv 1))))), ?_⟩
    try dsimp only [cxOf]
    obtain ⟨as, hl, ht⟩ := P'
    refine fun d hd => ?_
    have g := same_new (o := .dK []) hd
    refine ⟨_, rfl, l, rfl, ⟨_, SqL.of (g _ _ hl)⟩, for_list (K := K) (a := l) (xs := as.map V.ref) (fun i σ H2 => ∃ (v w : Option V), σ = [some (.ref l), some (.ref d), v, w] ∧ TabAt H H2 d (due (pile.take i)) (2 * i))
      ⟨none, none, rfl, TabAt.start hd⟩ (fun i σ H2 _ ⟨_, _, _, tb⟩ => SqL.of (tb.same _ _ hl)) ?_ ?_⟩
    · rintro i x σ H2 hi ⟨v, w, rfl, tb⟩
      obtain ⟨b, c, rfl, e1, e2, e3⟩ := ht.get hi
      have hil : i < pile.length := (List.getElem?_eq_some_iff.mp e2).1
      have len : ∀ (p : List Say) (x : Int), (due p x).length ≤ 2 * p.length := due_short
      have h1 := len (pile.take i) (-c.1)
      have h2 := len (pile.take i) (-c.2)
      rw [List.length_take] at h1 h2
      have hmin : min i pile.length = i := Nat.min_eq_left (Nat.le_of_lt hil)
      rw [hmin] at h1 h2
      refine ⟨b, _, rfl, SqT.of (tb.same _ _ e3), rfl, _, _, rfl, _, _, rfl, rfl, ?_⟩
      refine ⟨_, rfl, _, rfl, _, rfl, _, rfl, d, _, _, H, _, _, rfl, tb, by omega, by omega, fun H3 tb3 => ?_⟩
      have h3 : (addT (due (pile.take i)) (-c.1) c.2 (-c.2)).length ≤ 5000 := by
        by_cases z : -c.2 = -c.1
        · rw [z, addT_same]; have := addNew_len (l := due (pile.take i) (-c.1)) (x := c.2); omega
        · rw [addT_ne z]; omega
      refine ⟨_, rfl, _, rfl, _, rfl, _, rfl, d, _, _, H, _, _, rfl, tb3, by omega, h3, fun H4 tb4 => ?_⟩
      rw [addT_due, ← take_snoc e2] at tb4
      exact ⟨_, _, rfl, tb4⟩
    · rintro σ H2 ⟨v, w, rfl, tb⟩
      rw [List.length_map, ht.length, List.take_length] at tb
      exact ⟨_, rfl, q d H2 tb⟩
inductive Sp_next_layer (K : PySem.W.Frag) (vs : List V) (H : Hp) (Q : VK) (E : XK) : Prop
  | mk (t ly cf : Addr) (Hs H0 : Hp) (m n : Nat) (pile : List Say) (L : List Int) (C : CF) (h0 : vs = [.ref t, .ref ly, .ref cf]) (h1 : Same Hs H) (h2 : TabAt H0 Hs t (due pile) m) (h3 : Hs cf = none) (h4 : PileOk n pile) (h5 : n ≤ 1000) (h6 : H ly = some (.lst (L.map V.int))) (h7 : H cf = some (.dK (cfK C))) (h8 : (keys C).Nodup) (h9 : (∀ x ∈ keys C, Lit n x)) (h10 : ∀ (r : Addr) (E : CF) (H' : Hp), NInv n pile C L (· ∈ L) E → H r = none → (∀ b o, H b = some o → b ≠ cf → H' b = some o) → H' cf = some (.dK (cfK (C ++ E))) → H' r = some (.lst ((keys E).map V.int)) → Q (.ref r) H') : Sp_next_layer K vs H Q E
noncomputable abbrev sp_next_layer (K : PySem.W.Frag) : Sp := fun vs H Q E => Sp_next_layer K vs H Q E
theorem sc_next_layer : FnScope ["table", "layer", "came_from", "reached", "lit", "follower"] ["table", "layer", "came_from"] (defScope s_next_layer) := ⟨rfl, rfl, rfl, by decide +kernel, rfl, by decide +kernel, by decide +kernel⟩
set_option maxHeartbeats 4000000 in
theorem ok_next_layer {P : Program} {w : World} {K : PySem.W.Frag} {mg : Str → Option Value} {base : Heap} {t : Ad} (T : Tx K mg t) : FnOk P w K mg base CX0 1 t.f_next_layer t.d_next_layer ["table", "layer", "came_from"] (sp_next_layer K) := by
  refine T.F_next_layer.ok sc_next_layer (fun vs H Q E h => ?_) (fun cdv A outer s H vs Q E hr h => ?_)
  · obtain ⟨t', ly, cf, Hs, H0, m, n, pile, L, C, rfl, ss, tb, hcs, ok, hn, hly, hcf, nd, lit, q⟩ := h
    rfl
  · obtain ⟨t', ly, cf, Hs, H0, m, n, pile, L, C, rfl, ss, tb, hcs, ok, hn, hly, hcf, nd, lit, q⟩ := h
    have hu := hu_of hr
    refine ⟨_, (pss_cons (ps_set (i := 3) sc_next_layer.nd rfl (Or.inl rfl) (pe_lst pa_nil))
      (pss_cons (ps_for PassesOwn.never rfl (pi_list (pv 1)) (pg_name (i := 4) sc_next_layer.nd rfl (Or.inl rfl))
        (pss_one (ps_for PassesOwn.never rfl (pi_list (pe_dget2 hu (pv 0) (pv 4) (pe_lst pa_nil) ⟨rfl, rfl, rfl, rfl⟩)) (pg_name (i := 5) sc_next_layer.nd rfl (Or.inl rfl))
          (pss_one (ps_if (pt_cmp (pc_dnotin hu (pv 5) (pv 2))) (pss_cons (ps_dput hu (pv 2) (pv 5) (pv 4) rfl)
            (pss_one (ps_expr (pe_bm PySem.F.plainAttrs_list PySem.F.slot_list_append PySem.F.type_list_append mt_append (pv 3) (pa_cons (pv 5) pa_nil))))) pss_nil)))))
      (pss_one (ps_ret (pv 3))))), ?_⟩
    try dsimp only [cxOf]
    have big : ∀ k, k ≤ 2 * n → k < sizeLine := fun k h => Nat.lt_of_le_of_lt (show k ≤ 2000 by omega) (by decide)
    have ncl : ly ≠ cf := ne_of hly hcf (fun z => nomatch z)
    refine ⟨by decide, fun r hr1 => ?_⟩
    have nrc : r ≠ cf := fun z => by rw [z, hcf] at hr1; cases hr1
    have g := same_new (o := .lst []) hr1
    refine ⟨_, rfl, ly, rfl, ⟨_, SqL.of (g _ _ hly)⟩, for_list (K := K) (a := ly) (xs := L.map V.int) (fun i σ H2 => ∃ (E : CF) (v w : Option V), σ = [some (.ref t'), some (.ref ly), some (.ref cf), some (.ref r), v, w] ∧ NInv n pile C L (· ∈ L.take i) E ∧ (∀ b o, H b = some o → b ≠ cf → H2 b = some o) ∧ H2 cf = some (.dK (cfK (C ++ E))) ∧ H2 r = some (.lst ((keys E).map V.int)))
      ⟨[], none, none, rfl, (NInv.start nd lit).mono (fun p hp => by simp at hp), (fun b o e _ => g b o e), (by rw [List.append_nil]; exact g _ _ hcf), upd_same⟩ (fun i σ H2 _ ⟨_, _, _, _, _, k2, _⟩ => SqL.of (k2 _ _ hly ncl)) ?_ ?_⟩
    · rintro i x σ H2 hi ⟨E, v, w, rfl, ni, k2, hc2, hr2⟩
      obtain ⟨p, rfl, hpi⟩ := ints_get hi
      have hpL : p ∈ L := List.mem_of_getElem? hpi
      have s2 : Same Hs H2 := fun b o e => k2 b o (ss b o e) (ne_of_none e hcs)
      have tb2 := tb.keep s2
      obtain ⟨kvs, hk, hm, look⟩ := tb2.look
      have key : ∀ (la : Addr) (H3 : Hp), Same H2 H3 → H3 la = some (.lst ((due pile p).map V.int)) → la ≠ cf → la ≠ r → ∀ D : Ends, (∀ σ' H', (∃ (E : CF) (v w : Option V), σ' = [some (.ref t'), some (.ref ly), some (.ref cf), some (.ref r), v, w] ∧ NInv n pile C L (· ∈ L.take (i + 1)) E ∧ (∀ b o, H b = some o → b ≠ cf → H' b = some o) ∧ H' cf = some (.dK (cfK (C ++ E))) ∧ H' r = some (.lst ((keys E).map V.int))) → D.nx σ' H') →
          ∃ W : Nat → Nat → St → Hp → Prop, (∃ m, W 0 m [some (.ref t'), some (.ref ly), some (.ref cf), some (.ref r), some (.int p), w] H3) ∧ ∀ i m σ H, W i m σ H →
            ((Itl K la).stop i H ∧ D.nx σ H) ∨ ((Itl K la).go i H ∧ ∃ N : St → Hp → Prop, (∀ σ' H', N σ' H' → ∃ m', m' < m ∧ W (i + 1) m' σ' H') ∧ ∀ x H', (Itl K la).yld i H x H' → gName 5 x σ H' fun σ2 H2 =>
              (tIfS (tB (tDNotIn (tVar 5) (tVar 2))) (tSeq (sDPut (tVar 2) (tVar 5) (tVar 4)) (tDrop (tBM K "list" rAppend (tVar 3) (tCons (tVar 5) tNil)))) tNext) { D with nx := N, ct := N, bk := D.nx } σ2 H2) := by
        intro la H3 s3 hla nla nlr D hD
        refine for_list (K := K) (a := la) (xs := (due pile p).map V.int) (fun j σ H4 => ∃ (E : CF) (w : Option V), σ = [some (.ref t'), some (.ref ly), some (.ref cf), some (.ref r), some (.int p), w] ∧ NInv n pile C L (· ∈ L.take i) E ∧ (∀ y ∈ (due pile p).take j, y ∈ keys (C ++ E)) ∧ (∀ b o, H b = some o → b ≠ cf → H4 b = some o) ∧ H4 la = some (.lst ((due pile p).map V.int)) ∧ H4 cf = some (.dK (cfK (C ++ E))) ∧ H4 r = some (.lst ((keys E).map V.int)))
          ⟨E, w, rfl, ni, (fun y hy => by simp at hy), (fun b o e ne => s3 _ _ (k2 b o e ne)), hla, s3 _ _ hc2, s3 _ _ hr2⟩ (fun j σ H4 _ ⟨_, _, _, _, _, _, hla4, _⟩ => SqL.of hla4) ?_ ?_
        · rintro j y σ H4 hj ⟨E, w, rfl, ni, done, k4, hla4, hc4, hr4⟩
          obtain ⟨z, rfl, hzj⟩ := ints_get hj
          have hz : z ∈ due pile p := List.mem_of_getElem? hzj
          have st := mem_due.mp hz
          refine ⟨_, rfl, _, rfl, cf, _, rfl, DGet.k (k := Sum.inl z) hc4, _, rfl, ?_⟩
          by_cases hin : z ∈ keys (C ++ E)
          · obtain ⟨o, _, e⟩ := cf_some hin
            rw [e]
            refine iteF ⟨E, _, rfl, ni, ?_, k4, hla4, hc4, hr4⟩
            rw [take_snoc hzj]
            intro y hy
            rcases List.mem_append.mp hy with hy | hy
            · exact done y hy
            · rw [List.mem_singleton] at hy; subst hy; exact hin
          · rw [cf_none hin]
            refine iteT ⟨_, rfl, _, rfl, _, rfl, cf, _, rfl, DPut.k (k := Sum.inl z) hc4 (big _ (by rw [cf_len]; exact ni.len)), ?_⟩
            rw [cf_put hin, List.append_assoc]
            have er : upd H4 cf (.dK (cfK (C ++ (E ++ [(z, some p)])))) r = some (.lst ((keys E).map V.int)) := by rw [upd_ne nrc]; exact hr4
            have hlen : ((keys E).map V.int).length < sizeLine := big _ (by have := ni.len; rw [List.length_append] at this; rw [List.length_map, keys, List.length_map]; omega)
            refine ⟨_, rfl, .inl ⟨rfl, _, SqL.of er⟩, _, rfl, r, _, _, rfl, rfl, er, hlen, ?_⟩
            refine ⟨E ++ [(z, some p)], _, rfl, ni.add hpL st (due_lit ok hz) hin, ?_, fun b o e ne => ?_, ?_, ?_, ?_⟩
            · rw [take_snoc hzj, ← List.append_assoc, keys_snoc]
              intro y hy
              rcases List.mem_append.mp hy with hy | hy
              · exact List.mem_append_left _ (done y hy)
              · exact List.mem_append_right _ hy
            · rw [upd_ne (ne_of_none e hr1), upd_ne ne]
              exact k4 b o e ne
            · rw [upd_ne nlr, upd_ne nla]
              exact hla4
            · rw [upd_ne (Ne.symm nrc)]
              exact upd_same
            · rw [upd_same, keys_snoc, List.map_append]
              rfl
        · rintro σ H4 ⟨E, w, rfl, ni, done, k4, hla4, hc4, hr4⟩
          rw [List.length_map, List.take_length] at done
          refine hD _ _ ⟨E, _, _, rfl, ni.mono (fun q' hq' => ?_), k4, hc4, hr4⟩
          rw [take_snoc hpi] at hq'
          rcases List.mem_append.mp hq' with hq' | hq'
          · exact .inl hq'
          · rw [List.mem_singleton] at hq'
            subst hq'
            exact .inr fun y st => done y (mem_due.mpr st)
      refine ⟨_, rfl, t', rfl, .inl ⟨kvs, .inl hk⟩, _, rfl, by decide, fun l0 h0 => ?_⟩
      have s3 := same_new (o := .lst []) h0
      refine ⟨_, DGet.k (k := Sum.inl p) (s3 _ _ hk), ?_⟩
      rcases look p with ⟨z, e⟩ | ⟨l1, a1, b1, c1⟩
      · rw [z]
        have g0 : upd H2 l0 (.lst []) l0 = some (.lst ((due pile p).map V.int)) := by rw [upd_same, e]; rfl
        refine ⟨l0, rfl, ⟨_, SqL.of g0⟩, key l0 _ s3 g0 (fun z => ?_) (fun z => ?_) _ (fun _ _ h => h)⟩
        · rw [z, hc2] at h0; cases h0
        · rw [z, hr2] at h0; cases h0
      · rw [a1]
        refine ⟨l1, rfl, ⟨_, SqL.of (s3 _ _ b1)⟩, key l1 _ s3 (s3 _ _ b1) (ne_of b1 hc2 (fun z => nomatch z)) (fun z => ?_) _ (fun _ _ h => h)⟩
        have hst : Hs l1 = some (.lst ((due pile p).map V.int)) := by
          obtain ⟨kvs', hk', _, look'⟩ := tb.look
          have e1 := s2 _ _ hk'
          rw [hk] at e1
          cases e1
          rcases look' p with ⟨z1, _⟩ | ⟨l2, a2, b2, _⟩
          · rw [a1] at z1; cases z1
          · rw [a1] at a2; cases a2; exact b2
        have := ss _ _ hst
        rw [z, hr1] at this
        cases this
    · rintro σ H2 ⟨E, v, w, rfl, ni, k2, hc2, hr2⟩
      rw [List.length_map, List.take_length] at ni
      exact ⟨_, rfl, q r E H2 ni hr1 k2 hc2 hr2⟩
inductive Sp_traced_back (K : PySem.W.Frag) (vs : List V) (H : Hp) (Q : VK) (E : XK) : Prop
  | mk (cf : Addr) (a b : Int) (n d : Nat) (pile : List Say) (k : Nat) (C : CF) (L : List Int) (h0 : vs = [.ref cf, .int b]) (h1 : H cf = some (.dK (cfK C))) (h2 : SInv n pile a k C L) (h3 : n ≤ 1000) (h4 : b ∈ keys C) (h5 : Dst pile a b d) (h6 : ∀ (l : Addr) (P : List Int) (H' : Hp), RoadOf pile a b P → H l = none → Same H H' → H' l = some (.lst (P.map V.int)) → Q (.ref l) H') : Sp_traced_back K vs H Q E
noncomputable abbrev sp_traced_back (K : PySem.W.Frag) : Sp := fun vs H Q E => Sp_traced_back K vs H Q E
theorem sc_traced_back : FnScope ["came_from", "goal", "trace", "lit"] ["came_from", "goal"] (defScope s_traced_back) := ⟨rfl, rfl, rfl, by decide +kernel, rfl, by decide +kernel, by decide +kernel⟩
set_option maxHeartbeats 4000000 in
theorem ok_traced_back {P : Program} {w : World} {K : PySem.W.Frag} {mg : Str → Option Value} {base : Heap} {t : Ad} (T : Tx K mg t) : FnOk P w K mg base CX0 1 t.f_traced_back t.d_traced_back ["came_from", "goal"] (sp_traced_back K) := by
  refine T.F_traced_back.ok sc_traced_back (fun vs H Q E h => ?_) (fun cdv A outer s H vs Q E hr h => ?_)
  · obtain ⟨cf, a, b, n, d, pile, k, C, L, rfl, hcf, si, hn, hb, hd, q⟩ := h
    rfl
  · obtain ⟨cf, a, b, n, d, pile, k, C, L, rfl, hcf, si, hn, hb, hd, q⟩ := h
    have hu := hu_of hr
    refine ⟨_, (pss_cons (ps_set (i := 2) sc_traced_back.nd rfl (Or.inl rfl) (pe_lst pa_nil))
      (pss_cons (ps_set (i := 3) sc_traced_back.nd rfl (Or.inl rfl) (pv 1))
      (pss_cons (ps_while PassesOwn.never (pt_cmpR op_notN (pv 3) pe_non (nomark _))
        (pss_cons (ps_expr (pe_bm PySem.F.plainAttrs_list PySem.F.slot_list_append PySem.F.type_list_append mt_append (pv 2) (pa_cons (pv 3) pa_nil)))
        (pss_one (ps_set (i := 3) sc_traced_back.nd rfl (Or.inl rfl) (pe_dget hu (pv 0) (pv 3) (fun _ _ => rfl))))))
      (pss_one (ps_ret (pe_listrev hr.hd rfl rfl T.z_list T.z_reversed (pv 2))))))), ?_⟩
    try dsimp only [cxOf]
    have dn : d ≤ 2 * n := by
      have h1 := dst_bound si hd hb
      exact h1
    refine ⟨by decide, fun l hl => ?_⟩
    have g := same_new (o := .lst []) hl
    refine ⟨_, rfl, ?_⟩
    try dsimp only [gName, tAsg, tRet, tNext, tDrop]
    refine seq_join (J := fun σ' H' => ∃ (T : List Int) (x : Int), TInv pile a b d T x 0 ∧ σ' = [some (.ref cf), some (.int b), some (.ref l), some .non] ∧ Same H H' ∧ H' l = some (.lst ((T ++ [x]).map V.int))) (fun N hN => ?_) ?_
    · refine ⟨fun m σ H2 => Same H H2 ∧ ((∃ (T : List Int) (x : Int) (k : Nat), m = k + 1 ∧ TInv pile a b d T x k ∧ x ∈ keys C ∧ σ = [some (.ref cf), some (.int b), some (.ref l), some (.int x)] ∧ H2 l = some (.lst (T.map V.int))) ∨
          (m = 0 ∧ ∃ (T : List Int) (x : Int), TInv pile a b d T x 0 ∧ σ = [some (.ref cf), some (.int b), some (.ref l), some .non] ∧ H2 l = some (.lst ((T ++ [x]).map V.int)))), ⟨d + 1, g, .inl ⟨[], b, d, rfl, TInv.start hd, hb, rfl, upd_same⟩⟩, ?_⟩
      rintro m σ H2 ⟨s2, ⟨T, x, k', rfl, ti, hx, rfl, h2⟩ | ⟨rfl, T, x, ti, rfl, h2⟩⟩
      · refine ⟨_, rfl, rfl, _, rfl, iteT ?_⟩
        have hT : T.length ≤ 2 * n := by have := ti.len; omega
        refine ⟨fun σ' H' => ∃ m', m' < k' + 1 ∧ (Same H H' ∧ ((∃ (T : List Int) (x : Int) (k : Nat), m' = k + 1 ∧ TInv pile a b d T x k ∧ x ∈ keys C ∧ σ' = [some (.ref cf), some (.int b), some (.ref l), some (.int x)] ∧ H' l = some (.lst (T.map V.int))) ∨
          (m' = 0 ∧ ∃ (T : List Int) (x : Int), TInv pile a b d T x 0 ∧ σ' = [some (.ref cf), some (.int b), some (.ref l), some .non] ∧ H' l = some (.lst ((T ++ [x]).map V.int))))), fun _ _ h => h, ?_⟩
        refine ⟨_, rfl, .inl ⟨rfl, _, SqL.of h2⟩, _, rfl, l, _, _, rfl, rfl, h2, Nat.lt_of_le_of_lt (show _ ≤ 2000 by rw [List.length_map]; omega) (by decide), ?_⟩
        have s3 : Same H (upd H2 l (.lst (T.map V.int ++ [.int x]))) := same_upd s2 hl
        have e3 : upd H2 l (.lst (T.map V.int ++ [.int x])) l = some (.lst ((T ++ [x]).map V.int)) := by rw [upd_same, List.map_append]; rfl
        obtain ⟨o, hm, e⟩ := cf_some hx
        refine ⟨_, rfl, _, rfl, cf, _, rfl, (e ▸ DGet.k (k := Sum.inl x) (s3 _ _ hcf)), ?_⟩
        rcases si.par x o hm with ⟨rfl, rfl⟩ | ⟨p, d', rfl, st, dp, dx⟩
        · obtain rfl : k' = 0 := ti.dx.uniq Dst.zero
          exact ⟨0, by omega, s3, .inr ⟨rfl, T, _, ti, rfl, e3⟩⟩
        · obtain rfl : k' = d' + 1 := ti.dx.uniq dx
          refine ⟨d' + 1, by omega, s3, .inl ⟨T ++ [x], p, d', rfl, ti.step st dp, ?_, rfl, e3⟩⟩
          have h1 := (si.li.seen x).mp hx
          obtain ⟨m2, hm2, w2⟩ := h1
          have := dx.2 m2 w2
          exact (si.li.seen p).mpr ⟨d', by omega, dp.1⟩
      · refine ⟨_, rfl, rfl, _, rfl, iteF ?_⟩
        exact hN _ _ ⟨T, x, ti, rfl, s2, h2⟩
    · rintro σ' H' ⟨T, x, ti, rfl, s2, h2⟩
      refine ⟨_, rfl, l, _, rfl, h2, fun p hp => ?_⟩
      refine q p _ _ (ti.done hd) (s2.free hp) (s2.trans (same_new hp)) ?_
      rw [upd_same, List.map_reverse]
inductive Sp_shortest (K : PySem.W.Frag) (vs : List V) (H : Hp) (Q : VK) (E : XK) : Prop
  | mk (t : Addr) (x y : Int) (H0 : Hp) (m n : Nat) (pile : List Say) (h0 : vs = [.ref t, .int x, .int y]) (h1 : TabAt H0 H t (due pile) m) (h2 : PileOk n pile) (h3 : n ≤ 1000) (h4 : Lit n x) (h5 : (∀ H', Same H H' → ¬ Reach pile x y → Q .non H')) (h6 : ∀ (l : Addr) (P : List Int) (H' : Hp), RoadOf pile x y P → H l = none → Same H H' → H' l = some (.lst (P.map V.int)) → Q (.ref l) H') : Sp_shortest K vs H Q E
noncomputable abbrev sp_shortest (K : PySem.W.Frag) : Sp := fun vs H Q E => Sp_shortest K vs H Q E
theorem sc_shortest : FnScope ["table", "start", "goal", "came_from", "layer"] ["table", "start", "goal"] (defScope s_shortest) := ⟨rfl, rfl, rfl, by decide +kernel, rfl, by decide +kernel, by decide +kernel⟩
set_option maxHeartbeats 4000000 in
theorem ok_shortest {P : Program} {w : World} {K : PySem.W.Frag} {mg : Str → Option Value} {base : Heap} {t : Ad} (T : Tx K mg t) : FnOk P w K mg base CX0 2 t.f_shortest t.d_shortest ["table", "start", "goal"] (sp_shortest K) := by
  have G_next_layer := ok_next_layer (P := P) (w := w) (base := base) T
  have G_traced_back := ok_traced_back (P := P) (w := w) (base := base) T
  refine T.F_shortest.ok sc_shortest (fun vs H Q E h => ?_) (fun cdv A outer s H vs Q E hr h => ?_)
  · obtain ⟨t', x, y, H0, m, n, pile, rfl, tb, ok, hn, hx, q1, q2⟩ := h
    rfl
  · obtain ⟨t', x, y, H0, m, n, pile, rfl, tb, ok, hn, hx, q1, q2⟩ := h
    have hu := hu_of hr
    refine ⟨_, (pss_cons (ps_set (i := 3) sc_shortest.nd rfl (Or.inl rfl) (pe_disp (pps_cons (pv 1) pe_non pps_nil) rfl rfl (by decide) (by decide)))
      (pss_cons (ps_set (i := 4) sc_shortest.nd rfl (Or.inl rfl) (pe_lst (pa_cons (pv 1) pa_nil)))
      (pss_cons (ps_while PassesOwn.never (PW.pt (pw_and (pt_truth (pv 4) (fun _ => rfl)) (pw_and1 (pt_cmp (pc_dnotin hu (pv 2) (pv 3))))))
        (pss_one (ps_set (i := 4) sc_shortest.nd rfl (Or.inl rfl) (pe_call G_next_layer (hr.mono (by decide)) rfl T.m_next_layer T.F_next_layer.kp T.b_next_layer .nil pass0 (pa_cons (pv 0) (pa_cons (pv 4) (pa_cons (pv 3) pa_nil)))))))
      (pss_cons (ps_if (pt_cmp (pc_dnotin hu (pv 2) (pv 3))) (pss_one (ps_ret pe_non)) pss_nil)
      (pss_one (ps_ret (pe_call G_traced_back (hr.mono (by decide)) rfl T.m_traced_back T.F_traced_back.kp T.b_traced_back .nil pass0 (pa_cons (pv 3) (pa_cons (pv 2) pa_nil))))))))), ?_⟩
    try dsimp only [cxOf]
    refine fun cf hcf => ?_
    refine ⟨_, rfl, upd_same, [(Sum.inl x, .non)], rfl, (by show 1 ≤ 15; decide), ?_⟩
    have e0 : ∀ H1 : Hp, upd (upd H cf (.dK [])) cf (.dK (mergeK [] [((Sum.inl x : Key), V.non)])) = upd H cf (.dK (cfK [(x, none)])) := fun _ => upd_upd
    rw [e0 H]
    have g0 := same_new (o := .dK (cfK [(x, none)])) hcf
    refine ⟨_, rfl, (by show 1 ≤ sizeLine; decide), fun l0 hl0 => ?_⟩
    have g1 := same_new (o := .lst [.int x]) hl0
    try dsimp only [gName, tAsg, tRet, tNext, tDrop]
    refine seq_join (J := fun σ' H' => ∃ (k : Nat) (C : CF) (L : List Int) (ly : Addr), SInv n pile x k C L ∧ (L = [] ∨ y ∈ keys C) ∧ σ' = [some (.ref t'), some (.int x), some (.int y), some (.ref cf), some (.ref ly)] ∧ Same H H' ∧ H' cf = some (.dK (cfK C))) (fun N hN => ?_) ?_
    · refine ⟨fun mm σ H2 => ∃ (k : Nat) (C : CF) (L : List Int) (ly : Addr), mm = 2 * (2 * n - C.length) + (if L = [] then 0 else 1) ∧ SInv n pile x k C L ∧ σ = [some (.ref t'), some (.int x), some (.int y), some (.ref cf), some (.ref ly)] ∧ Same H H2 ∧ H2 cf = some (.dK (cfK C)) ∧ H2 ly = some (.lst (L.map V.int)),
        ⟨_, 0, [(x, none)], [x], l0, rfl, SInv.start hx, rfl, g0.trans g1, g1 _ _ upd_same, upd_same⟩, ?_⟩
      rintro mm σ H2 ⟨k, C, L, ly, rfl, si, rfl, s2, hc2, hl2⟩
      refine ⟨_, rfl, _, .inl ⟨_, SqL.of hl2, rfl⟩, ?_⟩
      cases hL : L with
      | nil =>
        refine iteF (iteF ?_)
        exact hN _ _ ⟨k, C, L, ly, si, .inl hL, rfl, s2, hc2⟩
      | cons z r =>
        refine iteT ⟨_, rfl, _, rfl, cf, _, rfl, DGet.k (k := Sum.inl y) hc2, _, rfl, ?_⟩
        by_cases hin : y ∈ keys C
        · obtain ⟨o, _, e⟩ := cf_some hin
          rw [e]
          exact iteF (hN _ _ ⟨k, C, L, ly, si, .inr hin, rfl, s2, hc2⟩)
        · rw [cf_none hin]
          refine iteT ⟨fun σ' H' => ∃ m', m' < 2 * (2 * n - C.length) + (if (z :: r) = [] then 0 else 1) ∧ ∃ (k : Nat) (C : CF) (L : List Int) (ly : Addr), m' = 2 * (2 * n - C.length) + (if L = [] then 0 else 1) ∧ SInv n pile x k C L ∧ σ' = [some (.ref t'), some (.int x), some (.int y), some (.ref cf), some (.ref ly)] ∧ Same H H' ∧ H' cf = some (.dK (cfK C)) ∧ H' ly = some (.lst (L.map V.int)), fun _ _ h => h, ?_⟩
          refine ⟨_, rfl, _, rfl, _, rfl, t', ly, cf, H, H0, m, n, pile, L, C, rfl, s2, tb, hcf, ok, hn, hl2, hc2, si.nd, si.lit, fun rr E H3 ni hrr k3 hc3 hr3 => ?_⟩
          refine ⟨_, SInv.meas (k := k) (a := x) (hL ▸ ni) (by simp), k + 1, C ++ E, keys E, rr, rfl, si.next ni, rfl, fun b o e => k3 b o (s2 b o e) (ne_of_none e hcf), hc3, hr3⟩
    · rintro σ' H' ⟨k, C, L, ly, si, hfin, rfl, s2, hc2⟩
      refine ⟨_, rfl, _, rfl, cf, _, rfl, DGet.k (k := Sum.inl y) hc2, _, rfl, ?_⟩
      by_cases hin : y ∈ keys C
      · obtain ⟨o, _, e⟩ := cf_some hin
        rw [e]
        refine iteF ?_
        obtain ⟨m1, hm1, w1⟩ := (si.li.seen y).mp hin
        obtain ⟨d, hd1, hd⟩ := walk_least m1 w1
        refine ⟨_, rfl, _, rfl, cf, x, y, n, d, pile, k, C, L, rfl, hc2, si, hn, hin, hd, fun l P H3 ro hl s3 h3 => ?_⟩
        exact q2 l P H3 ro (s2.free hl) (s2.trans s3) h3
      · rw [cf_none hin]
        refine iteT (q1 H' s2 fun re => ?_)
        rcases hfin with rfl | h
        · exact hin (si.li.all re)
        · exact hin h
inductive Sp_road (K : PySem.W.Frag) (vs : List V) (H : Hp) (Q : VK) (E : XK) : Prop
  | mk (l : Addr) (x y : Int) (n : Nat) (pile : List Say) (h0 : vs = [.ref l, .int x, .int y]) (h1 : PileAt H l pile) (h2 : pile.length ≤ 1000) (h3 : PileOk n pile) (h4 : n ≤ 1000) (h5 : Lit n x) (h6 : (∀ H', Same H H' → ¬ Reach pile x y → Q .non H')) (h7 : ∀ (l : Addr) (P : List Int) (H' : Hp), RoadOf pile x y P → H l = none → Same H H' → H' l = some (.lst (P.map V.int)) → Q (.ref l) H') : Sp_road K vs H Q E
noncomputable abbrev sp_road (K : PySem.W.Frag) : Sp := fun vs H Q E => Sp_road K vs H Q E
theorem sc_road : FnScope ["pile", "start", "goal"] ["pile", "start", "goal"] (defScope s_road) := ⟨rfl, rfl, rfl, by decide +kernel, rfl, by decide +kernel, by decide +kernel⟩
set_option maxHeartbeats 4000000 in
theorem ok_road {P : Program} {w : World} {K : PySem.W.Frag} {mg : Str → Option Value} {base : Heap} {t : Ad} (T : Tx K mg t) : FnOk P w K mg base CX0 3 t.f_road t.d_road ["pile", "start", "goal"] (sp_road K) := by
  have G_step_table := ok_step_table (P := P) (w := w) (base := base) T
  have G_shortest := ok_shortest (P := P) (w := w) (base := base) T
  refine T.F_road.ok sc_road (fun vs H Q E h => ?_) (fun cdv A outer s H vs Q E hr h => ?_)
  · obtain ⟨l, x, y, n, pile, rfl, P', hp, ok, hn, hx, q1, q2⟩ := h
    rfl
  · obtain ⟨l, x, y, n, pile, rfl, P', hp, ok, hn, hx, q1, q2⟩ := h
    have hu := hu_of hr
    refine ⟨_, (pss_one (ps_ret (pe_call G_shortest (hr.mono (by decide)) rfl T.m_shortest T.F_shortest.kp T.b_shortest .nil pass0 (pa_cons (pe_call G_step_table (hr.mono (by decide)) rfl T.m_step_table T.F_step_table.kp T.b_step_table .nil pass0 (pa_cons (pv 0) pa_nil)) (pa_cons (pv 1) (pa_cons (pv 2) pa_nil)))))), ?_⟩
    try dsimp only [cxOf]
    refine ⟨_, rfl, l, pile, rfl, P', hp, fun d H' tb => ?_⟩
    refine ⟨_, rfl, _, rfl, d, x, y, H, _, n, pile, rfl, tb, ok, hn, hx, fun H2 s2 nr => q1 H2 (tb.same.trans s2) nr, fun l P H2 ro hl s2 h2 => q2 l P H2 ro (tb.same.free hl) (tb.same.trans s2) h2⟩
inductive Sp_clash (K : PySem.W.Frag) (vs : List V) (H : Hp) (Q : VK) (E : XK) : Prop
  | mk (n : Nat) (l : Addr) (pile : List Say) (h0 : vs = [.int n, .ref l]) (h1 : PileAt H l pile) (h2 : pile.length ≤ 1000) (h3 : PileOk n pile) (h4 : n ≤ 100) (h5 : (∀ H', Same H H' → (∀ v : Nat, 1 ≤ v → v ≤ n → ¬ Knot pile (v : Int)) → Q .non H')) (h6 : ∀ (lr : Addr) (R : List Int) (H' : Hp), H lr = none → Same H H' → RingOf n pile R → H' lr = some (.lst (R.map V.int)) → Q (.ref lr) H') : Sp_clash K vs H Q E
noncomputable abbrev sp_clash (K : PySem.W.Frag) : Sp := fun vs H Q E => Sp_clash K vs H Q E
theorem sc_clash : FnScope ["many", "pile", "table", "switch", "there", "back"] ["many", "pile"] (defScope s_clash) := ⟨rfl, rfl, rfl, by decide +kernel, rfl, by decide +kernel, by decide +kernel⟩
set_option maxHeartbeats 4000000 in
theorem ok_clash {P : Program} {w : World} {K : PySem.W.Frag} {mg : Str → Option Value} {base : Heap} {t : Ad} (T : Tx K mg t) : FnOk P w K mg base CX0 3 t.f_clash t.d_clash ["many", "pile"] (sp_clash K) := by
  have G_step_table := ok_step_table (P := P) (w := w) (base := base) T
  have G_shortest := ok_shortest (P := P) (w := w) (base := base) T
  refine T.F_clash.ok sc_clash (fun vs H Q E h => ?_) (fun cdv A outer s H vs Q E hr h => ?_)
  · obtain ⟨n, l, pile, rfl, P', hp, ok, hn, q1, q2⟩ := h
    rfl
  · obtain ⟨n, l, pile, rfl, P', hp, ok, hn, q1, q2⟩ := h
    have hu := hu_of hr
    refine ⟨_, (pss_cons (ps_set (i := 2) sc_clash.nd rfl (Or.inl rfl) (pe_call G_step_table (hr.mono (by decide)) rfl T.m_step_table T.F_step_table.kp T.b_step_table .nil pass0 (pa_cons (pv 1) pa_nil)))
      (pss_cons (ps_for PassesOwn.never rfl (pi_range2 rfl T.z_range (pa_cons pe_int (pa_cons (pe_op op_add (pv 0) pe_int) pa_nil))) (pg_name (i := 3) sc_clash.nd rfl (Or.inl rfl))
        (pss_cons (ps_set (i := 4) sc_clash.nd rfl (Or.inl rfl) (pe_call G_shortest (hr.mono (by decide)) rfl T.m_shortest T.F_shortest.kp T.b_shortest .nil pass0 (pa_cons (pv 2) (pa_cons (pv 3) (pa_cons (pe_un un_neg (pv 3)) pa_nil)))))
        (pss_cons (ps_set (i := 5) sc_clash.nd rfl (Or.inl rfl) (pe_call G_shortest (hr.mono (by decide)) rfl T.m_shortest T.F_shortest.kp T.b_shortest .nil pass0 (pa_cons (pv 2) (pa_cons (pe_un un_neg (pv 3)) (pa_cons (pv 3) pa_nil)))))
        (pss_one (ps_if (PW.pt (pw_and (pt_cmpR op_notN (pv 4) pe_non (nomark _)) (pw_and1 (pt_cmpR op_notN (pv 5) pe_non (nomark _))))) (pss_one (ps_ret (pe_op op_cat (pv 4) (pe_slice sl_list (pv 5) (po_some pe_int) po_none)))) pss_nil)))))
      (pss_one (ps_ret pe_non)))), ?_⟩
    try dsimp only [cxOf]
    refine ⟨_, rfl, l, pile, rfl, P', hp, fun d H1 tb => ?_⟩
    have s1 := tb.same
    refine ⟨_, rfl, _, _, rfl, rfl, _, _, rfl, ⟨by decide, by decide, by omega, by omega⟩, for_range (lo := 1) (n := ((n : Int) + 1 - 1).toNat) (fun i σ H2 => Same H1 H2 ∧ ∃ v w1 w2, σ = [some (.int n), some (.ref l), some (.ref d), v, w1, w2] ∧ ∀ v : Nat, 1 ≤ v → v ≤ i → ¬ Knot pile (v : Int)) ⟨Same.refl _, none, none, none, rfl, fun v h1 h2 => by omega⟩ ?_ ?_⟩
    · rintro i σ H2 hi ⟨s2, v, w1, w2, rfl, no⟩
      have ev : (1 : Int) + (i : Int) = ((i + 1 : Nat) : Int) := by omega
      rw [ev]
      have h1 : 1 ≤ i + 1 := by omega
      have h2 : i + 1 ≤ n := by omega
      have lv : Lit n ((i + 1 : Nat) : Int) := lit_nat h1 h2
      have more : ¬ Knot pile ((i + 1 : Nat) : Int) → ∀ v : Nat, 1 ≤ v → v ≤ i + 1 → ¬ Knot pile (v : Int) := fun nk v a b => by
        by_cases hv : v = i + 1
        · subst hv; exact nk
        · exact no v a (by omega)
      refine ⟨_, rfl, _, rfl, _, rfl, _, rfl, d, _, _, H, _, n, pile, rfl, tb.keep s2, ok, by omega, lv, fun H3 s3 nr => ?_, fun la P H3 ro1 hla s3 h3 => ?_⟩
      · -- no road there
        have s23 := s2.trans s3
        refine ⟨_, rfl, _, rfl, _, rfl, _, rfl, d, _, _, H, _, n, pile, rfl, tb.keep s23, ok, by omega, lv.neg, fun H4 s4 nr2 => ?_, fun lb P2 H4 ro2 hlb s4 h4 => ?_⟩
        · exact ⟨_, rfl, rfl, _, rfl, iteF (iteF ⟨s23.trans s4, _, _, _, rfl, more fun kn => nr kn.1⟩)⟩
        · exact ⟨_, rfl, rfl, _, rfl, iteF (iteF ⟨s23.trans s4, _, _, _, rfl, more fun kn => nr kn.1⟩)⟩
      · have s23 := s2.trans s3
        refine ⟨_, rfl, _, rfl, _, rfl, _, rfl, d, _, _, H, _, n, pile, rfl, tb.keep s23, ok, by omega, lv.neg, fun H4 s4 nr2 => ?_, fun lb P2 H4 ro2 hlb s4 h4 => ?_⟩
        · exact ⟨_, rfl, rfl, _, rfl, iteT ⟨_, rfl, rfl, _, rfl, iteF ⟨s23.trans s4, _, _, _, rfl, more fun kn => nr2 kn.2⟩⟩⟩
        · refine ⟨_, rfl, rfl, _, rfl, iteT ⟨_, rfl, rfl, _, rfl, iteT ?_⟩⟩
          have s24 := s23.trans s4
          have rg := ring_of ok h1 h2 ro1 ro2
          have rl := rg.len
          refine ⟨_, rfl, _, rfl, _, rfl, lb, _, rfl, SqL.of h4, fun lc hlc => ?_⟩
          have s5 := same_new (o := .lst (cutV (P2.map V.int) (some 1) none)) hlc
          have ecut : cutV (P2.map V.int) (some 1) none = (P2.drop 1).map V.int := by rw [cut_first, List.map_drop]
          refine ⟨la, lc, _, _, rfl, rfl, s5 _ _ (s4 _ _ h3), upd_same, Nat.le_trans (show _ ≤ 1000 by rw [ecut, List.length_map, List.length_map]; rw [List.length_append] at rl; omega) (by decide), fun lr hlr => ?_⟩
          have s6 := same_new (o := .lst (P.map V.int ++ cutV (P2.map V.int) (some 1) none)) hlr
          have s16 := ((s1.trans s24).trans s5).trans s6
          refine q2 lr _ _ (((s1.trans s24).trans s5).free hlr) s16 rg ?_
          rw [upd_same, ecut, List.map_append]
    · rintro σ H2 ⟨s2, v, w1, w2, rfl, no⟩
      have en : ((n : Int) + 1 - 1).toNat = n := by omega
      rw [en] at no
      exact q1 H2 (s1.trans s2) no
inductive Sp_grown (K : PySem.W.Frag) (vs : List V) (H : Hp) (Q : VK) (E : XK) : Prop
  | mk (t kn li : Addr) (H0 : Hp) (m n : Nat) (pile : List Say) (known lits : List Int) (h0 : vs = [.ref t, .ref kn, .ref li]) (h1 : TabAt H0 H t (due pile) m) (h2 : H kn = some (.dK (dkT known))) (h3 : SqL K H li (lits.map V.int)) (h4 : PileOk n pile) (h5 : n ≤ 100) (h6 : Closed pile known) (h7 : (∀ x ∈ known, Lit n x)) (h8 : (∀ x ∈ lits, Lit n x)) (h9 : lits.length ≤ 1000) (h10 : (∀ H', Same H H' → NoGrow pile known lits → Q .non H')) (h11 : ∀ (f : Addr) (F : List Int) (H' : Hp), Same H H' → H' f = some (.dK (dkT F)) → Grown n pile known lits F → Q (.ref f) H') : Sp_grown K vs H Q E
noncomputable abbrev sp_grown (K : PySem.W.Frag) : Sp := fun vs H Q E => Sp_grown K vs H Q E
theorem sc_grown : FnScope ["table", "known", "lits", "found", "waiting", "lit"] ["table", "known", "lits"] (defScope s_grown) := ⟨rfl, rfl, rfl, by decide +kernel, rfl, by decide +kernel, by decide +kernel⟩
set_option maxHeartbeats 4000000 in
theorem ok_grown {P : Program} {w : World} {K : PySem.W.Frag} {mg : Str → Option Value} {base : Heap} {t : Ad} (T : Tx K mg t) : FnOk P w K mg base CX0 1 t.f_grown t.d_grown ["table", "known", "lits"] (sp_grown K) := by
  refine T.F_grown.ok sc_grown (fun vs H Q E h => ?_) (fun cdv A outer s H vs Q E hr h => ?_)
  · obtain ⟨t', kn, li, H0, m, n, pile, known, lits, rfl, tb, hkn, hli, ok, hn, cl, lk, ll, hl1, q1, q2⟩ := h
    rfl
  · obtain ⟨t', kn, li, H0, m, n, pile, known, lits, rfl, tb, hkn, hli, ok, hn, cl, lk, ll, hl1, q1, q2⟩ := h
    have hu := hu_of hr
    refine ⟨_, (pss_cons (ps_set (i := 3) sc_grown.nd rfl (Or.inl rfl) (pe_callTy call_dict_of (by rfl) T.z_dict (show bootBuiltins "dict" = _ by decide +kernel) (pa_cons (pv 1) pa_nil)))
      (pss_cons (ps_set (i := 4) sc_grown.nd rfl (Or.inl rfl) (pe_callTy call_list_of (by rfl) T.z_list (show bootBuiltins "list" = _ by decide +kernel) (pa_cons (pv 2) pa_nil)))
      (pss_cons (ps_while PassesOwn.never (pt_truth (pv 4) (fun _ => rfl))
        (pss_cons (ps_set (i := 5) sc_grown.nd rfl (Or.inl rfl) (pe_bm0 PySem.F.plainAttrs_list PySem.F.slot_list_pop PySem.F.type_list_pop mt_pop (pv 4)))
        (pss_cons (ps_if (pt_cmp (pc_din hu (pe_un un_neg (pv 5)) (pv 3))) (pss_one (ps_ret pe_non)) pss_nil)
        (pss_one (ps_if (pt_cmp (pc_dnotin hu (pv 5) (pv 3))) (pss_cons (ps_dput hu (pv 3) (pv 5) pe_bl rfl)
          (pss_one (ps_expr (pe_bm PySem.F.plainAttrs_list PySem.F.slot_list_extend PySem.F.type_list_extend mt_extend (pv 4) (pa_cons (pe_dget2 hu (pv 0) (pv 5) (pe_lst pa_nil) ⟨rfl, rfl, rfl, rfl⟩) pa_nil))))) pss_nil)))))
      (pss_one (ps_ret (pv 3)))))), ?_⟩
    try dsimp only [cxOf]
    have hsq : 2 * n * (2 * n + 1) ≤ 200 * 201 := Nat.mul_le_mul (by omega) (by omega)
    have big : ∀ k, k ≤ 50000 → k < sizeLine := fun k h => Nat.lt_of_le_of_lt h (by decide)
    refine ⟨_, rfl, kn, _, rfl, hkn, fun fd hfd => ?_⟩
    have g1 := same_new (o := .dK (dkT known)) hfd
    refine ⟨_, rfl, li, _, rfl, .inl (g1.seq hli), fun wa hwa => ?_⟩
    have g2 := same_new (o := .lst (lits.map V.int)) hwa
    have nfw : fd ≠ wa := fun z => by rw [← z, upd_same] at hwa; cases hwa
    have nwa : H wa = none := g1.free hwa
    try dsimp only [gName, tAsg, tRet, tNext, tDrop]
    refine seq_join (J := fun σ' H' => ∃ (F : List Int) (v : Option V), GInv n pile known lits F [] ∧ σ' = [some (.ref t'), some (.ref kn), some (.ref li), some (.ref fd), some (.ref wa), v] ∧ Same H H' ∧ H' fd = some (.dK (dkT F))) (fun N hN => ?_) ?_
    · refine ⟨fun mm σ H2 => ∃ (F W : List Int) (v : Option V), mm = (2 * n - F.length) * (2 * n + 1) + W.length ∧ GInv n pile known lits F W ∧ σ = [some (.ref t'), some (.ref kn), some (.ref li), some (.ref fd), some (.ref wa), v] ∧ Same H H2 ∧ H2 fd = some (.dK (dkT F)) ∧ H2 wa = some (.lst (W.map V.int)),
        ⟨_, known, lits, none, rfl, GInv.start cl lk ll, rfl, g1.trans g2, g2 _ _ upd_same, upd_same⟩, ?_⟩
      rintro mm σ H2 ⟨F, W, v, rfl, gi, rfl, s2, hf2, hw2⟩
      refine ⟨_, rfl, _, .inl ⟨_, SqL.of hw2, rfl⟩, ?_⟩
      rcases List.eq_nil_or_concat W with hW | ⟨W', x, hW⟩
      · subst hW
        exact iteF (hN _ _ ⟨F, v, gi, rfl, s2, hf2⟩)
      · rw [List.concat_eq_append] at hW
        subst hW
        have hne : (!((W' ++ [x]).map V.int).isEmpty) = true := by rw [List.map_append]; cases W' <;> rfl
        rw [hne]
        refine iteT ⟨fun σ' H' => ∃ m', m' < (2 * n - F.length) * (2 * n + 1) + (W' ++ [x]).length ∧ ∃ (F W : List Int) (v : Option V), m' = (2 * n - F.length) * (2 * n + 1) + W.length ∧ GInv n pile known lits F W ∧ σ' = [some (.ref t'), some (.ref kn), some (.ref li), some (.ref fd), some (.ref wa), v] ∧ Same H H' ∧ H' fd = some (.dK (dkT F)) ∧ H' wa = some (.lst (W.map V.int)), fun _ _ h => h, ?_⟩
        have epop : ((W' ++ [x]).map V.int)[((W' ++ [x]).map V.int).length - 1]? = some (.int x) := by rw [List.map_append, List.length_append]; simp
        have edrop : ((W' ++ [x]).map V.int).dropLast = W'.map V.int := by rw [List.map_append]; simp
        refine ⟨_, rfl, .inl ⟨rfl, _, SqL.of hw2⟩, wa, _, _, rfl, rfl, hw2, epop, ?_⟩
        rw [edrop]
        have s3 : Same H (upd H2 wa (.lst (W'.map V.int))) := same_upd s2 nwa
        have hf3 : upd H2 wa (.lst (W'.map V.int)) fd = some (.dK (dkT F)) := by rw [upd_ne nfw]; exact hf2
        have hw3 := upd_same (H := H2) (a := wa) (o := .lst (W'.map V.int))
        generalize upd H2 wa (.lst (W'.map V.int)) = H3 at s3 hf3 hw3 ⊢
        refine ⟨_, rfl, _, rfl, _, rfl, fd, _, rfl, DGet.k (k := Sum.inl (-x)) hf3, _, rfl, ?_⟩
        rw [dkT_isSome]
        refine ite2 (fun e => q1 H3 s3 (gi.none (of_decide_eq_true e))) (fun e => ?_)
        have hneg : -x ∉ F := fun z => e (decide_eq_true z)
        refine ⟨_, rfl, _, rfl, fd, _, rfl, DGet.k (k := Sum.inl x) hf3, _, rfl, ?_⟩
        rw [dkT_isSome]
        by_cases hin : x ∈ F
        · rw [decide_eq_true hin]
          exact iteF ⟨_, GInv.meas_skip, F, W', _, rfl, gi.skip hin, rfl, s3, hf3, hw3⟩
        · rw [decide_eq_false hin]
          refine iteT ⟨_, rfl, _, rfl, fd, _, rfl, DPut.k (k := Sum.inl x) hf3 (big _ (by rw [dkT_len]; have := gi.flen'; omega)), ?_⟩
          rw [dkT_put hin]
          have nfH : H fd = none := hfd
          have s4 : Same H (upd H3 fd (.dK (dkT (F ++ [x])))) := same_upd s3 nfH
          have hf4 := upd_same (H := H3) (a := fd) (o := .dK (dkT (F ++ [x])))
          have hw4 : upd H3 fd (.dK (dkT (F ++ [x]))) wa = some (.lst (W'.map V.int)) := by rw [upd_ne (Ne.symm nfw)]; exact hw3
          generalize upd H3 fd (.dK (dkT (F ++ [x]))) = H4 at s4 hf4 hw4 ⊢
          have gi' := gi.add ok hin hneg
          have wl := gi'.wlen
          have tb4 := tb.keep s4
          obtain ⟨kvs, hk, _, look⟩ := tb4.look
          refine ⟨_, rfl, .inl ⟨rfl, _, SqL.of hw4⟩, _, rfl, t', rfl, .inl ⟨kvs, .inl hk⟩, _, rfl, by decide, fun l0 h0 => ?_⟩
          have s5 := same_new (o := .lst []) h0
          refine ⟨_, DGet.k (k := Sum.inl x) (s5 _ _ hk), ?_⟩
          have fin : ∀ lb, upd H4 l0 (.lst []) lb = some (.lst ((due pile x).map V.int)) → rExtend (.ref wa) [.ref lb] (upd H4 l0 (.lst [])) (fun _ H' => ∃ m', m' < (2 * n - F.length) * (2 * n + 1) + (W' ++ [x]).length ∧ ∃ (F W : List Int) (v : Option V), m' = (2 * n - F.length) * (2 * n + 1) + W.length ∧ GInv n pile known lits F W ∧ [some (.ref t'), some (.ref kn), some (.ref li), some (.ref fd), some (.ref wa), some (.int x)] = [some (.ref t'), some (.ref kn), some (.ref li), some (.ref fd), some (.ref wa), v] ∧ Same H H' ∧ H' fd = some (.dK (dkT F)) ∧ H' wa = some (.lst (W.map V.int))) := by
            intro lb hlb
            refine ⟨wa, lb, _, _, rfl, rfl, s5 _ _ hw4, hlb, Nat.le_of_lt (big _ (by rw [List.length_map, List.length_map]; rw [List.length_append] at wl; omega)), ?_⟩
            refine ⟨_, gi.meas_add ok hin, F ++ [x], W' ++ due pile x, _, rfl, gi', rfl, same_upd (s4.trans s5) nwa, ?_, ?_⟩
            · rw [upd_ne nfw]; exact s5 _ _ hf4
            · rw [upd_same, List.map_append]
          rcases look x with ⟨z, e⟩ | ⟨l1, a1, b1, c1⟩
          · rw [z]
            exact fin l0 (by show upd H4 l0 (.lst []) l0 = _; rw [upd_same, e]; rfl)
          · rw [a1]
            exact fin l1 (s5 _ _ b1)
    · rintro σ' H' ⟨F, v, gi, rfl, s2, hf2⟩
      exact ⟨_, rfl, q2 fd F H' s2 hf2 gi.done⟩
inductive Sp_with_switch (K : PySem.W.Frag) (vs : List V) (H : Hp) (Q : VK) (E : XK) : Prop
  | mk (t kn : Addr) (H0 : Hp) (m n i : Nat) (pile : List Say) (wishes known : List Int) (h0 : vs = [.ref t, .ref kn, .int ((i + 1 : Nat) : Int)]) (h1 : TabAt H0 H t (due pile) m) (h2 : H kn = some (.dK (dkT known))) (h3 : PileOk n pile) (h4 : n ≤ 100) (h5 : i < n) (h6 : FInv n pile wishes i known) (h7 : (∀ H', Same H H' → Knot pile ((i + 1 : Nat) : Int) → Q .non H')) (h8 : ∀ (f : Addr) (F : List Int) (H' : Hp), Same H H' → H' f = some (.dK (dkT F)) → FInv n pile wishes (i + 1) F → Q (.ref f) H') : Sp_with_switch K vs H Q E
noncomputable abbrev sp_with_switch (K : PySem.W.Frag) : Sp := fun vs H Q E => Sp_with_switch K vs H Q E
theorem sc_with_switch : FnScope ["table", "known", "switch", "off"] ["table", "known", "switch"] (defScope s_with_switch) := ⟨rfl, rfl, rfl, by decide +kernel, rfl, by decide +kernel, by decide +kernel⟩
set_option maxHeartbeats 4000000 in
theorem ok_with_switch {P : Program} {w : World} {K : PySem.W.Frag} {mg : Str → Option Value} {base : Heap} {t : Ad} (T : Tx K mg t) : FnOk P w K mg base CX0 2 t.f_with_switch t.d_with_switch ["table", "known", "switch"] (sp_with_switch K) := by
  have G_grown := ok_grown (P := P) (w := w) (base := base) T
  refine T.F_with_switch.ok sc_with_switch (fun vs H Q E h => ?_) (fun cdv A outer s H vs Q E hr h => ?_)
  · obtain ⟨t', kn, H0, m, n, i, pile, wishes, known, rfl, tb, hkn, ok, hn, hi, fi, q1, q2⟩ := h
    rfl
  · obtain ⟨t', kn, H0, m, n, i, pile, wishes, known, rfl, tb, hkn, ok, hn, hi, fi, q1, q2⟩ := h
    have hu := hu_of hr
    refine ⟨_, (pss_cons (ps_if (PW.pt (pw_or (pt_cmp (pc_din hu (pv 2) (pv 1))) (pw_or1 (pt_cmp (pc_din hu (pe_un un_neg (pv 2)) (pv 1)))))) (pss_one (ps_ret (pv 1))) pss_nil)
      (pss_cons (ps_set (i := 3) sc_with_switch.nd rfl (Or.inl rfl) (pe_call G_grown (hr.mono (by decide)) rfl T.m_grown T.F_grown.kp T.b_grown .nil pass0 (pa_cons (pv 0) (pa_cons (pv 1) (pa_cons (pe_lst (pa_cons (pe_un un_neg (pv 2)) pa_nil)) pa_nil)))))
      (pss_cons (ps_if (pt_cmpR op_notN (pv 3) pe_non (nomark _)) (pss_one (ps_ret (pv 3))) pss_nil)
      (pss_one (ps_ret (pe_call G_grown (hr.mono (by decide)) rfl T.m_grown T.F_grown.kp T.b_grown .nil pass0 (pa_cons (pv 0) (pa_cons (pv 1) (pa_cons (pe_lst (pa_cons (pv 2) pa_nil)) pa_nil))))))))), ?_⟩
    try dsimp only [cxOf]
    have lv : Lit n ((i + 1 : Nat) : Int) := lit_nat (by omega) (by omega)
    refine ⟨_, rfl, _, rfl, kn, _, rfl, DGet.k (k := Sum.inl ((i + 1 : Nat) : Int)) hkn, _, rfl, ?_⟩
    rw [dkT_isSome]
    refine ite2 (fun e => iteT ⟨_, rfl, q2 kn known H (Same.refl H) hkn (fi.keep (.inl (of_decide_eq_true e)))⟩) (fun e => ?_)
    have n1 : ((i + 1 : Nat) : Int) ∉ known := fun z => e (decide_eq_true z)
    refine ⟨_, rfl, _, rfl, _, rfl, kn, _, rfl, DGet.k (k := Sum.inl (-((i + 1 : Nat) : Int))) hkn, _, rfl, ?_⟩
    rw [dkT_isSome]
    refine ite2 (fun e => ⟨_, rfl, q2 kn known H (Same.refl H) hkn (fi.keep (.inr (of_decide_eq_true e)))⟩) (fun e => ?_)
    have n2 : -((i + 1 : Nat) : Int) ∉ known := fun z => e (decide_eq_true z)
    refine ⟨_, rfl, _, rfl, _, rfl, _, rfl, (by show 1 ≤ sizeLine; decide), fun lo hlo => ?_⟩
    have s1 := same_new (o := .lst [.int (-((i + 1 : Nat) : Int))]) hlo
    refine ⟨t', kn, lo, H0, m, n, pile, known, [-((i + 1 : Nat) : Int)], rfl, tb.keep s1, s1 _ _ hkn, SqL.of upd_same, ok, hn, fi.cl, fi.lk, (fun x hx => by rw [List.mem_singleton] at hx; subst hx; exact lv.neg), (by show 1 ≤ 1000; decide), fun H2 s2 no => ?_, fun f F H2 s2 hf gr => ?_⟩
    · have s12 := s1.trans s2
      refine ⟨_, rfl, rfl, _, rfl, iteF ?_⟩
      refine ⟨_, rfl, _, rfl, _, rfl, (by show 1 ≤ sizeLine; decide), fun lp hlp => ?_⟩
      have s3 := same_new (o := .lst [.int ((i + 1 : Nat) : Int)]) hlp
      have s13 := s12.trans s3
      refine ⟨t', kn, lp, H0, m, n, pile, known, [((i + 1 : Nat) : Int)], rfl, tb.keep s13, s13 _ _ hkn, SqL.of upd_same, ok, hn, fi.cl, fi.lk, (fun x hx => by rw [List.mem_singleton] at hx; subst hx; exact lv), (by show 1 ≤ 1000; decide), fun H4 s4 no2 => ?_, fun f F H4 s4 hf gr => ?_⟩
      · exact q1 H4 (s13.trans s4) (knot_of fi.cl n1 n2 no no2)
      · exact q2 f F H4 (s13.trans s4) hf (fi.on' no gr)
    · refine ⟨_, rfl, rfl, _, rfl, iteT ?_⟩
      exact ⟨_, rfl, q2 f F H2 (s1.trans s2) hf (fi.off n1 gr)⟩
inductive Sp_first_good (K : PySem.W.Frag) (vs : List V) (H : Hp) (Q : VK) (E : XK) : Prop
  | mk (n : Nat) (t wi : Addr) (H0 : Hp) (m : Nat) (pile : List Say) (wishes : List Int) (h0 : vs = [.int n, .ref t, .ref wi]) (h1 : TabAt H0 H t (due pile) m) (h2 : SqL K H wi (wishes.map V.int)) (h3 : PileOk n pile) (h4 : n ≤ 100) (h5 : (∀ x ∈ wishes, Lit n x)) (h6 : wishes.length ≤ 1000) (h7 : (∀ H', Same H H' → First n pile wishes none → Q .non H')) (h8 : ∀ (l : Addr) (S : List Bool) (H' : Hp), H l = none → Same H H' → H' l = some (.lst (S.map V.bl)) → First n pile wishes (some S) → Q (.ref l) H') : Sp_first_good K vs H Q E
noncomputable abbrev sp_first_good (K : PySem.W.Frag) : Sp := fun vs H Q E => Sp_first_good K vs H Q E
theorem sc_first_good : FnScope ["many", "table", "wishes", "known", "switch"] ["many", "table", "wishes"] (defScope s_first_good) := ⟨rfl, rfl, rfl, by decide +kernel, rfl, by decide +kernel, by decide +kernel⟩
set_option maxHeartbeats 4000000 in
theorem ok_first_good {P : Program} {w : World} {K : PySem.W.Frag} {mg : Str → Option Value} {base : Heap} {t : Ad} (T : Tx K mg t) : FnOk P w K mg base CX0 3 t.f_first_good t.d_first_good ["many", "table", "wishes"] (sp_first_good K) := by
  have G_grown := ok_grown (P := P) (w := w) (base := base) T
  have G_with_switch := ok_with_switch (P := P) (w := w) (base := base) T
  refine T.F_first_good.ok sc_first_good (fun vs H Q E h => ?_) (fun cdv A outer s H vs Q E hr h => ?_)
  · obtain ⟨n, t', wi, H0, m, pile, wishes, rfl, tb, hwi, ok, hn, wl, hw1, q1, q2⟩ := h
    rfl
  · obtain ⟨n, t', wi, H0, m, pile, wishes, rfl, tb, hwi, ok, hn, wl, hw1, q1, q2⟩ := h
    have hu := hu_of hr
    refine ⟨_, (pss_cons (ps_set (i := 3) sc_first_good.nd rfl (Or.inr rfl) (pe_call G_grown (hr.mono (by decide)) rfl T.m_grown T.F_grown.kp T.b_grown .nil pass0 (pa_cons (pv 1) (pa_cons pe_dnewK (pa_cons (pv 2) pa_nil)))))
      (pss_cons (ps_for PassesOwn.never rfl (pi_range2 rfl T.z_range (pa_cons pe_int (pa_cons (pe_op op_add (pv 0) pe_int) pa_nil))) (pg_name (i := 4) sc_first_good.nd rfl (Or.inl rfl))
        (pss_cons (ps_if (pt_cmpR op_isN (pv 3) pe_non (nomark _)) (pss_one (ps_ret pe_non)) pss_nil)
        (pss_one (ps_set (i := 3) sc_first_good.nd rfl (Or.inr rfl) (pe_call G_with_switch (hr.mono (by decide)) rfl T.m_with_switch T.F_with_switch.kp T.b_with_switch .nil pass0 (pa_cons (pv 1) (pa_cons (pv 3) (pa_cons (pv 4) pa_nil))))))))
      (pss_cons (ps_if (pt_cmpR op_isN (pv 3) pe_non (nomark _)) (pss_one (ps_ret pe_non)) pss_nil)
      (pss_one (ps_ret (pe_comp (N' := ["switch", "known"]) (mv := [none, some 3]) rfl (compOk rfl rfl rfl rfl) (.cons trivial (.cons ⟨rfl, rfl, .inl rfl⟩ .nil)) (pi_range2 rfl T.z_range (pa_cons pe_int (pa_cons (pe_op op_add (pv 0) pe_int) pa_nil))) (fun _ _ _ _ => (pg_name (i := 0) (show (["switch", "known"] : List Str).Nodup by decide +kernel) rfl (Or.inl rfl))) (fun _ _ _ _ => pts_nil) (fun _ _ _ _ => (pe_cmp (pc_din hu (pv 0) (pv 1)))))))))), ?_⟩
    try dsimp only [cxOf]
    refine seq_join (J := fun σ' H' => Same H H' ∧ ∃ v, σ' = [some (.int n), some (.ref t'), some (.ref wi), some v, none] ∧ ((v = .non ∧ First n pile wishes none) ∨ ∃ f F, v = .ref f ∧ H' f = some (.dK (dkT F)) ∧ FInv n pile wishes 0 F)) (fun N hN => ?_) ?_
    · refine ⟨_, rfl, fun d0 hd0 => ?_⟩
      have g0 := same_new (o := .dK []) hd0
      refine ⟨_, rfl, t', d0, wi, H0, m, n, pile, [], wishes, rfl, tb.keep g0, upd_same, g0.seq hwi, ok, hn, closed_nil, (fun x hx => nomatch hx), wl, hw1, fun H1 s1 no => ?_, fun f F H1 s1 hf gr => ?_⟩
      · exact hN _ _ ⟨g0.trans s1, _, rfl, .inl ⟨rfl, .inl (no.mono fun x hx => hx.elim (fun z => nomatch z) id)⟩⟩
      · exact hN _ _ ⟨g0.trans s1, _, rfl, .inr ⟨f, F, rfl, hf, FInv.start gr⟩⟩
    rintro σ' H' ⟨s1, v0, rfl, hv0⟩
    refine ⟨_, rfl, _, _, rfl, rfl, _, _, rfl, ⟨by decide, by decide, by omega, by omega⟩, for_range (lo := 1) (n := ((n : Int) + 1 - 1).toNat) (fun i σ H2 => Same H H2 ∧ ∃ v w, σ = [some (.int n), some (.ref t'), some (.ref wi), some v, w] ∧ ((v = .non ∧ First n pile wishes none) ∨ ∃ f F, v = .ref f ∧ H2 f = some (.dK (dkT F)) ∧ FInv n pile wishes i F)) ⟨s1, v0, none, rfl, hv0⟩ ?_ ?_⟩
    · rintro i σ H2 hi ⟨s2, v, w, rfl, hv⟩
      have hin : i < n := by omega
      rcases hv with ⟨rfl, hno⟩ | ⟨f, F, rfl, hf, fi⟩
      · refine ⟨_, rfl, rfl, _, rfl, iteT ?_⟩
        exact q1 H2 s2 hno
      · refine ⟨_, rfl, rfl, _, rfl, iteF ?_⟩
        refine ⟨_, rfl, _, rfl, _, rfl, t', f, H0, m, n, i, pile, wishes, F, (by rw [show (1 : Int) + (i : Int) = ((i + 1 : Nat) : Int) by omega]; rfl), tb.keep s2, hf, ok, hn, hin, fi, fun H3 s3 kn => ?_, fun f' F' H3 s3 hf' fi' => ?_⟩
        · exact ⟨s2.trans s3, _, _, rfl, .inl ⟨rfl, .inr ⟨i + 1, by omega, by omega, kn⟩⟩⟩
        · exact ⟨s2.trans s3, _, _, rfl, .inr ⟨f', F', rfl, hf', fi'⟩⟩
    · rintro σ H2 ⟨s2, v, w, rfl, hv⟩
      rcases hv with ⟨rfl, hno⟩ | ⟨f, F, rfl, hf, fi⟩
      · refine ⟨_, rfl, rfl, _, rfl, iteT ?_⟩
        exact q1 H2 s2 hno
      · refine ⟨_, rfl, rfl, _, rfl, iteF ?_⟩
        have en : ((n : Int) + 1 - 1).toNat = n := by omega
        rw [en] at fi
        try dsimp only [gName, tAsg, tRet, tNext, tDrop, tSeq, tCB, tCons, tNil]
        refine comp_range (lo := 1) (hi := (n : Int) + 1) (n := n) (fun Q' q' => ⟨_, rfl, _, _, rfl, rfl, q'⟩) ⟨by decide, by decide, by omega, by omega⟩ (by omega) (Nat.le_trans hn (by decide))
          (fun D i σ H3 ys => ∃ v, σ = [v, some (.ref f)] ∧ Same H2 H3 ∧ H3 D = some (.lst ys) ∧ ys = (List.range i).map fun (k : Nat) => V.bl (decide (((k : Int) + 1) ∈ F))) ?_ ?_ ?_ ?_
        · exact fun D hD => ⟨none, rfl, same_new hD, upd_same, rfl⟩
        · rintro D i σ H3 ys hi ⟨v, rfl, s3, h3, rfl⟩
          rw [List.length_map, List.length_range]
          exact Nat.le_refl _
        · rintro D i σ H3 ys hD hi ⟨v, rfl, s3, h3, rfl⟩
          refine ⟨_, rfl, _, rfl, f, _, rfl, DGet.k (k := Sum.inl (1 + (i : Int))) (s3 _ _ hf), h3, _, rfl, same_upd s3 hD, upd_same, ?_⟩
          rw [dkT_isSome, List.range_succ, List.map_append, show (1 : Int) + (i : Int) = (i : Int) + 1 by omega]
          rfl
        · rintro D σ H3 ys hD ⟨v, rfl, s3, h3, rfl⟩
          refine q2 D (setOf n F) H3 (s2.free hD) (s2.trans s3) ?_ ⟨F, fi, rfl⟩
          rw [h3]
          unfold setOf
          rw [List.map_map]
          rfl
inductive Sp_least (K : PySem.W.Frag) (vs : List V) (H : Hp) (Q : VK) (E : XK) : Prop
  | mk (n : Nat) (l : Addr) (pile : List Say) (h0 : vs = [.int n, .ref l]) (h1 : PileAt H l pile) (h2 : pile.length ≤ 1000) (h3 : PileOk n pile) (h4 : n ≤ 100) (h5 : (∀ H', Same H H' → First n pile [] none → Q .non H')) (h6 : ∀ (l : Addr) (S : List Bool) (H' : Hp), H l = none → Same H H' → H' l = some (.lst (S.map V.bl)) → First n pile [] (some S) → Q (.ref l) H') : Sp_least K vs H Q E
noncomputable abbrev sp_least (K : PySem.W.Frag) : Sp := fun vs H Q E => Sp_least K vs H Q E
theorem sc_least : FnScope ["many", "pile"] ["many", "pile"] (defScope s_least) := ⟨rfl, rfl, rfl, by decide +kernel, rfl, by decide +kernel, by decide +kernel⟩
set_option maxHeartbeats 4000000 in
theorem ok_least {P : Program} {w : World} {K : PySem.W.Frag} {mg : Str → Option Value} {base : Heap} {t : Ad} (T : Tx K mg t) : FnOk P w K mg base CX0 4 t.f_least t.d_least ["many", "pile"] (sp_least K) := by
  have G_step_table := ok_step_table (P := P) (w := w) (base := base) T
  have G_first_good := ok_first_good (P := P) (w := w) (base := base) T
  refine T.F_least.ok sc_least (fun vs H Q E h => ?_) (fun cdv A outer s H vs Q E hr h => ?_)
  · obtain ⟨n, l, pile, rfl, P', hp, ok, hn, q1, q2⟩ := h
    rfl
  · obtain ⟨n, l, pile, rfl, P', hp, ok, hn, q1, q2⟩ := h
    have hu := hu_of hr
    refine ⟨_, (pss_one (ps_ret (pe_call G_first_good (hr.mono (by decide)) rfl T.m_first_good T.F_first_good.kp T.b_first_good .nil pass0 (pa_cons (pv 0) (pa_cons (pe_call G_step_table (hr.mono (by decide)) rfl T.m_step_table T.F_step_table.kp T.b_step_table .nil pass0 (pa_cons (pv 1) pa_nil)) (pa_cons (pe_lst pa_nil) pa_nil)))))), ?_⟩
    try dsimp only [cxOf]
    refine ⟨_, rfl, _, rfl, l, pile, rfl, P', hp, fun d H1 tb => ?_⟩
    refine ⟨by decide, fun lw hlw => ?_⟩
    have s2 := same_new (o := .lst []) hlw
    have s12 := tb.same.trans s2
    refine ⟨n, d, lw, H, _, pile, [], rfl, tb.keep s2, SqL.of upd_same, ok, hn, (fun x hx => nomatch hx), by decide, fun H3 s3 h => q1 H3 (s12.trans s3) h, fun l' S H3 hl' s3 h3 h => q2 l' S H3 (s12.free hl') (s12.trans s3) h3 h⟩
inductive Sp_least_with (K : PySem.W.Frag) (vs : List V) (H : Hp) (Q : VK) (E : XK) : Prop
  | mk (n : Nat) (l wi : Addr) (pile : List Say) (wishes : List Int) (h0 : vs = [.int n, .ref l, .ref wi]) (h1 : PileAt H l pile) (h2 : H wi = some (.lst (wishes.map V.int))) (h3 : pile.length ≤ 1000) (h4 : PileOk n pile) (h5 : n ≤ 100) (h6 : (∀ x ∈ wishes, Lit n x)) (h7 : wishes.length ≤ 1000) (h8 : (∀ H', Same H H' → First n pile wishes none → Q .non H')) (h9 : ∀ (l : Addr) (S : List Bool) (H' : Hp), H l = none → Same H H' → H' l = some (.lst (S.map V.bl)) → First n pile wishes (some S) → Q (.ref l) H') : Sp_least_with K vs H Q E
noncomputable abbrev sp_least_with (K : PySem.W.Frag) : Sp := fun vs H Q E => Sp_least_with K vs H Q E
theorem sc_least_with : FnScope ["many", "pile", "wishes"] ["many", "pile", "wishes"] (defScope s_least_with) := ⟨rfl, rfl, rfl, by decide +kernel, rfl, by decide +kernel, by decide +kernel⟩
set_option maxHeartbeats 4000000 in
theorem ok_least_with {P : Program} {w : World} {K : PySem.W.Frag} {mg : Str → Option Value} {base : Heap} {t : Ad} (T : Tx K mg t) : FnOk P w K mg base CX0 4 t.f_least_with t.d_least_with ["many", "pile", "wishes"] (sp_least_with K) := by
  have G_step_table := ok_step_table (P := P) (w := w) (base := base) T
  have G_first_good := ok_first_good (P := P) (w := w) (base := base) T
  refine T.F_least_with.ok sc_least_with (fun vs H Q E h => ?_) (fun cdv A outer s H vs Q E hr h => ?_)
  · obtain ⟨n, l, wi, pile, wishes, rfl, P', hwi, hp, ok, hn, wl, hw1, q1, q2⟩ := h
    rfl
  · obtain ⟨n, l, wi, pile, wishes, rfl, P', hwi, hp, ok, hn, wl, hw1, q1, q2⟩ := h
    have hu := hu_of hr
    refine ⟨_, (pss_one (ps_ret (pe_call G_first_good (hr.mono (by decide)) rfl T.m_first_good T.F_first_good.kp T.b_first_good .nil pass0 (pa_cons (pv 0) (pa_cons (pe_call G_step_table (hr.mono (by decide)) rfl T.m_step_table T.F_step_table.kp T.b_step_table .nil pass0 (pa_cons (pv 1) pa_nil)) (pa_cons (pv 2) pa_nil)))))), ?_⟩
    try dsimp only [cxOf]
    refine ⟨_, rfl, _, rfl, l, pile, rfl, P', hp, fun d H1 tb => ?_⟩
    refine ⟨_, rfl, n, d, wi, H, _, pile, wishes, rfl, tb, SqL.of (tb.same _ _ hwi), ok, hn, wl, hw1, fun H3 s3 h => q1 H3 (tb.same.trans s3) h, fun l' S H3 hl' s3 h3 h => q2 l' S H3 (tb.same.free hl') (tb.same.trans s3) h3 h⟩
inductive Sp_road_for (K : PySem.W.Frag) (vs : List V) (H : Hp) (Q : VK) (E : XK) : Prop
  | mk (l b : Addr) (c : Say) (n : Nat) (pile : List Say) (h0 : vs = [.ref l, .ref b]) (h1 : PileAt H l pile) (h2 : pile.length ≤ 1000) (h3 : PileOk n pile) (h4 : n ≤ 1000) (h5 : H b = some (.tup [.int c.1, .int c.2])) (h6 : Lit n c.1) (h7 : Lit n c.2) (h8 : (∀ H', Same H H' → (∀ s g, Ends2 c s g → ¬ Reach pile s g) → Q .non H')) (h9 : ∀ (l : Addr) (s g : Int) (P : List Int) (H' : Hp), Ends2 c s g → RoadOf pile s g P → H l = none → Same H H' → H' l = some (.lst (P.map V.int)) → Q (.ref l) H') : Sp_road_for K vs H Q E
noncomputable abbrev sp_road_for (K : PySem.W.Frag) : Sp := fun vs H Q E => Sp_road_for K vs H Q E
theorem sc_road_for : FnScope ["pile", "say", "start", "goal", "found"] ["pile", "say"] (defScope s_road_for) := ⟨rfl, rfl, rfl, by decide +kernel, rfl, by decide +kernel, by decide +kernel⟩
set_option maxHeartbeats 4000000 in
theorem ok_road_for {P : Program} {w : World} {K : PySem.W.Frag} {mg : Str → Option Value} {base : Heap} {t : Ad} (T : Tx K mg t) : FnOk P w K mg base CX0 4 t.f_road_for t.d_road_for ["pile", "say"] (sp_road_for K) := by
  have G_road := ok_road (P := P) (w := w) (base := base) T
  refine T.F_road_for.ok sc_road_for (fun vs H Q E h => ?_) (fun cdv A outer s H vs Q E hr h => ?_)
  · obtain ⟨l, b, c, n, pile, rfl, P', hp, ok, hn, hb, h1, h2, q1, q2⟩ := h
    rfl
  · obtain ⟨l, b, c, n, pile, rfl, P', hp, ok, hn, hb, h1, h2, q1, q2⟩ := h
    have hu := hu_of hr
    refine ⟨_, (pss_cons (ps_for PassesOwn.never rfl (pi_tup (pe_tup (pa_cons (pe_un un_neg (pe_ix ix_tup (pv 1) pe_int (fun _ _ => rfl))) (pa_cons (pe_un un_neg (pe_ix ix_tup (pv 1) pe_int (fun _ _ => rfl))) pa_nil)))) (pg_name (i := 2) sc_road_for.nd rfl (Or.inl rfl))
        (pss_one (ps_for PassesOwn.never rfl (pi_tup (pv 1)) (pg_name (i := 3) sc_road_for.nd rfl (Or.inl rfl))
          (pss_cons (ps_set (i := 4) sc_road_for.nd rfl (Or.inl rfl) (pe_call G_road (hr.mono (by decide)) rfl T.m_road T.F_road.kp T.b_road .nil pass0 (pa_cons (pv 0) (pa_cons (pv 2) (pa_cons (pv 3) pa_nil)))))
          (pss_one (ps_if (pt_cmpR op_notN (pv 4) pe_non (nomark _)) (pss_one (ps_ret (pv 4))) pss_nil))))))
      (pss_one (ps_ret pe_non))), ?_⟩
    try dsimp only [cxOf]
    refine ⟨_, rfl, b, _, _, _, rfl, rfl, SqT.of hb, rfl, _, rfl, _, rfl, b, _, _, _, rfl, rfl, SqT.of hb, rfl, _, rfl, (by show 2 ≤ sizeLine; decide), fun tp htp => ?_⟩
    have g0 := same_new (o := .tup [.int (-c.1), .int (-c.2)]) htp
    have ktp := upd_same (H := H) (a := tp) (o := .tup [.int (-c.1), .int (-c.2)])
    refine ⟨tp, rfl, ⟨_, SqT.of ktp⟩, for_tup (K := K) (a := tp) (xs := [.int (-c.1), .int (-c.2)]) (fun i σ H2 => ∃ v w f, σ = [some (.ref l), some (.ref b), v, w, f] ∧ Same (upd H tp (.tup [.int (-c.1), .int (-c.2)])) H2 ∧ ∀ s ∈ ([-c.1, -c.2] : List Int).take i, ∀ g, (g = c.1 ∨ g = c.2) → ¬ Reach pile s g)
      ⟨none, none, none, rfl, Same.refl _, (fun s hs => by simp at hs)⟩ (fun i σ H2 _ ⟨_, _, _, _, s2, _⟩ => SqT.of (s2 _ _ ktp)) ?_ ?_⟩
    · rintro i x σ H2 hi ⟨v, w, f, rfl, s2, no⟩
      obtain ⟨s, rfl, hs⟩ := ints_get (L := [-c.1, -c.2]) hi
      have hsm : s = -c.1 ∨ s = -c.2 := by
        have := List.mem_of_getElem? hs
        simpa using this
      have ls : Lit n s := by rcases hsm with z | z <;> rw [z]; exact h1.neg; exact h2.neg
      have s02 := g0.trans s2
      refine ⟨_, rfl, b, rfl, ⟨_, SqT.of (s02 _ _ hb)⟩, for_tup (K := K) (a := b) (xs := [.int c.1, .int c.2]) (fun j σ H3 => ∃ w f, σ = [some (.ref l), some (.ref b), some (.int s), w, f] ∧ Same (upd H tp (.tup [.int (-c.1), .int (-c.2)])) H3 ∧ ∀ g ∈ ([c.1, c.2] : List Int).take j, ¬ Reach pile s g)
        ⟨w, f, rfl, s2, (fun s hs => by simp at hs)⟩ (fun i σ H3 _ ⟨_, _, _, s3, _⟩ => SqT.of ((g0.trans s3) _ _ hb)) ?_ ?_⟩
      · rintro j y σ H3 hj ⟨w, f, rfl, s3, no2⟩
        obtain ⟨g, rfl, hg⟩ := ints_get (L := [c.1, c.2]) hj
        have hgm : g = c.1 ∨ g = c.2 := by
          have := List.mem_of_getElem? hg
          simpa using this
        have s03 := g0.trans s3
        refine ⟨_, rfl, _, rfl, _, rfl, l, s, g, n, pile, rfl, P'.same s03, hp, ok, hn, ls, fun H4 s4 nr => ?_, fun lr P H4 ro hlr s4 h4 => ?_⟩
        · refine ⟨_, rfl, rfl, _, rfl, iteF ⟨_, _, rfl, s3.trans s4, fun g' hg' => ?_⟩⟩
          rw [take_snoc hg] at hg'
          rcases List.mem_append.mp hg' with z | z
          · exact no2 g' z
          · rw [List.mem_singleton] at z; subst z; exact nr
        · exact ⟨_, rfl, rfl, _, rfl, iteT ⟨_, rfl, q2 lr s g P H4 ⟨hsm, hgm⟩ ro (s03.free hlr) (s03.trans s4) h4⟩⟩
      · rintro σ H3 ⟨w, f, rfl, s3, no2⟩
        refine ⟨_, _, _, rfl, s3, fun s' hs' g hg => ?_⟩
        rw [take_snoc hs] at hs'
        rcases List.mem_append.mp hs' with z | z
        · exact no s' z g hg
        · rw [List.mem_singleton] at z; subst z; exact no2 g (by rcases hg with z | z <;> rw [z] <;> simp)
    · rintro σ H2 ⟨v, w, f, rfl, s2, no⟩
      refine q1 H2 (g0.trans s2) fun s g e => no s ?_ g e.2
      rcases e.1 with z | z <;> rw [z] <;> simp
inductive Sp_why (K : PySem.W.Frag) (vs : List V) (H : Hp) (Q : VK) (E : XK) : Prop
  | mk (n : Nat) (l b : Addr) (c : Say) (pile : List Say) (h0 : vs = [.int n, .ref l, .ref b]) (h1 : PileAt H l pile) (h2 : pile.length ≤ 1000) (h3 : PileOk n pile) (h4 : n ≤ 100) (h5 : H b = some (.tup [.int c.1, .int c.2])) (h6 : Lit n c.1) (h7 : Lit n c.2) (h8 : (∀ (t lr : Addr) (R : List Int) (H' : Hp), H t = none → H lr = none → Same H H' → H' t = some (.tup [.str "ring", .ref lr]) → H' lr = some (.lst (R.map V.int)) → RingOf n pile R → Q (.ref t) H')) (h9 : (∀ (t lr : Addr) (s g : Int) (P : List Int) (H' : Hp), NoKnot n pile → Ends2 c s g → RoadOf pile s g P → H t = none → H lr = none → Same H H' → H' t = some (.tup [.str "road", .ref lr]) → H' lr = some (.lst (P.map V.int)) → Q (.ref t) H')) (h10 : (∀ H', Same H H' → NoKnot n pile → (∀ s g, Ends2 c s g → ¬ Reach pile s g) → Q .non H')) : Sp_why K vs H Q E
noncomputable abbrev sp_why (K : PySem.W.Frag) : Sp := fun vs H Q E => Sp_why K vs H Q E
theorem sc_why : FnScope ["many", "pile", "say", "ring", "found"] ["many", "pile", "say"] (defScope s_why) := ⟨rfl, rfl, rfl, by decide +kernel, rfl, by decide +kernel, by decide +kernel⟩
set_option maxHeartbeats 4000000 in
theorem ok_why {P : Program} {w : World} {K : PySem.W.Frag} {mg : Str → Option Value} {base : Heap} {t : Ad} (T : Tx K mg t) : FnOk P w K mg base CX0 5 t.f_why t.d_why ["many", "pile", "say"] (sp_why K) := by
  have G_clash := ok_clash (P := P) (w := w) (base := base) T
  have G_road_for := ok_road_for (P := P) (w := w) (base := base) T
  refine T.F_why.ok sc_why (fun vs H Q E h => ?_) (fun cdv A outer s H vs Q E hr h => ?_)
  · obtain ⟨n, l, b, c, pile, rfl, P', hp, ok, hn, hb, h1, h2, q1, q2, q3⟩ := h
    rfl
  · obtain ⟨n, l, b, c, pile, rfl, P', hp, ok, hn, hb, h1, h2, q1, q2, q3⟩ := h
    have hu := hu_of hr
    refine ⟨_, (pss_cons (ps_set (i := 3) sc_why.nd rfl (Or.inl rfl) (pe_call G_clash (hr.mono (by decide)) rfl T.m_clash T.F_clash.kp T.b_clash .nil pass0 (pa_cons (pv 0) (pa_cons (pv 1) pa_nil))))
      (pss_cons (ps_if (pt_cmpR op_notN (pv 3) pe_non (nomark _)) (pss_one (ps_ret (pe_tup (pa_cons pe_str (pa_cons (pv 3) pa_nil))))) pss_nil)
      (pss_cons (ps_set (i := 4) sc_why.nd rfl (Or.inl rfl) (pe_call G_road_for (hr.mono (by decide)) rfl T.m_road_for T.F_road_for.kp T.b_road_for .nil pass0 (pa_cons (pv 1) (pa_cons (pv 2) pa_nil))))
      (pss_cons (ps_if (pt_cmpR op_notN (pv 4) pe_non (nomark _)) (pss_one (ps_ret (pe_tup (pa_cons pe_str (pa_cons (pv 4) pa_nil))))) pss_nil)
      (pss_one (ps_ret pe_non)))))), ?_⟩
    try dsimp only [cxOf]
    refine ⟨_, rfl, _, rfl, n, l, pile, rfl, P', hp, ok, hn, fun H1 s1 nk => ?_, fun lr R H1 hlr s1 rg h1r => ?_⟩
    · refine ⟨_, rfl, rfl, _, rfl, iteF ?_⟩
      refine ⟨_, rfl, _, rfl, l, b, c, n, pile, rfl, P'.same s1, hp, ok, by omega, s1 _ _ hb, h1, h2, fun H2 s2 no => ?_, fun lr s g P H2 e ro hlr s2 h2r => ?_⟩
      · exact ⟨_, rfl, rfl, _, rfl, iteF (q3 H2 (s1.trans s2) nk no)⟩
      · refine ⟨_, rfl, rfl, _, rfl, iteT ⟨_, rfl, (by show 2 ≤ sizeLine; decide), fun t ht => ?_⟩⟩
        have s3 := same_new (o := .tup [.str "road", .ref lr]) ht
        have s12 := s1.trans s2
        exact q2 t lr s g P _ nk e ro (s12.free ht) (s1.free hlr) (s12.trans s3) upd_same (s3 _ _ h2r)
    · refine ⟨_, rfl, rfl, _, rfl, iteT ⟨_, rfl, (by show 2 ≤ sizeLine; decide), fun t ht => ?_⟩⟩
      have s3 := same_new (o := .tup [.str "ring", .ref lr]) ht
      exact q1 t lr R _ (s1.free ht) hlr (s1.trans s3) upd_same (s3 _ _ h1r) rg
inductive Sp_against (K : PySem.W.Frag) (vs : List V) (H : Hp) (Q : VK) (E : XK) : Prop
  | mk (n : Nat) (l b : Addr) (c : Say) (pile : List Say) (h0 : vs = [.int n, .ref l, .ref b]) (h1 : PileAt H l pile) (h2 : pile.length ≤ 1000) (h3 : PileOk n pile) (h4 : n ≤ 100) (h5 : H b = some (.tup [.int c.1, .int c.2])) (h6 : Lit n c.1) (h7 : Lit n c.2) (h8 : (∀ H', Same H H' → First n pile [-c.1, -c.2] none → Q .non H')) (h9 : ∀ (l : Addr) (S : List Bool) (H' : Hp), H l = none → Same H H' → H' l = some (.lst (S.map V.bl)) → First n pile [-c.1, -c.2] (some S) → Q (.ref l) H') : Sp_against K vs H Q E
noncomputable abbrev sp_against (K : PySem.W.Frag) : Sp := fun vs H Q E => Sp_against K vs H Q E
theorem sc_against : FnScope ["many", "pile", "say"] ["many", "pile", "say"] (defScope s_against) := ⟨rfl, rfl, rfl, by decide +kernel, rfl, by decide +kernel, by decide +kernel⟩
set_option maxHeartbeats 4000000 in
theorem ok_against {P : Program} {w : World} {K : PySem.W.Frag} {mg : Str → Option Value} {base : Heap} {t : Ad} (T : Tx K mg t) : FnOk P w K mg base CX0 5 t.f_against t.d_against ["many", "pile", "say"] (sp_against K) := by
  have G_least_with := ok_least_with (P := P) (w := w) (base := base) T
  refine T.F_against.ok sc_against (fun vs H Q E h => ?_) (fun cdv A outer s H vs Q E hr h => ?_)
  · obtain ⟨n, l, b, c, pile, rfl, P', hp, ok, hn, hb, h1, h2, q1, q2⟩ := h
    rfl
  · obtain ⟨n, l, b, c, pile, rfl, P', hp, ok, hn, hb, h1, h2, q1, q2⟩ := h
    have hu := hu_of hr
    refine ⟨_, (pss_one (ps_ret (pe_call G_least_with (hr.mono (by decide)) rfl T.m_least_with T.F_least_with.kp T.b_least_with .nil pass0 (pa_cons (pv 0) (pa_cons (pv 1) (pa_cons (pe_lst (pa_cons (pe_un un_neg (pe_ix ix_tup (pv 2) pe_int (fun _ _ => rfl))) (pa_cons (pe_un un_neg (pe_ix ix_tup (pv 2) pe_int (fun _ _ => rfl))) pa_nil))) pa_nil)))))), ?_⟩
    try dsimp only [cxOf]
    refine ⟨_, rfl, _, rfl, _, rfl, b, _, _, _, rfl, rfl, SqT.of hb, rfl, _, rfl, _, rfl, b, _, _, _, rfl, rfl, SqT.of hb, rfl, _, rfl, (by show 2 ≤ sizeLine; decide), fun w hw => ?_⟩
    have s1 := same_new (o := .lst [.int (-c.1), .int (-c.2)]) hw
    refine ⟨n, l, w, pile, [-c.1, -c.2], rfl, P'.same s1, upd_same, hp, ok, hn, lits2 h1 h2, (by show 2 ≤ 1000; decide), fun H2 s2 f => q1 H2 (s1.trans s2) f, fun l' S H2 hl' s2 h2' f => q2 l' S H2 (s1.free hl') (s1.trans s2) h2' f⟩
inductive Sp_Book_init (K : PySem.W.Frag) (vs : List V) (H : Hp) (Q : VK) (E : XK) : Prop
  | mk (p C dx : Addr) (n : Nat) (h0 : vs = [.ref p, .int n]) (h1 : IsC K "Book" C) (h2 : H p = some (.ins C dx [])) (h3 : ∀ (l : Addr) (H' : Hp), H l = none → BookAt K H' p l n [] → (∀ b o, H b = some o → b ≠ p → H' b = some o) → Q .non H') : Sp_Book_init K vs H Q E
noncomputable abbrev sp_Book_init (K : PySem.W.Frag) : Sp := fun vs H Q E => Sp_Book_init K vs H Q E
theorem sc_Book_init : FnScope ["self", "many"] ["self", "many"] (defScope s_Book_init) := ⟨rfl, rfl, rfl, by decide +kernel, rfl, by decide +kernel, by decide +kernel⟩
set_option maxHeartbeats 4000000 in
theorem ok_Book_init {P : Program} {w : World} {K : PySem.W.Frag} {mg : Str → Option Value} {base : Heap} {t : Ad} (T : Tx K mg t) : FnOk P w K mg base CX0 1 t.f_Book_init t.d_Book_init ["self", "many"] (sp_Book_init K) := by
  refine T.F_Book_init.ok sc_Book_init (fun vs H Q E h => ?_) (fun cdv A outer s H vs Q E hr h => ?_)
  · obtain ⟨p, C, dx, n, rfl, hC, hp, q⟩ := h
    rfl
  · obtain ⟨p, C, dx, n, rfl, hC, hp, q⟩ := h
    have hu := hu_of hr
    refine ⟨_, (pss_cons (ps_fld (pv 0) (pv 1) rfl)
      (pss_one (ps_fld (pv 0) (pe_lst pa_nil) rfl))), ?_⟩
    try dsimp only [cxOf]
    have eC : C = t.c_Book := hC.uniq T.nn_Book
    subst eC
    refine ⟨_, rfl, _, rfl, p, _, dx, [], rfl, hp, T.cl_Book, T.nf_many, (by show 0 < 1000; decide), ?_⟩
    refine ⟨by decide, fun l hl => ?_⟩
    have npl : p ≠ l := fun z => by rw [← z, upd_same] at hl; cases hl
    have hl0 : H l = none := by rw [upd_ne npl.symm] at hl; exact hl
    refine ⟨_, rfl, p, _, dx, _, rfl, (by rw [upd_ne npl, upd_same]), T.cl_Book, T.nf_pile, (by show 1 < 1000; decide), ?_⟩
    refine q l _ hl0 ⟨⟨_, dx, hC, upd_same⟩, ⟨[], by rw [upd_ne npl.symm, upd_same]; rfl, .nil⟩⟩ fun b o e hb => ?_
    rw [upd_ne hb, upd_ne (ne_of_none e hl0), upd_ne hb]
    exact e
inductive Sp_Book_add (K : PySem.W.Frag) (vs : List V) (H : Hp) (Q : VK) (E : XK) : Prop
  | mk (p l b : Addr) (n : Nat) (pile : List Say) (c : Say) (h0 : vs = [.ref p, .ref b]) (h1 : BookAt K H p l n pile) (h2 : pile.length ≤ 400) (h3 : H b = some (.tup [.int c.1, .int c.2])) (h4 : c.1.natAbs < 10 ^ 30) (h5 : c.2.natAbs < 10 ^ 30) (h6 : (Lit n c.1 → Lit n c.2 → pile.length < 400 → ∀ H', BookAt K H' p l n (pile ++ [c]) → But l H H' → Q .non H')) (h7 : (¬ (Lit n c.1 ∧ Lit n c.2) → ∀ C, IsC K "BadSay" C → E (.ref C) none H)) (h8 : (Lit n c.1 → Lit n c.2 → pile.length = 400 → ∀ C, IsC K "FullBook" C → E (.ref C) none H)) : Sp_Book_add K vs H Q E
noncomputable abbrev sp_Book_add (K : PySem.W.Frag) : Sp := fun vs H Q E => Sp_Book_add K vs H Q E
theorem sc_Book_add : FnScope ["self", "say", "lit"] ["self", "say"] (defScope s_Book_add) := ⟨rfl, rfl, rfl, by decide +kernel, rfl, by decide +kernel, by decide +kernel⟩
set_option maxHeartbeats 4000000 in
theorem ok_Book_add {P : Program} {w : World} {K : PySem.W.Frag} {mg : Str → Option Value} {base : Heap} {t : Ad} (T : Tx K mg t) : FnOk P w K mg base (CX1 P w) 1 t.f_Book_add t.d_Book_add ["self", "say"] (sp_Book_add K) := by
  refine T.F_Book_add.okX sc_Book_add (fun vs H Q E h => ?_) (fun cdv A outer s H vs Q E hr h => ?_)
  · obtain ⟨p, l, b, n, pile, c, rfl, B, hp, hb, w1, w2, q1, q2, q3⟩ := h
    rfl
  · obtain ⟨p, l, b, n, pile, c, rfl, B, hp, hb, w1, w2, q1, q2, q3⟩ := h
    have hu := hu_of hr
    obtain ⟨tk_MOST_SAYS, g_MOST_SAYS⟩ := T.g_MOST_SAYS
    refine ⟨_, (pss_cons (ps_for own_leaving rfl (pi_tup (pv 1)) (pg_name (i := 2) sc_Book_add.nd rfl (Or.inl rfl))
        (pss_one (ps_if (PW.pt (pw_or (pt_cmpR op_eq (pv 2) pe_int (nomark _)) (pw_or1 (pt_cmpR op_gt (pe_callB call_abs (by rfl) T.z_abs (show bootBuiltins "abs" = _ by decide +kernel) (pa_cons (pv 2) pa_nil)) (pe_fld (pv 0) rfl) (nomark _))))) (pss_one (ps_raise rfl rfl T.m_BadSay T.x_BadSay.ex (pa_cons (pe_text (pj_cons pe_str (pj_cons (pe_fmt (pv 2)) pj_nil))) pa_nil))) pss_nil)))
      (pss_cons (ps_if (pt_cmpR op_ge (pe_callB call_len_seq (by rfl) T.z_len PySem.boot_len (pa_cons (pe_fld (pv 0) rfl) pa_nil)) (pe_glob (v := .int 400) rfl g_MOST_SAYS ⟨_, rfl⟩) (nomark _)) (pss_one (ps_raise rfl rfl T.m_FullBook T.x_FullBook.ex (pa_cons pe_str pa_nil))) pss_nil)
      (pss_one (ps_expr (pe_bm PySem.F.plainAttrs_list PySem.F.slot_list_append PySem.F.type_list_append mt_append (pe_fld (pv 0) rfl) (pa_cons (pv 1) pa_nil)))))), ?_⟩
    try dsimp only [cxOf]
    obtain ⟨⟨C, dx, hC, ho⟩, as, g, ht⟩ := id B
    have eC : C = t.c_Book := hC.uniq T.nn_Book
    subst eC
    have hal := ht.length
    have big : ∀ k, k ≤ 1000 → k ≤ sizeLine := fun k hk => Nat.le_trans hk (by decide)
    have e25 : (Str.empty ++ ("no literal of this book: " : Str)).length = 25 := by decide +kernel
    refine ⟨_, rfl, b, rfl, ⟨_, SqT.of hb⟩, for_tup (K := K) (a := b) (xs := [.int c.1, .int c.2]) (fun i σ H2 => H2 = H ∧ ∃ v, σ = [some (.ref p), some (.ref b), v] ∧ ∀ z ∈ ([c.1, c.2] : List Int).take i, Lit n z)
      ⟨rfl, none, rfl, fun z hz => by simp at hz⟩ (fun i σ H2 _ ⟨e, _⟩ => SqT.of (e ▸ hb)) ?_ ?_⟩
    · rintro i x σ H2 hi ⟨rfl, v, rfl, al⟩
      obtain ⟨z, rfl, hz⟩ := ints_get (L := [c.1, c.2]) hi
      have hzm : z = c.1 ∨ z = c.2 := by simpa using List.mem_of_getElem? hz
      have wz : z.natAbs < 10 ^ 30 := by rcases hzm with e | e <;> rw [e] <;> assumption
      have hlog : z.natAbs.log2 < 1920 := by
        have h1 : z.natAbs < 2 ^ 100 := Nat.lt_trans wz (by decide)
        by_cases h0 : z.natAbs = 0
        · rw [h0]; decide
        · exact Nat.lt_trans ((Nat.log2_lt h0).mpr h1) (by decide)
      have hlen : (Str.ofString (toString z)).length ≤ 31 := by
        have := int_text_length_le10 (a := z) (k := 30) (by decide) wz
        rw [Str.ofString_eq_toList]
        have h2 : (toString z).toList.length = (toString z).length := String.length_toList
        show (List.map Char.toNat (toString z).toList).toArray.size ≤ 31
        rw [List.size_toArray, List.length_map, h2]
        exact this
      have ill : ¬ Lit n z → ¬ (Lit n c.1 ∧ Lit n c.2) := fun h hh => by rcases hzm with e | e <;> rw [e] at h; exact h hh.1; exact h hh.2
      have tst := lit_test n z
      refine ⟨_, rfl, rfl, _, rfl, ?_⟩
      rw [dec_int]
      refine ite2 (fun e => ?_) (fun e => ?_)
      · refine iteT ⟨_, rfl, (by rw [e25]; decide), _, rfl, .inl ⟨_, rfl, hlog, _, rfl, big _ (by rw [Str.length_append, e25]; omega), big _ (by rw [Str.length_append, e25]; omega), (by show 1 ≤ sizeLine; decide), ?_⟩⟩
        exact q2 (ill (tst.mp (.inl (eq_of_beq e)))) _ T.n_BadSay
      · refine ⟨_, rfl, _, rfl, _, rfl, p, _, dx, _, _, rfl, ho, T.cl_Book, T.nf_many, bflds_many _ _, _, _, rfl, rfl, _, rfl, ?_⟩
        refine ite2 (fun e2 => ?_) (fun e2 => ?_)
        · refine ⟨_, rfl, (by rw [e25]; decide), _, rfl, .inl ⟨_, rfl, hlog, _, rfl, big _ (by rw [Str.length_append, e25]; omega), big _ (by rw [Str.length_append, e25]; omega), (by show 1 ≤ sizeLine; decide), ?_⟩⟩
          exact q2 (ill (tst.mp (.inr (of_decide_eq_true e2)))) _ T.n_BadSay
        · refine ⟨rfl, _, rfl, fun y hy => ?_⟩
          rw [take_snoc hz] at hy
          rcases List.mem_append.mp hy with hy | hy
          · exact al y hy
          · rw [List.mem_singleton] at hy
            subst hy
            refine Decidable.byContradiction fun nl => ?_
            rcases tst.mpr nl with h | h
            · exact e (by rw [h]; rfl)
            · exact e2 (decide_eq_true h)
    · rintro σ H2 ⟨rfl, v, rfl, al⟩
      have l1 : Lit n c.1 := al c.1 (by simp)
      have l2 : Lit n c.2 := al c.2 (by simp)
      refine ⟨_, rfl, p, _, dx, _, _, rfl, ho, T.cl_Book, T.nf_pile, bflds_pile _ _, l, _, rfl, .inl (SqL.of g), _, _, rfl, rfl, _, rfl, ?_⟩
      refine ite2 (fun e => ?_) (fun e => ?_)
      · have e' := of_decide_eq_true e
        rw [List.length_map, hal] at e'
        exact ⟨(by show 1 ≤ sizeLine; decide), q3 l1 l2 (by omega) _ T.n_FullBook⟩
      · have e' : ¬ (400 : Int) ≤ ((as.map V.ref).length : Int) := fun z => e (decide_eq_true z)
        rw [List.length_map, hal] at e'
        have npl := B.ne
        refine ⟨_, rfl, p, _, dx, _, _, rfl, ho, T.cl_Book, T.nf_pile, bflds_pile _ _, .inl ⟨rfl, _, SqL.of g⟩, _, rfl, l, _, _, rfl, rfl, g, small1000 (by rw [List.length_map]; omega), ?_⟩
        refine q1 l1 l2 (by omega) _ ⟨⟨_, dx, hC, by rw [upd_ne npl]; exact ho⟩, ⟨as ++ [b], by rw [upd_same, List.map_append]; rfl, TupsAt.upd g (TupsAt.snoc ht hb)⟩⟩ fun c' o e hn => by rw [upd_ne hn]; exact e
inductive Sp_Book_back (K : PySem.W.Frag) (vs : List V) (H : Hp) (Q : VK) (E : XK) : Prop
  | mk (p l : Addr) (n : Nat) (pile : List Say) (h0 : vs = [.ref p]) (h1 : BookAt K H p l n pile) (h2 : pile.length ≤ 400) (h3 : (∀ (q : List Say) (c : Say) (b : Addr) (H' : Hp), pile = q ++ [c] → H b = some (.tup [.int c.1, .int c.2]) → BookAt K H' p l n q → But l H H' → Q (.ref b) H')) (h4 : (pile = [] → ∀ C, IsC K "EmptyBook" C → E (.ref C) none H)) : Sp_Book_back K vs H Q E
noncomputable abbrev sp_Book_back (K : PySem.W.Frag) : Sp := fun vs H Q E => Sp_Book_back K vs H Q E
theorem sc_Book_back : FnScope ["self"] ["self"] (defScope s_Book_back) := ⟨rfl, rfl, rfl, by decide +kernel, rfl, by decide +kernel, by decide +kernel⟩
set_option maxHeartbeats 4000000 in
theorem ok_Book_back {P : Program} {w : World} {K : PySem.W.Frag} {mg : Str → Option Value} {base : Heap} {t : Ad} (T : Tx K mg t) : FnOk P w K mg base (CX1 P w) 1 t.f_Book_back t.d_Book_back ["self"] (sp_Book_back K) := by
  refine T.F_Book_back.okX sc_Book_back (fun vs H Q E h => ?_) (fun cdv A outer s H vs Q E hr h => ?_)
  · obtain ⟨p, l, n, pile, rfl, B, hp, q1, q2⟩ := h
    rfl
  · obtain ⟨p, l, n, pile, rfl, B, hp, q1, q2⟩ := h
    have hu := hu_of hr
    refine ⟨_, (pss_cons (ps_if (pt_not (pt_truth (pe_fld (pv 0) rfl) (fun _ => rfl))) (pss_one (ps_raise rfl rfl T.m_EmptyBook T.x_EmptyBook.ex (pa_cons pe_str pa_nil))) pss_nil)
      (pss_one (ps_ret (pe_bm0 PySem.F.plainAttrs_list PySem.F.slot_list_pop PySem.F.type_list_pop mt_pop (pe_fld (pv 0) rfl))))), ?_⟩
    try dsimp only [cxOf]
    obtain ⟨⟨C, dx, hC, ho⟩, as, g, ht⟩ := id B
    have eC : C = t.c_Book := hC.uniq T.nn_Book
    subst eC
    have hal := ht.length
    have npl := B.ne
    refine ⟨_, rfl, p, _, dx, _, _, rfl, ho, T.cl_Book, T.nf_pile, bflds_pile _ _, _, .inl ⟨_, SqL.of g, rfl⟩, ?_⟩
    rcases List.eq_nil_or_concat pile with e | ⟨q, c, e⟩
    · subst e
      have ea : as = [] := List.length_eq_zero_iff.mp hal
      subst ea
      exact iteT ⟨(by show 1 ≤ sizeLine; decide), q2 rfl _ T.n_EmptyBook⟩
    · rw [List.concat_eq_append] at e
      subst e
      have hne : as ≠ [] := fun z => by rw [z] at hal; simp at hal
      obtain ⟨as', b, ea⟩ : ∃ as' b, as = as' ++ [b] := ⟨as.dropLast, as.getLast hne, (List.dropLast_concat_getLast hne).symm⟩
      subst ea
      have ht' : TupsAt H as' q := by
        have := ht.dropLast
        rw [List.dropLast_concat, List.dropLast_concat] at this
        exact this
      have hbb : H b = some (.tup [.int c.1, .int c.2]) := by
        have hi : ((as' ++ [b]).map V.ref)[as'.length]? = some (V.ref b) := by rw [List.getElem?_map, List.getElem?_append_right (Nat.le_refl _), Nat.sub_self]; rfl
        obtain ⟨b', c', e1, _, e3, e4⟩ := ht.get hi
        cases e1
        have hq : as'.length = q.length := ht'.length
        rw [hq, List.getElem?_append_right (Nat.le_refl _), Nat.sub_self] at e3
        cases e3
        exact e4
      have eft : (as' ++ [b]).map V.ref = as'.map V.ref ++ [V.ref b] := by rw [List.map_append]; rfl
      rw [eft]
      rw [eft] at g
      refine ite2 (fun z => by simp at z) fun _ => ⟨_, rfl, p, _, dx, _, _, rfl, ho, T.cl_Book, T.nf_pile, bflds_pile _ _, .inl ⟨rfl, _, SqL.of g⟩, ?_⟩
      refine ⟨l, _, V.ref b, rfl, rfl, g, ?_, ?_⟩
      · rw [List.length_append, List.length_singleton, Nat.add_sub_cancel, List.getElem?_append_right (Nat.le_refl _), Nat.sub_self]
        rfl
      · refine q1 q c b _ rfl hbb ⟨⟨_, dx, hC, by rw [upd_ne npl]; exact ho⟩, ⟨as', by rw [upd_same, List.dropLast_concat], TupsAt.upd g ht'⟩⟩ fun c' o e hn => by rw [upd_ne hn]; exact e
inductive Sp_Book_says (K : PySem.W.Frag) (vs : List V) (H : Hp) (Q : VK) (E : XK) : Prop
  | mk (p l : Addr) (n : Nat) (pile : List Say) (h0 : vs = [.ref p]) (h1 : BookAt K H p l n pile) (h2 : ∀ (l' : Addr) (H' : Hp), H l' = none → Same H H' → PileAt H' l' pile → Q (.ref l') H') : Sp_Book_says K vs H Q E
noncomputable abbrev sp_Book_says (K : PySem.W.Frag) : Sp := fun vs H Q E => Sp_Book_says K vs H Q E
theorem sc_Book_says : FnScope ["self"] ["self"] (defScope s_Book_says) := ⟨rfl, rfl, rfl, by decide +kernel, rfl, by decide +kernel, by decide +kernel⟩
set_option maxHeartbeats 4000000 in
theorem ok_Book_says {P : Program} {w : World} {K : PySem.W.Frag} {mg : Str → Option Value} {base : Heap} {t : Ad} (T : Tx K mg t) : FnOk P w K mg base CX0 1 t.f_Book_says t.d_Book_says ["self"] (sp_Book_says K) := by
  refine T.F_Book_says.ok sc_Book_says (fun vs H Q E h => ?_) (fun cdv A outer s H vs Q E hr h => ?_)
  · obtain ⟨p, l, n, pile, rfl, B, q⟩ := h
    rfl
  · obtain ⟨p, l, n, pile, rfl, B, q⟩ := h
    have hu := hu_of hr
    refine ⟨_, (pss_one (ps_ret (pe_callTy call_list_of (by rfl) T.z_list (show bootBuiltins "list" = _ by decide +kernel) (pa_cons (pe_fld (pv 0) rfl) pa_nil)))), ?_⟩
    try dsimp only [cxOf]
    obtain ⟨⟨C, dx, hC, ho⟩, as, g, ht⟩ := id B
    have eC : C = t.c_Book := hC.uniq T.nn_Book
    subst eC
    refine ⟨_, rfl, p, _, dx, _, _, rfl, ho, T.cl_Book, T.nf_pile, bflds_pile _ _, l, _, rfl, .inl (SqL.of g), fun l' hl' => ?_⟩
    have s1 := same_new (o := .lst (as.map V.ref)) hl'
    exact q l' _ hl' s1 ⟨as, upd_same, ht.same s1⟩
inductive Sp_Book_setting (K : PySem.W.Frag) (vs : List V) (H : Hp) (Q : VK) (E : XK) : Prop
  | mk (p l : Addr) (n : Nat) (pile : List Say) (h0 : vs = [.ref p]) (h1 : BookAt K H p l n pile) (h2 : pile.length ≤ 1000) (h3 : PileOk n pile) (h4 : n ≤ 100) (h5 : ∀ (v : V) (H' : Hp), Same H H' → SetIs n pile H H' v → Q v H') : Sp_Book_setting K vs H Q E
noncomputable abbrev sp_Book_setting (K : PySem.W.Frag) : Sp := fun vs H Q E => Sp_Book_setting K vs H Q E
theorem sc_Book_setting : FnScope ["self"] ["self"] (defScope s_Book_setting) := ⟨rfl, rfl, rfl, by decide +kernel, rfl, by decide +kernel, by decide +kernel⟩
set_option maxHeartbeats 4000000 in
theorem ok_Book_setting {P : Program} {w : World} {K : PySem.W.Frag} {mg : Str → Option Value} {base : Heap} {t : Ad} (T : Tx K mg t) : FnOk P w K mg base CX0 5 t.f_Book_setting t.d_Book_setting ["self"] (sp_Book_setting K) := by
  have G_least := ok_least (P := P) (w := w) (base := base) T
  refine T.F_Book_setting.ok sc_Book_setting (fun vs H Q E h => ?_) (fun cdv A outer s H vs Q E hr h => ?_)
  · obtain ⟨p, l, n, pile, rfl, B, hp, ok, hn, q⟩ := h
    rfl
  · obtain ⟨p, l, n, pile, rfl, B, hp, ok, hn, q⟩ := h
    have hu := hu_of hr
    refine ⟨_, (pss_one (ps_ret (pe_call G_least (hr.mono (by decide)) rfl T.m_least T.F_least.kp T.b_least .nil pass0 (pa_cons (pe_fld (pv 0) rfl) (pa_cons (pe_fld (pv 0) rfl) pa_nil))))), ?_⟩
    try dsimp only [cxOf]
    obtain ⟨dx, ho⟩ := B.at T.nn_Book
    exact ⟨_, rfl, p, _, dx, _, _, rfl, ho, T.cl_Book, T.nf_many, bflds_many _ _, _, rfl, p, _, dx, _, _, rfl, ho, T.cl_Book, T.nf_pile, bflds_pile _ _, n, l, pile, rfl, B.pl, hp, ok, hn, fun H' s' f => q _ H' s' (.inl ⟨rfl, f⟩), fun l' S H' hl' s' h' f => q _ H' s' (.inr ⟨l', S, rfl, hl', h', f⟩)⟩
inductive Sp_Book_ring (K : PySem.W.Frag) (vs : List V) (H : Hp) (Q : VK) (E : XK) : Prop
  | mk (p l : Addr) (n : Nat) (pile : List Say) (h0 : vs = [.ref p]) (h1 : BookAt K H p l n pile) (h2 : pile.length ≤ 1000) (h3 : PileOk n pile) (h4 : n ≤ 100) (h5 : ∀ (v : V) (H' : Hp), Same H H' → RingIs n pile H H' v → Q v H') : Sp_Book_ring K vs H Q E
noncomputable abbrev sp_Book_ring (K : PySem.W.Frag) : Sp := fun vs H Q E => Sp_Book_ring K vs H Q E
theorem sc_Book_ring : FnScope ["self"] ["self"] (defScope s_Book_ring) := ⟨rfl, rfl, rfl, by decide +kernel, rfl, by decide +kernel, by decide +kernel⟩
set_option maxHeartbeats 4000000 in
theorem ok_Book_ring {P : Program} {w : World} {K : PySem.W.Frag} {mg : Str → Option Value} {base : Heap} {t : Ad} (T : Tx K mg t) : FnOk P w K mg base CX0 4 t.f_Book_ring t.d_Book_ring ["self"] (sp_Book_ring K) := by
  have G_clash := ok_clash (P := P) (w := w) (base := base) T
  refine T.F_Book_ring.ok sc_Book_ring (fun vs H Q E h => ?_) (fun cdv A outer s H vs Q E hr h => ?_)
  · obtain ⟨p, l, n, pile, rfl, B, hp, ok, hn, q⟩ := h
    rfl
  · obtain ⟨p, l, n, pile, rfl, B, hp, ok, hn, q⟩ := h
    have hu := hu_of hr
    refine ⟨_, (pss_one (ps_ret (pe_call G_clash (hr.mono (by decide)) rfl T.m_clash T.F_clash.kp T.b_clash .nil pass0 (pa_cons (pe_fld (pv 0) rfl) (pa_cons (pe_fld (pv 0) rfl) pa_nil))))), ?_⟩
    try dsimp only [cxOf]
    obtain ⟨dx, ho⟩ := B.at T.nn_Book
    exact ⟨_, rfl, p, _, dx, _, _, rfl, ho, T.cl_Book, T.nf_many, bflds_many _ _, _, rfl, p, _, dx, _, _, rfl, ho, T.cl_Book, T.nf_pile, bflds_pile _ _, n, l, pile, rfl, B.pl, hp, ok, hn, fun H' s' f => q _ H' s' (.inl ⟨rfl, f⟩), fun l' R H' hl' s' rg h' => q _ H' s' (.inr ⟨l', R, rfl, hl', h', rg⟩)⟩
inductive Sp_Book_ask (K : PySem.W.Frag) (vs : List V) (H : Hp) (Q : VK) (E : XK) : Prop
  | mk (p l b : Addr) (n : Nat) (pile : List Say) (c : Say) (h0 : vs = [.ref p, .ref b]) (h1 : BookAt K H p l n pile) (h2 : pile.length ≤ 1000) (h3 : PileOk n pile) (h4 : n ≤ 100) (h5 : H b = some (.tup [.int c.1, .int c.2])) (h6 : Lit n c.1) (h7 : Lit n c.2) (h8 : ∀ (t lr : Addr) (H' : Hp), H t = none → H lr = none → Same H H' → AnsAt n pile c H' t lr → Q (.ref t) H') : Sp_Book_ask K vs H Q E
noncomputable abbrev sp_Book_ask (K : PySem.W.Frag) : Sp := fun vs H Q E => Sp_Book_ask K vs H Q E
theorem sc_Book_ask : FnScope ["self", "say", "shows"] ["self", "say"] (defScope s_Book_ask) := ⟨rfl, rfl, rfl, by decide +kernel, rfl, by decide +kernel, by decide +kernel⟩
set_option maxHeartbeats 4000000 in
theorem ok_Book_ask {P : Program} {w : World} {K : PySem.W.Frag} {mg : Str → Option Value} {base : Heap} {t : Ad} (T : Tx K mg t) : FnOk P w K mg base CX0 6 t.f_Book_ask t.d_Book_ask ["self", "say"] (sp_Book_ask K) := by
  have G_why := ok_why (P := P) (w := w) (base := base) T
  have G_against := ok_against (P := P) (w := w) (base := base) T
  refine T.F_Book_ask.ok sc_Book_ask (fun vs H Q E h => ?_) (fun cdv A outer s H vs Q E hr h => ?_)
  · obtain ⟨p, l, b, n, pile, c, rfl, B, hp, ok, hn, hb, h1, h2, q⟩ := h
    rfl
  · obtain ⟨p, l, b, n, pile, c, rfl, B, hp, ok, hn, hb, h1, h2, q⟩ := h
    have hu := hu_of hr
    refine ⟨_, (pss_cons (ps_set (i := 2) sc_Book_ask.nd rfl (Or.inl rfl) (pe_call G_why (hr.mono (by decide)) rfl T.m_why T.F_why.kp T.b_why .nil pass0 (pa_cons (pe_fld (pv 0) rfl) (pa_cons (pe_fld (pv 0) rfl) (pa_cons (pv 1) pa_nil)))))
      (pss_cons (ps_if (pt_cmpR op_notN (pv 2) pe_non (nomark _)) (pss_one (ps_ret (pv 2))) pss_nil)
      (pss_one (ps_ret (pe_tup (pa_cons pe_str (pa_cons (pe_call G_against (hr.mono (by decide)) rfl T.m_against T.F_against.kp T.b_against .nil pass0 (pa_cons (pe_fld (pv 0) rfl) (pa_cons (pe_fld (pv 0) rfl) (pa_cons (pv 1) pa_nil)))) pa_nil))))))), ?_⟩
    try dsimp only [cxOf]
    obtain ⟨dx, ho⟩ := B.at T.nn_Book
    refine ⟨_, rfl, p, _, dx, _, _, rfl, ho, T.cl_Book, T.nf_many, bflds_many _ _, _, rfl, p, _, dx, _, _, rfl, ho, T.cl_Book, T.nf_pile, bflds_pile _ _, _, rfl, n, l, b, c, pile, rfl, B.pl, hp, ok, hn, hb, h1, h2, fun t lr R H' ht hlr s' e1 e2 rg => ?_, fun t lr s g P H' nk e ro ht hlr s' e1 e2 => ?_, fun H' s' nk no => ?_⟩
    · exact ⟨_, rfl, rfl, _, rfl, iteT ⟨_, rfl, q t lr H' ht hlr s' (.inl ⟨R, e1, e2, rg⟩)⟩⟩
    · exact ⟨_, rfl, rfl, _, rfl, iteT ⟨_, rfl, q t lr H' ht hlr s' (.inr (.inl ⟨s, g, P, e1, e2, nk, e, ro⟩))⟩⟩
    · refine ⟨_, rfl, rfl, _, rfl, iteF ?_⟩
      refine ⟨_, rfl, p, _, dx, _, _, rfl, s' _ _ ho, T.cl_Book, T.nf_many, bflds_many _ _, _, rfl, p, _, dx, _, _, rfl, s' _ _ ho, T.cl_Book, T.nf_pile, bflds_pile _ _, _, rfl, n, l, b, c, pile, rfl, B.pl.same s', hp, ok, hn, s' _ _ hb, h1, h2, fun H2 s2 f => ?_, fun lf S H2 hlf s2 h2' f => ?_⟩
      · obtain ⟨s, g, e, r⟩ := road_of_none f nk
        exact absurd r (no s g e)
      · refine ⟨(by show 2 ≤ sizeLine; decide), fun t ht => ?_⟩
        have s3 := same_new (o := .tup [.str "setting", .ref lf]) ht
        exact q t lf _ ((s'.trans s2).free ht) (s'.free hlf) ((s'.trans s2).trans s3) (.inr (.inr ⟨S, upd_same, s3 _ _ h2', f⟩))
inductive Sp_law_cell_at (K : PySem.W.Frag) (vs : List V) (H : Hp) (Q : VK) (E : XK) : Prop
  | mk (a : Addr) (k : Int) (ns : List Int) (h0 : vs = [.ref a, .int k]) (h1 : SqL K H a (ns.map V.int)) (h2 : 0 ≤ k) (h3 : Q (.int (ns.getD k.toNat 0)) H) : Sp_law_cell_at K vs H Q E
noncomputable abbrev sp_law_cell_at (K : PySem.W.Frag) : Sp := fun vs H Q E => Sp_law_cell_at K vs H Q E
theorem sc_law_cell_at : FnScope ["script", "k"] ["script", "k"] (defScope s_law_cell_at) := ⟨rfl, rfl, rfl, by decide +kernel, rfl, by decide +kernel, by decide +kernel⟩
set_option maxHeartbeats 4000000 in
theorem ok_law_cell_at {P : Program} {w : World} {K : PySem.W.Frag} {mg : Str → Option Value} {base : Heap} {t : Ad} (T : Tx K mg t) : FnOk P w K mg base CX0 1 t.f_law_cell_at t.d_law_cell_at ["script", "k"] (sp_law_cell_at K) := by
  refine T.F_law_cell_at.ok sc_law_cell_at (fun vs H Q E h => ?_) (fun cdv A outer s H vs Q E hr h => ?_)
  · obtain ⟨a, k, ns, rfl, hS, hk, q⟩ := h
    rfl
  · obtain ⟨a, k, ns, rfl, hS, hk, q⟩ := h
    have hu := hu_of hr
    refine ⟨_, (pss_cons (ps_if (pt_cmpR op_lt (pv 1) (pe_callB call_len_seq (by rfl) T.z_len PySem.boot_len (pa_cons (pv 0) pa_nil)) (nomark _)) (pss_one (ps_ret (pe_ix ix_list (pv 0) (pv 1) (fun _ _ => rfl)))) pss_nil)
      (pss_one (ps_ret pe_int))), ?_⟩
    try dsimp only [cxOf]
    refine ⟨_, rfl, _, rfl, a, _, rfl, .inl hS, _, _, rfl, rfl, _, rfl, ?_⟩
    refine ite2 (fun e => ?_) (fun e => ?_)
    · have e' := of_decide_eq_true e
      exact ⟨_, rfl, _, rfl, a, _, k, _, rfl, rfl, hS, at_int hk e', q⟩
    · rw [cell_out hk e] at q
      exact q
inductive Sp_law_lit_by (K : PySem.W.Frag) (vs : List V) (H : Hp) (Q : VK) (E : XK) : Prop
  | mk (i : Int) (h0 : vs = [.int i]) (h1 : Q (.int (litBy i)) H) : Sp_law_lit_by K vs H Q E
noncomputable abbrev sp_law_lit_by (K : PySem.W.Frag) : Sp := fun vs H Q E => Sp_law_lit_by K vs H Q E
theorem sc_law_lit_by : FnScope ["index"] ["index"] (defScope s_law_lit_by) := ⟨rfl, rfl, rfl, by decide +kernel, rfl, by decide +kernel, by decide +kernel⟩
set_option maxHeartbeats 4000000 in
theorem ok_law_lit_by {P : Program} {w : World} {K : PySem.W.Frag} {mg : Str → Option Value} {base : Heap} {t : Ad} (T : Tx K mg t) : FnOk P w K mg base CX0 1 t.f_law_lit_by t.d_law_lit_by ["index"] (sp_law_lit_by K) := by
  refine T.F_law_lit_by.ok sc_law_lit_by (fun vs H Q E h => ?_) (fun cdv A outer s H vs Q E hr h => ?_)
  · obtain ⟨i, rfl, q⟩ := h
    rfl
  · obtain ⟨i, rfl, q⟩ := h
    have hu := hu_of hr
    refine ⟨_, (pss_cons (ps_if (pt_cmpR op_eq (pe_op op_mod (pv 0) pe_int) pe_int (nomark _)) (pss_one (ps_ret (pe_un un_neg (pe_op op_add (pe_op op_fdiv (pv 0) pe_int) pe_int)))) pss_nil)
      (pss_one (ps_ret (pe_op op_add (pe_op op_fdiv (pv 0) pe_int) pe_int)))), ?_⟩
    try dsimp only [cxOf]
    refine ⟨_, rfl, _, _, rfl, rfl, (by show (0 : Int) < 2; decide), rfl, _, rfl, ?_⟩
    rw [dec_int]
    unfold litBy at q
    refine ite2 (fun e => ?_) (fun e => ?_)
    · rw [if_pos (eq_of_beq e)] at q
      exact ⟨_, rfl, _, _, rfl, rfl, ⟨by decide, by decide⟩, _, _, rfl, rfl, _, rfl, q⟩
    · rw [if_neg (fun z => e (beq_iff_eq.mpr z))] at q
      exact ⟨_, rfl, _, _, rfl, rfl, ⟨by decide, by decide⟩, _, _, rfl, rfl, q⟩
inductive Sp_law_whole (K : PySem.W.Frag) (vs : List V) (H : Hp) (Q : VK) (E : XK) : Prop
  | mk (x : Int) (h0 : vs = [.int x]) (h1 : Q (.bl true) H) : Sp_law_whole K vs H Q E
noncomputable abbrev sp_law_whole (K : PySem.W.Frag) : Sp := fun vs H Q E => Sp_law_whole K vs H Q E
theorem sc_law_whole : FnScope ["found"] ["found"] (defScope s_law_whole) := ⟨rfl, rfl, rfl, by decide +kernel, rfl, by decide +kernel, by decide +kernel⟩
set_option maxHeartbeats 4000000 in
theorem ok_law_whole {P : Program} {w : World} {K : PySem.W.Frag} {mg : Str → Option Value} {base : Heap} {t : Ad} (T : Tx K mg t) : FnOk P w K mg base CX0 1 t.f_law_whole t.d_law_whole ["found"] (sp_law_whole K) := by
  refine T.F_law_whole.ok sc_law_whole (fun vs H Q E h => ?_) (fun cdv A outer s H vs Q E hr h => ?_)
  · obtain ⟨x, rfl, q⟩ := h
    rfl
  · obtain ⟨x, rfl, q⟩ := h
    have hu := hu_of hr
    refine ⟨_, (pss_one (ps_ret (pe_and (pe_callB call_isi (by rfl) T.z_isinstance (show bootBuiltins "isinstance" = _ by decide +kernel) (pa_cons (pv 0) (pa_cons (pe_bltn (v := .ty "int") (by rfl) T.z_int (show bootBuiltins "int" = _ by decide +kernel) rfl) pa_nil))) (pe_one (pe_not (pe_callB call_isi (by rfl) T.z_isinstance (show bootBuiltins "isinstance" = _ by decide +kernel) (pa_cons (pv 0) (pa_cons (pe_bltn (v := .ty "bool") (by rfl) T.z_bool (show bootBuiltins "bool" = _ by decide +kernel) rfl) pa_nil)))))))), ?_⟩
    try dsimp only [cxOf]
    refine ⟨_, rfl, _, _, _, _, rfl, .int _, rfl, _, rfl, iteT ?_⟩
    exact ⟨_, rfl, _, _, _, _, rfl, .int _, rfl, _, rfl, q⟩
inductive Sp_law_true (K : PySem.W.Frag) (vs : List V) (H : Hp) (Q : VK) (E : XK) : Prop
  | mk (b a : Addr) (c : Say) (bs : List Bool) (h0 : vs = [.ref b, .ref a]) (h1 : SqT K H b [.int c.1, .int c.2]) (h2 : SqL K H a (bs.map V.bl)) (h3 : Lit bs.length c.1) (h4 : Lit bs.length c.2) (h5 : Q (.bl (tsay bs c)) H) : Sp_law_true K vs H Q E
noncomputable abbrev sp_law_true (K : PySem.W.Frag) : Sp := fun vs H Q E => Sp_law_true K vs H Q E
theorem sc_law_true : FnScope ["say", "bits", "lit"] ["say", "bits"] (defScope s_law_true) := ⟨rfl, rfl, rfl, by decide +kernel, rfl, by decide +kernel, by decide +kernel⟩
set_option maxHeartbeats 4000000 in
theorem ok_law_true {P : Program} {w : World} {K : PySem.W.Frag} {mg : Str → Option Value} {base : Heap} {t : Ad} (T : Tx K mg t) : FnOk P w K mg base CX0 1 t.f_law_true t.d_law_true ["say", "bits"] (sp_law_true K) := by
  refine T.F_law_true.ok sc_law_true (fun vs H Q E h => ?_) (fun cdv A outer s H vs Q E hr h => ?_)
  · obtain ⟨b, a, c, bs, rfl, hT, hS, h1, h2, q⟩ := h
    rfl
  · obtain ⟨b, a, c, bs, rfl, hT, hS, h1, h2, q⟩ := h
    have hu := hu_of hr
    refine ⟨_, (pss_cons (ps_for PassesOwn.never rfl (pi_tup (pv 0)) (pg_name (i := 2) sc_law_true.nd rfl (Or.inl rfl))
        (pss_one (ps_if (pt_cmpR op_eq (pe_ix ix_list (pv 1) (pe_op op_sub (pe_callB call_abs (by rfl) T.z_abs (show bootBuiltins "abs" = _ by decide +kernel) (pa_cons (pv 2) pa_nil)) pe_int) (fun _ _ => rfl)) (pe_cmpR op_gt (pv 2) pe_int (nomark _)) (nomark _)) (pss_one (ps_ret pe_bl)) pss_nil)))
      (pss_one (ps_ret pe_bl))), ?_⟩
    try dsimp only [cxOf]
    refine ⟨_, rfl, b, rfl, ⟨_, hT⟩, for_tup (K := K) (a := b) (xs := [.int c.1, .int c.2]) (fun i σ H2 => H2 = H ∧ ∃ v, σ = [some (.ref b), some (.ref a), v] ∧ (1 ≤ i → tru bs c.1 = false) ∧ (2 ≤ i → tru bs c.2 = false))
      ⟨rfl, none, rfl, fun z => absurd z (by decide), fun z => absurd z (by decide)⟩ (fun i σ H2 _ ⟨e, _⟩ => e ▸ hT) ?_ ?_⟩
    · rintro i x σ H2 hi ⟨rfl, v, rfl, f1, f2⟩
      rcases say_get hi with ⟨rfl, rfl⟩ | ⟨rfl, rfl⟩
      · refine ⟨_, rfl, _, rfl, _, rfl, _, _, rfl, rfl, a, _, _, _, rfl, rfl, hS, at_lit h1, _, rfl, _, _, rfl, rfl, rfl, _, rfl, ?_⟩
        dsimp only
        rw [dec_bl]
        refine ite2 (fun e => ?_) (fun e => ?_)
        · have e' : tru bs c.1 = true := e
          refine asV (congrArg V.bl ?_) q
          rw [tsay, e']
          rfl
        · exact ⟨rfl, _, rfl, fun _ => (Bool.not_eq_true _).mp e, fun z => absurd z (by decide)⟩
      · refine ⟨_, rfl, _, rfl, _, rfl, _, _, rfl, rfl, a, _, _, _, rfl, rfl, hS, at_lit h2, _, rfl, _, _, rfl, rfl, rfl, _, rfl, ?_⟩
        dsimp only
        rw [dec_bl]
        refine ite2 (fun e => ?_) (fun e => ?_)
        · have e' : tru bs c.2 = true := e
          refine asV (congrArg V.bl ?_) q
          rw [tsay, e', Bool.or_true]
        · exact ⟨rfl, _, rfl, fun _ => f1 (by decide), fun _ => (Bool.not_eq_true _).mp e⟩
    · rintro σ H2 ⟨rfl, v, rfl, f1, f2⟩
      refine asV (congrArg V.bl ?_) q
      rw [tsay, f1 (by show 1 ≤ 2; decide), f2 (by show 2 ≤ 2; decide)]
      rfl
inductive Sp_law_all_true (K : PySem.W.Frag) (vs : List V) (H : Hp) (Q : VK) (E : XK) : Prop
  | mk (l a : Addr) (pile : List Say) (bs : List Bool) (h0 : vs = [.ref l, .ref a]) (h1 : PileAt H l pile) (h2 : SqL K H a (bs.map V.bl)) (h3 : PileOk bs.length pile) (h4 : Q (.bl (goodB pile bs)) H) : Sp_law_all_true K vs H Q E
noncomputable abbrev sp_law_all_true (K : PySem.W.Frag) : Sp := fun vs H Q E => Sp_law_all_true K vs H Q E
theorem sc_law_all_true : FnScope ["pile", "bits", "say"] ["pile", "bits"] (defScope s_law_all_true) := ⟨rfl, rfl, rfl, by decide +kernel, rfl, by decide +kernel, by decide +kernel⟩
set_option maxHeartbeats 4000000 in
theorem ok_law_all_true {P : Program} {w : World} {K : PySem.W.Frag} {mg : Str → Option Value} {base : Heap} {t : Ad} (T : Tx K mg t) : FnOk P w K mg base CX0 2 t.f_law_all_true t.d_law_all_true ["pile", "bits"] (sp_law_all_true K) := by
  have G_law_true := ok_law_true (P := P) (w := w) (base := base) T
  refine T.F_law_all_true.ok sc_law_all_true (fun vs H Q E h => ?_) (fun cdv A outer s H vs Q E hr h => ?_)
  · obtain ⟨l, a, pile, bs, rfl, hP, hS, ok, q⟩ := h
    rfl
  · obtain ⟨l, a, pile, bs, rfl, hP, hS, ok, q⟩ := h
    have hu := hu_of hr
    refine ⟨_, (pss_cons (ps_for PassesOwn.never rfl (pi_list (pv 0)) (pg_name (i := 2) sc_law_all_true.nd rfl (Or.inl rfl))
        (pss_one (ps_if (pt_not (pt_val (pe_call G_law_true (hr.mono (by decide)) rfl T.m_law_true T.F_law_true.kp T.b_law_true .nil pass0 (pa_cons (pv 2) (pa_cons (pv 1) pa_nil))))) (pss_one (ps_ret pe_bl)) pss_nil)))
      (pss_one (ps_ret pe_bl))), ?_⟩
    try dsimp only [cxOf]
    obtain ⟨as, hl, ht⟩ := hP
    refine ⟨_, rfl, l, rfl, ⟨_, SqL.of hl⟩, for_list (K := K) (a := l) (xs := as.map V.ref) (fun i σ H2 => H2 = H ∧ ∃ v, σ = [some (.ref l), some (.ref a), v] ∧ goodB (pile.take i) bs = true)
      ⟨rfl, none, rfl, rfl⟩ (fun i σ H2 _ ⟨e, _⟩ => SqL.of (e ▸ hl)) ?_ ?_⟩
    · rintro i x σ H2 hi ⟨rfl, v, rfl, g⟩
      obtain ⟨b, c, rfl, e1, e2, e3⟩ := ht.get hi
      have hc := ok c (List.mem_of_getElem? e2)
      refine ⟨_, rfl, _, rfl, b, a, c, bs, rfl, SqT.of e3, hS, hc.1, hc.2, _, rfl, ?_⟩
      cases e : tsay bs c with
      | false =>
        refine iteT (asV (congrArg V.bl ?_) q)
        cases z : goodB pile bs with
        | false => rfl
        | true =>
          have := List.all_eq_true.mp z c (List.mem_of_getElem? e2)
          rw [e] at this
          cases this
      | true =>
        refine iteF ⟨rfl, _, rfl, ?_⟩
        rw [take_snoc e2, goodB_snoc, g, e]
        rfl
    · rintro σ H2 ⟨rfl, v, rfl, g⟩
      rw [List.length_map, ht.length, List.take_length] at g
      exact asV (congrArg V.bl g.symm) q
inductive Sp_law_is_setting (K : PySem.W.Frag) (vs : List V) (H : Hp) (Q : VK) (E : XK) : Prop
  | mk (l : Addr) (S : List Bool) (h0 : vs = [.ref l, .int (S.length : Int)]) (h1 : H l = some (.lst (S.map V.bl))) (h2 : Q (.bl true) H) : Sp_law_is_setting K vs H Q E
noncomputable abbrev sp_law_is_setting (K : PySem.W.Frag) : Sp := fun vs H Q E => Sp_law_is_setting K vs H Q E
theorem sc_law_is_setting : FnScope ["found", "many", "value"] ["found", "many"] (defScope s_law_is_setting) := ⟨rfl, rfl, rfl, by decide +kernel, rfl, by decide +kernel, by decide +kernel⟩
set_option maxHeartbeats 4000000 in
theorem ok_law_is_setting {P : Program} {w : World} {K : PySem.W.Frag} {mg : Str → Option Value} {base : Heap} {t : Ad} (T : Tx K mg t) : FnOk P w K mg base CX0 1 t.f_law_is_setting t.d_law_is_setting ["found", "many"] (sp_law_is_setting K) := by
  refine T.F_law_is_setting.ok sc_law_is_setting (fun vs H Q E h => ?_) (fun cdv A outer s H vs Q E hr h => ?_)
  · obtain ⟨l, S, rfl, hl, q⟩ := h
    rfl
  · obtain ⟨l, S, rfl, hl, q⟩ := h
    have hu := hu_of hr
    refine ⟨_, (pss_cons (ps_if (PW.pt (pw_or (pt_not (pt_val (pe_callB call_isi (by rfl) T.z_isinstance (show bootBuiltins "isinstance" = _ by decide +kernel) (pa_cons (pv 0) (pa_cons (pe_bltn (v := .ty "list") (by rfl) T.z_list (show bootBuiltins "list" = _ by decide +kernel) rfl) pa_nil))))) (pw_or1 (pt_cmpR op_ne (pe_callB call_len_seq (by rfl) T.z_len PySem.boot_len (pa_cons (pv 0) pa_nil)) (pv 1) (nomark _))))) (pss_one (ps_ret pe_bl)) pss_nil)
      (pss_cons (ps_for PassesOwn.never rfl (pi_list (pv 0)) (pg_name (i := 2) sc_law_is_setting.nd rfl (Or.inl rfl))
        (pss_one (ps_if (pt_not (pt_val (pe_callB call_isi (by rfl) T.z_isinstance (show bootBuiltins "isinstance" = _ by decide +kernel) (pa_cons (pv 2) (pa_cons (pe_bltn (v := .ty "bool") (by rfl) T.z_bool (show bootBuiltins "bool" = _ by decide +kernel) rfl) pa_nil))))) (pss_one (ps_ret pe_bl)) pss_nil)))
      (pss_one (ps_ret pe_bl)))), ?_⟩
    try dsimp only [cxOf]
    refine ⟨_, rfl, _, _, _, _, rfl, .lst hl, rfl, _, rfl, iteF ?_⟩
    refine ⟨_, rfl, l, _, rfl, .inl (SqL.of hl), _, rfl, rfl, _, rfl, ?_⟩
    dsimp only
    rw [List.length_map]
    refine iteNS rfl ?_
    refine ⟨_, rfl, l, rfl, ⟨_, SqL.of hl⟩, for_list (K := K) (a := l) (xs := S.map V.bl) (fun i σ H2 => H2 = H ∧ ∃ v, σ = [some (.ref l), some (.int (S.length : Int)), v]) ⟨rfl, none, rfl⟩ (fun i σ H2 _ ⟨e, _⟩ => SqL.of (e ▸ hl)) ?_ ?_⟩
    · rintro i x σ H2 hi ⟨rfl, v, rfl⟩
      obtain ⟨b, rfl⟩ := bools_get hi
      refine ⟨_, rfl, _, _, _, _, rfl, .bl _, rfl, _, rfl, iteF ⟨rfl, _, rfl⟩⟩
    · rintro σ H2 ⟨rfl, v, rfl⟩
      exact q
inductive Sp_law_step (K : PySem.W.Frag) (vs : List V) (H : Hp) (Q : VK) (E : XK) : Prop
  | mk (l : Addr) (x y : Int) (pile : List Say) (h0 : vs = [.ref l, .int x, .int y]) (h1 : PileAt H l pile) (h2 : Step pile x y) (h3 : ∀ H', Same H H' → Q (.bl true) H') : Sp_law_step K vs H Q E
noncomputable abbrev sp_law_step (K : PySem.W.Frag) : Sp := fun vs H Q E => Sp_law_step K vs H Q E
theorem sc_law_step : FnScope ["pile", "here", "there", "say"] ["pile", "here", "there"] (defScope s_law_step) := ⟨rfl, rfl, rfl, by decide +kernel, rfl, by decide +kernel, by decide +kernel⟩
set_option maxHeartbeats 4000000 in
theorem ok_law_step {P : Program} {w : World} {K : PySem.W.Frag} {mg : Str → Option Value} {base : Heap} {t : Ad} (T : Tx K mg t) : FnOk P w K mg base CX0 1 t.f_law_step t.d_law_step ["pile", "here", "there"] (sp_law_step K) := by
  refine T.F_law_step.ok sc_law_step (fun vs H Q E h => ?_) (fun cdv A outer s H vs Q E hr h => ?_)
  · obtain ⟨l, x, y, pile, rfl, P', st, q⟩ := h
    rfl
  · obtain ⟨l, x, y, pile, rfl, P', st, q⟩ := h
    have hu := hu_of hr
    refine ⟨_, (pss_cons (ps_for PassesOwn.never rfl (pi_list (pv 0)) (pg_name (i := 3) sc_law_step.nd rfl (Or.inl rfl))
        (pss_one (ps_if (PW.pt (pw_or (pt_cmpR (op_eqD hr.units) (pv 3) (pe_tup (pa_cons (pe_un un_neg (pv 1)) (pa_cons (pv 2) pa_nil))) (nomark _)) (pw_or1 (pt_cmpR (op_eqD hr.units) (pv 3) (pe_tup (pa_cons (pv 2) (pa_cons (pe_un un_neg (pv 1)) pa_nil))) (nomark _))))) (pss_one (ps_ret pe_bl)) pss_nil)))
      (pss_one (ps_ret pe_bl))), ?_⟩
    try dsimp only [cxOf]
    obtain ⟨as, hl, ht⟩ := P'
    refine ⟨_, rfl, l, rfl, ⟨_, SqL.of hl⟩, for_list (K := K) (a := l) (xs := as.map V.ref) (fun i σ H2 => Same H H2 ∧ ∃ v, σ = [some (.ref l), some (.int x), some (.int y), v] ∧ ¬ Step (pile.take i) x y)
      ⟨Same.refl H, none, rfl, fun ⟨_, h, _⟩ => by simp at h⟩ (fun i σ H2 _ ⟨s2, _⟩ => SqL.of (s2 _ _ hl)) ?_ ?_⟩
    · rintro i v σ H2 hi ⟨s2, w, rfl, nst⟩
      obtain ⟨b, c, rfl, e1, e2, e3⟩ := ht.get hi
      have eb := s2 _ _ e3
      refine ⟨_, rfl, _, rfl, _, rfl, _, rfl, (by show 2 ≤ sizeLine; decide), fun p hp => ?_⟩
      have s3 := same_new (o := .tup [.int (-x), .int y]) hp
      refine ⟨dSay c, dSay (-x, y), .tup (s3 _ _ eb) (.cons (.int _) (.cons (.int _) .nil)), .tup upd_same (.cons (.int _) (.cons (.int _) .nil)), shaped_say _, shaped_say _, _, rfl, ?_⟩
      rw [show (if false = true then !PyData.eqv (dSay c) (dSay (-x, y)) else PyData.eqv (dSay c) (dSay (-x, y))) = decide (c = (-x, y)) from eqv_say _ _]
      refine ite2 (fun e => iteT (q _ (s2.trans s3))) (fun e => ?_)
      refine ⟨_, rfl, _, rfl, _, rfl, _, rfl, (by show 2 ≤ sizeLine; decide), fun p2 hp2 => ?_⟩
      have s4 := same_new (o := .tup [.int y, .int (-x)]) hp2
      refine ⟨dSay c, dSay (y, -x), .tup (s4 _ _ (s3 _ _ eb)) (.cons (.int _) (.cons (.int _) .nil)), .tup upd_same (.cons (.int _) (.cons (.int _) .nil)), shaped_say _, shaped_say _, _, rfl, ?_⟩
      rw [show (if false = true then !PyData.eqv (dSay c) (dSay (y, -x)) else PyData.eqv (dSay c) (dSay (y, -x))) = decide (c = (y, -x)) from eqv_say _ _]
      refine ite2 (fun e => q _ ((s2.trans s3).trans s4)) (fun e' => ?_)
      refine ⟨(s2.trans s3).trans s4, _, rfl, fun ⟨d, hd, hs⟩ => ?_⟩
      rw [take_snoc e2] at hd
      rcases List.mem_append.mp hd with hd | hd
      · exact nst ⟨d, hd, hs⟩
      · rw [List.mem_singleton] at hd
        subst hd
        rcases hs with ⟨z1, z2⟩ | ⟨z1, z2⟩
        · exact e (decide_eq_true (Prod.ext z1 z2))
        · exact e' (decide_eq_true (Prod.ext z2 z1))
    · rintro σ H2 ⟨s2, w, rfl, nst⟩
      rw [List.length_map, ht.length, List.take_length] at nst
      exact absurd st nst
inductive Sp_law_is_road (K : PySem.W.Frag) (vs : List V) (H : Hp) (Q : VK) (E : XK) : Prop
  | mk (l a : Addr) (P : List Int) (pile : List Say) (h0 : vs = [.ref l, .ref a]) (h1 : PileAt H l pile) (h2 : H a = some (.lst (P.map V.int))) (h3 : P ≠ []) (h4 : P.length ≤ 9000) (h5 : (∀ x ∈ P, x ≠ 0)) (h6 : Chain pile P) (h7 : ∀ H', Same H H' → Q (.bl true) H') : Sp_law_is_road K vs H Q E
noncomputable abbrev sp_law_is_road (K : PySem.W.Frag) : Sp := fun vs H Q E => Sp_law_is_road K vs H Q E
theorem sc_law_is_road : FnScope ["pile", "found", "lit", "k"] ["pile", "found"] (defScope s_law_is_road) := ⟨rfl, rfl, rfl, by decide +kernel, rfl, by decide +kernel, by decide +kernel⟩
set_option maxHeartbeats 4000000 in
theorem ok_law_is_road {P : Program} {w : World} {K : PySem.W.Frag} {mg : Str → Option Value} {base : Heap} {t : Ad} (T : Tx K mg t) : FnOk P w K mg base CX0 2 t.f_law_is_road t.d_law_is_road ["pile", "found"] (sp_law_is_road K) := by
  have G_law_whole := ok_law_whole (P := P) (w := w) (base := base) T
  have G_law_step := ok_law_step (P := P) (w := w) (base := base) T
  refine T.F_law_is_road.ok sc_law_is_road (fun vs H Q E h => ?_) (fun cdv A outer s H vs Q E hr h => ?_)
  · obtain ⟨l, a, P', pile, rfl, Pl, ha, hne, hP, hz, ch, q⟩ := h
    rfl
  · obtain ⟨l, a, P', pile, rfl, Pl, ha, hne, hP, hz, ch, q⟩ := h
    have hu := hu_of hr
    refine ⟨_, (pss_cons (ps_if (PW.pt (pw_or (pt_not (pt_val (pe_callB call_isi (by rfl) T.z_isinstance (show bootBuiltins "isinstance" = _ by decide +kernel) (pa_cons (pv 1) (pa_cons (pe_bltn (v := .ty "list") (by rfl) T.z_list (show bootBuiltins "list" = _ by decide +kernel) rfl) pa_nil))))) (pw_or1 (pt_cmpR op_eq (pe_callB call_len_seq (by rfl) T.z_len PySem.boot_len (pa_cons (pv 1) pa_nil)) pe_int (nomark _))))) (pss_one (ps_ret pe_bl)) pss_nil)
      (pss_cons (ps_for PassesOwn.never rfl (pi_list (pv 1)) (pg_name (i := 2) sc_law_is_road.nd rfl (Or.inl rfl))
        (pss_one (ps_if (PW.pt (pw_or (pt_not (pt_val (pe_call G_law_whole (hr.mono (by decide)) rfl T.m_law_whole T.F_law_whole.kp T.b_law_whole .nil pass0 (pa_cons (pv 2) pa_nil)))) (pw_or1 (pt_cmpR op_eq (pv 2) pe_int (nomark _))))) (pss_one (ps_ret pe_bl)) pss_nil)))
      (pss_cons (ps_for PassesOwn.never rfl (pi_range1 rfl T.z_range (pa_cons (pe_op op_sub (pe_callB call_len_seq (by rfl) T.z_len PySem.boot_len (pa_cons (pv 1) pa_nil)) pe_int) pa_nil)) (pg_name (i := 3) sc_law_is_road.nd rfl (Or.inl rfl))
        (pss_one (ps_if (pt_not (pt_val (pe_call G_law_step (hr.mono (by decide)) rfl T.m_law_step T.F_law_step.kp T.b_law_step .nil pass0 (pa_cons (pv 0) (pa_cons (pe_ix ix_list (pv 1) (pv 3) (fun _ _ => rfl)) (pa_cons (pe_ix ix_list (pv 1) (pe_op op_add (pv 3) pe_int) (fun _ _ => rfl)) pa_nil)))))) (pss_one (ps_ret pe_bl)) pss_nil)))
      (pss_one (ps_ret pe_bl))))), ?_⟩
    try dsimp only [cxOf]
    have hpos : 0 < P'.length := List.length_pos_iff.mpr hne
    refine ⟨_, rfl, _, _, _, _, rfl, .lst ha, rfl, _, rfl, iteF ?_⟩
    refine ⟨_, rfl, a, _, rfl, .inl (SqL.of ha), rfl, _, rfl, ?_⟩
    dsimp only
    rw [dec_int, List.length_map]
    refine ite2 (fun e => ?_) (fun _ => ?_)
    · have := eq_of_beq e
      omega
    refine ⟨_, rfl, a, rfl, ⟨_, SqL.of ha⟩, for_list (K := K) (a := a) (xs := P'.map V.int) (fun i σ H2 => H2 = H ∧ ∃ v, σ = [some (.ref l), some (.ref a), v, none]) ⟨rfl, none, rfl⟩ (fun i σ H2 _ ⟨e, _⟩ => SqL.of (e ▸ ha)) ?_ ?_⟩
    · rintro i x σ H2 hi ⟨rfl, v, rfl⟩
      obtain ⟨p, rfl, hp⟩ := ints_get hi
      refine ⟨_, rfl, _, rfl, _, rfl, iteF ⟨_, rfl, rfl, _, rfl, ?_⟩⟩
      rw [dec_int]
      refine ite2 (fun e => absurd (eq_of_beq e) (hz p (List.mem_of_getElem? hp))) (fun _ => ⟨rfl, _, rfl⟩)
    · rintro σ H2 ⟨rfl, v, rfl⟩
      refine ⟨_, rfl, a, _, rfl, .inl (SqL.of ha), _, _, rfl, rfl, _, rfl, (by rw [List.length_map]; omega), (by rw [List.length_map]; omega), for_range (lo := 0) (n := (((P'.map V.int).length : Int) - 1).toNat) (fun i σ H3 => Same H2 H3 ∧ ∃ w, σ = [some (.ref l), some (.ref a), v, w]) ⟨Same.refl _, none, rfl⟩ ?_ ?_⟩
      · rintro i σ H3 hi ⟨s3, w, rfl⟩
        rw [List.length_map] at hi
        have h1 : i < P'.length := by omega
        have h2 : i + 1 < P'.length := by omega
        have a1 : atI (P'.map V.int) (0 + (i : Int)) = some (V.int P'[i]) := by
          rw [Int.zero_add]
          exact atI_nat (by rw [List.getElem?_map, List.getElem?_eq_getElem h1]; rfl)
        have a2 : atI (P'.map V.int) (0 + (i : Int) + 1) = some (V.int P'[i + 1]) := by
          rw [show 0 + (i : Int) + 1 = ((i + 1 : Nat) : Int) by omega]
          exact atI_nat (by rw [List.getElem?_map, List.getElem?_eq_getElem h2]; rfl)
        have st := chain_get ch (List.getElem?_eq_getElem h1) (List.getElem?_eq_getElem h2)
        refine ⟨_, rfl, _, rfl, _, rfl, a, _, _, _, rfl, rfl, SqL.of (s3 _ _ ha), a1, _, rfl, _, rfl, _, _, rfl, rfl, a, _, _, _, rfl, rfl, SqL.of (s3 _ _ ha), a2, l, _, _, pile, rfl, Pl.same s3, st, fun H4 s4 => ?_⟩
        exact ⟨_, rfl, iteF ⟨s3.trans s4, _, rfl⟩⟩
      · rintro σ H3 ⟨s3, w, rfl⟩
        exact q H3 s3
inductive Sp_law_is_ring (K : PySem.W.Frag) (vs : List V) (H : Hp) (Q : VK) (E : XK) : Prop
  | mk (l a : Addr) (n : Nat) (R : List Int) (pile : List Say) (h0 : vs = [.ref l, .ref a]) (h1 : PileAt H l pile) (h2 : H a = some (.lst (R.map V.int))) (h3 : n ≤ 100) (h4 : RingOf n pile R) (h5 : ∀ H', Same H H' → Q (.bl true) H') : Sp_law_is_ring K vs H Q E
noncomputable abbrev sp_law_is_ring (K : PySem.W.Frag) : Sp := fun vs H Q E => Sp_law_is_ring K vs H Q E
theorem sc_law_is_ring : FnScope ["pile", "found", "lit"] ["pile", "found"] (defScope s_law_is_ring) := ⟨rfl, rfl, rfl, by decide +kernel, rfl, by decide +kernel, by decide +kernel⟩
set_option maxHeartbeats 4000000 in
theorem ok_law_is_ring {P : Program} {w : World} {K : PySem.W.Frag} {mg : Str → Option Value} {base : Heap} {t : Ad} (T : Tx K mg t) : FnOk P w K mg base CX0 3 t.f_law_is_ring t.d_law_is_ring ["pile", "found"] (sp_law_is_ring K) := by
  have G_law_is_road := ok_law_is_road (P := P) (w := w) (base := base) T
  refine T.F_law_is_ring.ok sc_law_is_ring (fun vs H Q E h => ?_) (fun cdv A outer s H vs Q E hr h => ?_)
  · obtain ⟨l, a, n, R, pile, rfl, Pl, ha, hn, rg, q⟩ := h
    rfl
  · obtain ⟨l, a, n, R, pile, rfl, Pl, ha, hn, rg, q⟩ := h
    have hu := hu_of hr
    refine ⟨_, (pss_cons (ps_if (PW.pt (pw_or (pt_not (pt_val (pe_call G_law_is_road (hr.mono (by decide)) rfl T.m_law_is_road T.F_law_is_road.kp T.b_law_is_road .nil pass0 (pa_cons (pv 0) (pa_cons (pv 1) pa_nil))))) (pw_or1 (pt_cmpR op_ne (pe_ix ix_list (pv 1) pe_int (fun _ _ => rfl)) (pe_ix ix_list (pv 1) (pe_un un_neg pe_int) (fun _ _ => rfl)) (nomark _))))) (pss_one (ps_ret pe_bl)) pss_nil)
      (pss_cons (ps_for PassesOwn.never rfl (pi_list (pv 1)) (pg_name (i := 2) sc_law_is_ring.nd rfl (Or.inl rfl))
        (pss_one (ps_if (pt_cmpR op_in_seq (pe_un un_neg (pv 2)) (pv 1) (by with_unfolding_all rfl)) (pss_one (ps_ret pe_bl)) pss_nil)))
      (pss_one (ps_ret pe_bl)))), ?_⟩
    try dsimp only [cxOf]
    obtain ⟨v, h1, h2, kn, hd, lt, m1, m2⟩ := rg.ends
    have hne : R ≠ [] := fun z => by rw [z] at m1; cases m1
    have rl := rg.len
    refine ⟨_, rfl, _, rfl, l, a, R, pile, rfl, Pl, ha, hne, by omega, (fun x hx => (rg.lit x hx).ne0), rg.ch, fun H2 s2 => ⟨_, rfl, iteF ?_⟩⟩
    have ha2 := s2 _ _ ha
    refine ⟨_, rfl, a, _, _, _, rfl, rfl, SqL.of ha2, at_head hd, _, rfl, _, rfl, a, _, _, _, rfl, rfl, SqL.of ha2, at_tail lt, rfl, _, rfl, iteNS rfl ?_⟩
    refine ⟨_, rfl, a, rfl, ⟨_, SqL.of ha2⟩, for_list (K := K) (a := a) (xs := R.map V.int) (fun i σ H3 => H3 = H2 ∧ ∃ w, σ = [some (.ref l), some (.ref a), w] ∧ ∀ x ∈ R.take i, -x ∉ R) ⟨rfl, none, rfl, (fun x hx => by simp at hx)⟩ (fun i σ H3 _ ⟨e, _⟩ => SqL.of (e ▸ ha2)) ?_ ?_⟩
    · rintro i x σ H3 hi ⟨rfl, w, rfl, no⟩
      obtain ⟨p, rfl, hp⟩ := ints_get hi
      refine ⟨_, rfl, _, rfl, _, rfl, a, _, rfl, .inl (SqL.of ha2), rfl, flat_ints _, _, rfl, ?_⟩
      rw [show (if false = true then !inV (.int (-p)) (R.map V.int) else inV (.int (-p)) (R.map V.int)) = decide (-p ∈ R) from in_ints _ _]
      refine ite2 (fun _ => q _ s2) (fun e => ⟨rfl, _, rfl, fun x hx => ?_⟩)
      rw [take_snoc hp] at hx
      rcases List.mem_append.mp hx with hx | hx
      · exact no x hx
      · rw [List.mem_singleton] at hx; subst hx; exact fun z => e (decide_eq_true z)
    · rintro σ H3 ⟨rfl, w, rfl, no⟩
      rw [List.length_map, List.take_length] at no
      exact absurd m2 (no _ m1)
inductive Sp_law_reach (K : PySem.W.Frag) (vs : List V) (H : Hp) (Q : VK) (E : XK) : Prop
  | mk (l w : Addr) (n : Nat) (pile : List Say) (W : List Int) (h0 : vs = [.ref l, .ref w]) (h1 : PileAt H l pile) (h2 : H w = some (.lst (W.map V.int))) (h3 : PileOk n pile) (h4 : n ≤ 100) (h5 : W.length ≤ 500) (h6 : ∀ (F : List Int) (lf : Addr) (H' : Hp), H lf = none → Same H H' → H' lf = some (.lst (F.map V.int)) → (∀ x, x ∈ F ↔ RS pile (· ∈ W) x) → Q (.ref lf) H') : Sp_law_reach K vs H Q E
noncomputable abbrev sp_law_reach (K : PySem.W.Frag) : Sp := fun vs H Q E => Sp_law_reach K vs H Q E
theorem sc_law_reach : FnScope ["pile", "starts", "found", "at", "say"] ["pile", "starts"] (defScope s_law_reach) := ⟨rfl, rfl, rfl, by decide +kernel, rfl, by decide +kernel, by decide +kernel⟩
set_option maxHeartbeats 4000000 in
theorem ok_law_reach {P : Program} {w : World} {K : PySem.W.Frag} {mg : Str → Option Value} {base : Heap} {t : Ad} (T : Tx K mg t) : FnOk P w K mg base CX0 1 t.f_law_reach t.d_law_reach ["pile", "starts"] (sp_law_reach K) := by
  refine T.F_law_reach.ok sc_law_reach (fun vs H Q E h => ?_) (fun cdv A outer s H vs Q E hr h => ?_)
  · obtain ⟨l, w, n, pile, W, rfl, P', hw, ok, hn, hW, q⟩ := h
    rfl
  · obtain ⟨l, w, n, pile, W, rfl, P', hw, ok, hn, hW, q⟩ := h
    have hu := hu_of hr
    refine ⟨_, (pss_cons (ps_set (i := 2) sc_law_reach.nd rfl (Or.inl rfl) (pe_callTy call_list_of (by rfl) T.z_list (show bootBuiltins "list" = _ by decide +kernel) (pa_cons (pv 1) pa_nil)))
      (pss_cons (ps_set (i := 3) sc_law_reach.nd rfl (Or.inl rfl) pe_int)
      (pss_cons (ps_while PassesOwn.never (pt_cmpR op_lt (pv 3) (pe_callB call_len_seq (by rfl) T.z_len PySem.boot_len (pa_cons (pv 2) pa_nil)) (nomark _))
        (pss_cons (ps_for PassesOwn.never rfl (pi_list (pv 0)) (pg_name (i := 4) sc_law_reach.nd rfl (Or.inl rfl))
          (pss_cons (ps_if (PW.pt (pw_and (pt_cmpR op_eq (pe_ix ix_tup (pv 4) pe_int (fun _ _ => rfl)) (pe_un un_neg (pe_ix ix_list (pv 2) (pv 3) (fun _ _ => rfl))) (nomark _)) (pw_and1 (pt_cmpR op_notIn_seq (pe_ix ix_tup (pv 4) pe_int (fun _ _ => rfl)) (pv 2) (by with_unfolding_all rfl))))) (pss_one (ps_expr (pe_bm PySem.F.plainAttrs_list PySem.F.slot_list_append PySem.F.type_list_append mt_append (pv 2) (pa_cons (pe_ix ix_tup (pv 4) pe_int (fun _ _ => rfl)) pa_nil)))) pss_nil)
          (pss_one (ps_if (PW.pt (pw_and (pt_cmpR op_eq (pe_ix ix_tup (pv 4) pe_int (fun _ _ => rfl)) (pe_un un_neg (pe_ix ix_list (pv 2) (pv 3) (fun _ _ => rfl))) (nomark _)) (pw_and1 (pt_cmpR op_notIn_seq (pe_ix ix_tup (pv 4) pe_int (fun _ _ => rfl)) (pv 2) (by with_unfolding_all rfl))))) (pss_one (ps_expr (pe_bm PySem.F.plainAttrs_list PySem.F.slot_list_append PySem.F.type_list_append mt_append (pv 2) (pa_cons (pe_ix ix_tup (pv 4) pe_int (fun _ _ => rfl)) pa_nil)))) pss_nil))))
        (pss_one (ps_set (i := 3) sc_law_reach.nd rfl (Or.inl rfl) (pe_op op_add (pv 3) pe_int)))))
      (pss_one (ps_ret (pv 2)))))), ?_⟩
    try dsimp only [cxOf]
    obtain ⟨as, hl, ht⟩ := P'
    have big : ∀ k, k ≤ W.length + 2 * n → k < sizeLine := fun k h => Nat.lt_of_le_of_lt (show k ≤ 2000 by omega) (by decide)
    refine ⟨_, rfl, w, _, rfl, .inl (SqL.of hw), fun lf hlf => ?_⟩
    have g0 := same_new (o := .lst (W.map V.int)) hlf
    try dsimp only [gName]
    refine seq_c ?_
    try dsimp only [gName, tAsg, tRet, tNext, tDrop]
    refine seq_join (J := fun σ' H' => ∃ (F : List Int) (v1 v2 : Option V), σ' = [some (.ref l), some (.ref w), some (.ref lf), v1, v2] ∧ Same H H' ∧ H' lf = some (.lst (F.map V.int)) ∧ (∀ x, x ∈ F ↔ RS pile (· ∈ W) x)) (fun N hN => ?_) ?_
    · refine ⟨RchI n pile W l w lf H, ⟨_, 0, W, none, rfl, CInv.start n pile W, by omega, rfl, g0, upd_same⟩, ?_⟩
      rintro mm σ H2 ⟨k, F, v, rfl, ci, hkF, rfl, s2, h2⟩
      refine ⟨_, rfl, _, rfl, lf, _, rfl, .inl (SqL.of h2), _, _, rfl, rfl, _, rfl, ?_⟩
      refine ite2 (fun e => ?_) (fun e => ?_)
      · have hk : k < F.length := by
          have := of_decide_eq_true e
          rw [List.length_map] at this
          omega
        obtain ⟨p, hp⟩ : ∃ p, F[k]? = some p := ⟨_, List.getElem?_eq_getElem hk⟩
        have hlen := ci.len
        refine ⟨fun σ' H' => ∃ m', m' < W.length + 2 * n - k ∧ RchI n pile W l w lf H m' σ' H', fun _ _ h => h, ?_⟩
        refine ⟨_, rfl, l, rfl, ⟨_, SqL.of (s2 _ _ hl)⟩, for_list (K := K) (a := l) (xs := as.map V.ref) (fun j σ H4 => ∃ (F : List Int) (v : Option V), σ = [some (.ref l), some (.ref w), some (.ref lf), some (.int (k : Int)), v] ∧ CInv n pile W F k ∧ F[k]? = some p ∧ (∀ c ∈ pile.take j, (c.1 = -p → c.2 ∈ F) ∧ (c.2 = -p → c.1 ∈ F)) ∧ Same H H4 ∧ H4 lf = some (.lst (F.map V.int)))
          ⟨F, v, rfl, ci, hp, (fun c hc => by simp at hc), s2, h2⟩ (fun j σ H4 _ ⟨_, _, _, _, _, _, s4, _⟩ => SqL.of (s4 _ _ hl)) ?_ ?_⟩
        · rintro j w4 σ H4 hj ⟨F, v5, rfl, ci, hp, done, s4, h4⟩
          obtain ⟨b, c, rfl, e1, e2, e3⟩ := ht.get hj
          have hcm : c ∈ pile := List.mem_of_getElem? e2
          have hc := ok c hcm
          have addF : ∀ (z : Int) (F : List Int) (H5 : Hp), CInv n pile W F k → F[k]? = some p → Same H H5 → H5 lf = some (.lst (F.map V.int)) → Step pile p z → Lit n z → z ∉ F →
              (F.map V.int).length < sizeLine ∧ CInv n pile W (F ++ [z]) k ∧ (F ++ [z])[k]? = some p ∧ Same H (upd H5 lf (.lst (F.map V.int ++ [.int z]))) ∧ upd H5 lf (.lst (F.map V.int ++ [.int z])) lf = some (.lst ((F ++ [z]).map V.int)) := by
            intro z F H5 ci hp s5 h5 st lz hz
            have len := ci.len
            have hk : k < F.length := (List.getElem?_eq_some_iff.mp hp).1
            refine ⟨big _ (by rw [List.length_map]; exact len), ci.add (by omega) (List.mem_of_getElem? hp) st lz hz, by rw [List.getElem?_append_left hk]; exact hp, same_upd s5 hlf, ?_⟩
            rw [upd_same, List.map_append]
            rfl
          try dsimp only [gName, tAsg, tRet, tNext, tDrop]
          refine seq_join (J := fun σ' H' => ∃ (F' : List Int), σ' = [some (.ref l), some (.ref w), some (.ref lf), some (.int (k : Int)), some (.ref b)] ∧ CInv n pile W F' k ∧ F'[k]? = some p ∧ (∀ z ∈ F, z ∈ F') ∧ (c.1 = -p → c.2 ∈ F') ∧ Same H H' ∧ H' lf = some (.lst (F'.map V.int))) (fun N hN => ?_) ?_
          · have eb := s4 _ _ e3
            refine ⟨_, rfl, b, _, _, _, rfl, rfl, SqT.of eb, rfl, _, rfl, _, rfl, lf, _, _, _, rfl, rfl, SqL.of h4, at_get hp, _, rfl, rfl, _, rfl, ?_⟩
            dsimp only
            rw [dec_int]
            refine ite2 (fun e => ?_) (fun e => ?_)
            · have e' := eq_of_beq e
              refine ⟨_, rfl, b, _, _, _, rfl, rfl, SqT.of eb, rfl, _, rfl, lf, _, rfl, .inl (SqL.of h4), rfl, flat_ints _, _, rfl, ?_⟩
              rw [if_pos rfl, in_ints]
              by_cases hin : c.2 ∈ F
              · rw [decide_eq_true hin]
                exact iteF (hN _ _ ⟨F, rfl, ci, hp, fun _ h => h, fun _ => hin, s4, h4⟩)
              · rw [decide_eq_false hin]
                obtain ⟨z1, z2, z3, z4, z5⟩ := addF c.2 F H4 ci hp s4 h4 ⟨c, hcm, .inl ⟨e', rfl⟩⟩ hc.2 hin
                refine iteT ⟨_, rfl, .inl ⟨rfl, _, SqL.of h4⟩, _, rfl, b, _, _, _, rfl, rfl, SqT.of eb, rfl, lf, _, _, rfl, rfl, h4, z1, ?_⟩
                exact hN _ _ ⟨F ++ [c.2], rfl, z2, z3, fun z h => List.mem_append_left _ h, fun _ => List.mem_append_right _ (List.mem_singleton.mpr rfl), z4, z5⟩
            · exact iteF (hN _ _ ⟨F, rfl, ci, hp, fun _ h => h, fun z => absurd (beq_iff_eq.mpr z) e, s4, h4⟩)
          · rintro σ' H' ⟨F', rfl, ci', hp', sub, f1, s5, h5⟩
            have eb := s5 _ _ e3
            have fin : ∀ F2 : List Int, (∀ z ∈ F', z ∈ F2) → (c.2 = -p → c.1 ∈ F2) → ∀ d ∈ pile.take (j + 1), (d.1 = -p → d.2 ∈ F2) ∧ (d.2 = -p → d.1 ∈ F2) := fun F2 sb f2 d hd => by
              rw [take_snoc e2] at hd
              rcases List.mem_append.mp hd with hd | hd
              · have := done d hd
                exact ⟨fun z => sb _ (sub _ (this.1 z)), fun z => sb _ (sub _ (this.2 z))⟩
              · rw [List.mem_singleton] at hd
                subst hd
                exact ⟨fun z => sb _ (f1 z), f2⟩
            refine ⟨_, rfl, b, _, _, _, rfl, rfl, SqT.of eb, rfl, _, rfl, _, rfl, lf, _, _, _, rfl, rfl, SqL.of h5, at_get hp', _, rfl, rfl, _, rfl, ?_⟩
            dsimp only
            rw [dec_int]
            refine ite2 (fun e => ?_) (fun e => ?_)
            · have e' := eq_of_beq e
              refine ⟨_, rfl, b, _, _, _, rfl, rfl, SqT.of eb, rfl, _, rfl, lf, _, rfl, .inl (SqL.of h5), rfl, flat_ints _, _, rfl, ?_⟩
              rw [if_pos rfl, in_ints]
              by_cases hin : c.1 ∈ F'
              · rw [decide_eq_true hin]
                exact iteF ⟨F', _, rfl, ci', hp', fin F' (fun _ h => h) (fun _ => hin), s5, h5⟩
              · rw [decide_eq_false hin]
                obtain ⟨z1, z2, z3, z4, z5⟩ := addF c.1 F' H' ci' hp' s5 h5 ⟨c, hcm, .inr ⟨e', rfl⟩⟩ hc.1 hin
                refine iteT ⟨_, rfl, .inl ⟨rfl, _, SqL.of h5⟩, _, rfl, b, _, _, _, rfl, rfl, SqT.of eb, rfl, lf, _, _, rfl, rfl, h5, z1, ?_⟩
                exact ⟨F' ++ [c.1], _, rfl, z2, z3, fin _ (fun z h => List.mem_append_left _ h) (fun _ => List.mem_append_right _ (List.mem_singleton.mpr rfl)), z4, z5⟩
            · exact iteF ⟨F', _, rfl, ci', hp', fin F' (fun _ h => h) (fun z => absurd (beq_iff_eq.mpr z) e), s5, h5⟩
        · rintro σ H4 ⟨F, v5, rfl, ci, hp, done, s4, h4⟩
          rw [List.length_map, ht.length, List.take_length] at done
          have hk : k < F.length := (List.getElem?_eq_some_iff.mp hp).1
          have len := ci.len
          refine ⟨_, rfl, _, _, rfl, rfl, ?_⟩
          refine ⟨_, (show W.length + 2 * n - (k + 1) < W.length + 2 * n - k by omega), k + 1, F, _, rfl, ci.next hp (fun y' ⟨c, hc, hs⟩ => ?_), by omega, rfl, s4, h4⟩
          rcases hs with ⟨z1, rfl⟩ | ⟨z1, rfl⟩
          · exact (done c hc).1 z1
          · exact (done c hc).2 z1
      · have hk : F.length ≤ k := by
          refine Nat.not_lt.mp fun z => e (decide_eq_true ?_)
          show (k : Int) < ((F.map V.int).length : Int)
          rw [List.length_map]
          omega
        exact hN _ _ ⟨F, _, _, rfl, s2, h2, ci.done hk⟩
    · rintro σ' H' ⟨F, v1, v2, rfl, s2, h2, hF⟩
      exact ⟨_, rfl, q F lf H' hlf s2 h2 hF⟩
inductive Sp_law_torn (K : PySem.W.Frag) (vs : List V) (H : Hp) (Q : VK) (E : XK) : Prop
  | mk (a : Addr) (L : List Int) (h0 : vs = [.ref a]) (h1 : H a = some (.lst (L.map V.int))) (h2 : ∀ b : Bool, (b = true ↔ ∃ x ∈ L, -x ∈ L) → Q (.bl b) H) : Sp_law_torn K vs H Q E
noncomputable abbrev sp_law_torn (K : PySem.W.Frag) : Sp := fun vs H Q E => Sp_law_torn K vs H Q E
theorem sc_law_torn : FnScope ["lits", "lit"] ["lits"] (defScope s_law_torn) := ⟨rfl, rfl, rfl, by decide +kernel, rfl, by decide +kernel, by decide +kernel⟩
set_option maxHeartbeats 4000000 in
theorem ok_law_torn {P : Program} {w : World} {K : PySem.W.Frag} {mg : Str → Option Value} {base : Heap} {t : Ad} (T : Tx K mg t) : FnOk P w K mg base CX0 1 t.f_law_torn t.d_law_torn ["lits"] (sp_law_torn K) := by
  refine T.F_law_torn.ok sc_law_torn (fun vs H Q E h => ?_) (fun cdv A outer s H vs Q E hr h => ?_)
  · obtain ⟨a, L, rfl, ha, q⟩ := h
    rfl
  · obtain ⟨a, L, rfl, ha, q⟩ := h
    have hu := hu_of hr
    refine ⟨_, (pss_cons (ps_for PassesOwn.never rfl (pi_list (pv 0)) (pg_name (i := 1) sc_law_torn.nd rfl (Or.inl rfl))
        (pss_one (ps_if (pt_cmpR op_in_seq (pe_un un_neg (pv 1)) (pv 0) (by with_unfolding_all rfl)) (pss_one (ps_ret pe_bl)) pss_nil)))
      (pss_one (ps_ret pe_bl))), ?_⟩
    try dsimp only [cxOf]
    refine ⟨_, rfl, a, rfl, ⟨_, SqL.of ha⟩, for_list (K := K) (a := a) (xs := L.map V.int) (fun i σ H3 => H3 = H ∧ ∃ w, σ = [some (.ref a), w] ∧ ∀ x ∈ L.take i, -x ∉ L) ⟨rfl, none, rfl, (fun x hx => by simp at hx)⟩ (fun i σ H3 _ ⟨e, _⟩ => SqL.of (e ▸ ha)) ?_ ?_⟩
    · rintro i x σ H3 hi ⟨rfl, w, rfl, no⟩
      obtain ⟨p, rfl, hp⟩ := ints_get hi
      refine ⟨_, rfl, _, rfl, _, rfl, a, _, rfl, .inl (SqL.of ha), rfl, flat_ints _, _, rfl, ?_⟩
      rw [show (if false = true then !inV (.int (-p)) (L.map V.int) else inV (.int (-p)) (L.map V.int)) = decide (-p ∈ L) from in_ints _ _]
      refine ite2 (fun e => q _ ⟨fun _ => ⟨p, List.mem_of_getElem? hp, of_decide_eq_true e⟩, fun _ => rfl⟩) (fun e => ⟨rfl, _, rfl, fun x hx => ?_⟩)
      rw [take_snoc hp] at hx
      rcases List.mem_append.mp hx with hx | hx
      · exact no x hx
      · rw [List.mem_singleton] at hx; subst hx; exact fun z => e (decide_eq_true z)
    · rintro σ H3 ⟨rfl, w, rfl, no⟩
      rw [List.length_map, List.take_length] at no
      exact q _ ⟨fun z => (by cases z), fun ⟨x, a, b⟩ => absurd b (no x a)⟩
inductive Sp_law_lits (K : PySem.W.Frag) (vs : List V) (H : Hp) (Q : VK) (E : XK) : Prop
  | mk (a : Addr) (bs : List Bool) (c : Nat) (h0 : vs = [.ref a, .int c]) (h1 : SqL K H a (bs.map V.bl)) (h2 : c ≤ bs.length) (h3 : bs.length ≤ 100) (h4 : ∀ (l : Addr) (H' : Hp), H l = none → Same H H' → H' l = some (.lst ((litsOf bs c).map V.int)) → Q (.ref l) H') : Sp_law_lits K vs H Q E
noncomputable abbrev sp_law_lits (K : PySem.W.Frag) : Sp := fun vs H Q E => Sp_law_lits K vs H Q E
theorem sc_law_lits : FnScope ["bits", "count"] ["bits", "count"] (defScope s_law_lits) := ⟨rfl, rfl, rfl, by decide +kernel, rfl, by decide +kernel, by decide +kernel⟩
set_option maxHeartbeats 4000000 in
theorem ok_law_lits {P : Program} {w : World} {K : PySem.W.Frag} {mg : Str → Option Value} {base : Heap} {t : Ad} (T : Tx K mg t) : FnOk P w K mg base CX0 1 t.f_law_lits t.d_law_lits ["bits", "count"] (sp_law_lits K) := by
  refine T.F_law_lits.ok sc_law_lits (fun vs H Q E h => ?_) (fun cdv A outer s H vs Q E hr h => ?_)
  · obtain ⟨a, bs, c, rfl, ha, hc, hb, q⟩ := h
    rfl
  · obtain ⟨a, bs, c, rfl, ha, hc, hb, q⟩ := h
    have hu := hu_of hr
    refine ⟨_, (pss_one (ps_ret (pe_comp (N' := ["k", "bits"]) (mv := [none, some 0]) rfl (compOk rfl rfl rfl rfl) (.cons trivial (.cons ⟨rfl, rfl, .inl rfl⟩ .nil)) (pi_range2 rfl T.z_range (pa_cons pe_int (pa_cons (pe_op op_add (pv 1) pe_int) pa_nil))) (fun _ _ _ _ => (pg_name (i := 0) (show (["k", "bits"] : List Str).Nodup by decide +kernel) rfl (Or.inl rfl))) (fun _ _ _ _ => pts_nil) (fun _ _ _ _ => (pe_ifExp (pt_val (pe_ix (ix_listK (K := K) rfl) (pv 1) (pe_op op_sub (pv 0) pe_int) (fun _ _ => rfl))) (pv 0) (pe_un un_neg (pv 0))))))), ?_⟩
    try dsimp only [cxOf]
    try dsimp only [gName, tAsg, tRet, tNext, tDrop, tSeq, tCB, tCons, tNil]
    refine comp_range (lo := 1) (hi := (c : Int) + 1) (n := c) (fun Q' q' => ⟨_, rfl, _, _, rfl, rfl, q'⟩) ⟨by decide, by decide, by omega, by omega⟩ (by omega) (Nat.le_trans (show c ≤ 100 by omega) (by decide))
      (fun D i σ H3 ys => ∃ v, σ = [v, some (.ref a)] ∧ Same H H3 ∧ H3 D = some (.lst ys) ∧ ys = (litsOf bs i).map V.int) ?_ ?_ ?_ ?_
    · exact fun D hD => ⟨none, rfl, same_new hD, upd_same, rfl⟩
    · rintro D i σ H3 ys hi ⟨v, rfl, s3, h3, rfl⟩
      rw [List.length_map, litsOf_len]
      exact Nat.le_refl _
    · rintro D i σ H3 ys hD hi ⟨v, rfl, s3, h3, rfl⟩
      have hat : atI (bs.map V.bl) (1 + (i : Int) - 1) = some (V.bl (bs.getD i false)) := by
        have := at_map (f := V.bl) (xs := bs) (k := 1 + (i : Int) - 1) (d := false) (by omega) (by omega)
        rw [this, show (1 + (i : Int) - 1).toNat = i by omega]
      have more : litsOf bs (i + 1) = litsOf bs i ++ [if bs.getD i false = true then (i : Int) + 1 else -((i : Int) + 1)] := by
        unfold litsOf
        rw [List.range_succ, List.map_append]
        rfl
      refine ⟨_, rfl, _, rfl, _, _, rfl, rfl, a, _, _, _, rfl, rfl, s3.seq ha, hat, _, rfl, ?_⟩
      rw [more, List.map_append]
      cases hb' : bs.getD i false with
      | true =>
        refine iteT ⟨_, rfl, h3, _, rfl, same_upd s3 hD, upd_same, ?_⟩
        show _ ++ [V.int (1 + (i : Int))] = _ ++ [V.int _]
        rw [if_pos rfl, Int.add_comm]
      | false =>
        refine iteF ⟨_, rfl, _, rfl, h3, _, rfl, same_upd s3 hD, upd_same, ?_⟩
        show _ ++ [V.int (-(1 + (i : Int)))] = _ ++ [V.int _]
        rw [if_neg (by decide), Int.add_comm]
    · rintro D σ H3 ys hD ⟨v, rfl, s3, h3, rfl⟩
      exact q D H3 hD s3 h3
inductive Sp_law_first (K : PySem.W.Frag) (vs : List V) (H : Hp) (Q : VK) (E : XK) : Prop
  | mk (l w b : Addr) (n : Nat) (pile : List Say) (W : List Int) (S : List Bool) (h0 : vs = [.ref l, .ref w, .ref b]) (h1 : PileAt H l pile) (h2 : H w = some (.lst (W.map V.int))) (h3 : H b = some (.lst (S.map V.bl))) (h4 : PileOk n pile) (h5 : n ≤ 100) (h6 : W.length ≤ 100) (h7 : First n pile W (some S)) (h8 : ∀ H', Same H H' → Q (.bl true) H') : Sp_law_first K vs H Q E
noncomputable abbrev sp_law_first (K : PySem.W.Frag) : Sp := fun vs H Q E => Sp_law_first K vs H Q E
theorem sc_law_first : FnScope ["pile", "wishes", "bits", "k"] ["pile", "wishes", "bits"] (defScope s_law_first) := ⟨rfl, rfl, rfl, by decide +kernel, rfl, by decide +kernel, by decide +kernel⟩
set_option maxHeartbeats 4000000 in
theorem ok_law_first {P : Program} {w : World} {K : PySem.W.Frag} {mg : Str → Option Value} {base : Heap} {t : Ad} (T : Tx K mg t) : FnOk P w K mg base CX0 2 t.f_law_first t.d_law_first ["pile", "wishes", "bits"] (sp_law_first K) := by
  have G_law_reach := ok_law_reach (P := P) (w := w) (base := base) T
  have G_law_torn := ok_law_torn (P := P) (w := w) (base := base) T
  have G_law_lits := ok_law_lits (P := P) (w := w) (base := base) T
  refine T.F_law_first.ok sc_law_first (fun vs H Q E h => ?_) (fun cdv A outer s H vs Q E hr h => ?_)
  · obtain ⟨l, w, b, n, pile, W, S, rfl, P', hw, hb, ok, hn, hW, f, q⟩ := h
    rfl
  · obtain ⟨l, w, b, n, pile, W, S, rfl, P', hw, hb, ok, hn, hW, f, q⟩ := h
    have hu := hu_of hr
    refine ⟨_, (pss_cons (ps_for PassesOwn.never rfl (pi_range2 rfl T.z_range (pa_cons pe_int (pa_cons (pe_op op_add (pe_callB call_len_seq (by rfl) T.z_len PySem.boot_len (pa_cons (pv 2) pa_nil)) pe_int) pa_nil))) (pg_name (i := 3) sc_law_first.nd rfl (Or.inl rfl))
        (pss_one (ps_if (PW.pt (pw_and (pt_val (pe_ix ix_list (pv 2) (pe_op op_sub (pv 3) pe_int) (fun _ _ => rfl))) (pw_and1 (pt_not (pt_val (pe_call G_law_torn (hr.mono (by decide)) rfl T.m_law_torn T.F_law_torn.kp T.b_law_torn .nil pass0 (pa_cons (pe_call G_law_reach (hr.mono (by decide)) rfl T.m_law_reach T.F_law_reach.kp T.b_law_reach .nil pass0 (pa_cons (pv 0) (pa_cons (pe_op op_cat (pe_op op_cat (pv 1) (pe_call G_law_lits (hr.mono (by decide)) rfl T.m_law_lits T.F_law_lits.kp T.b_law_lits .nil pass0 (pa_cons (pv 2) (pa_cons (pe_op op_sub (pv 3) pe_int) pa_nil)))) (pe_lst (pa_cons (pe_un un_neg (pv 3)) pa_nil))) pa_nil))) pa_nil))))))) (pss_one (ps_ret pe_bl)) pss_nil)))
      (pss_one (ps_ret pe_bl))), ?_⟩
    try dsimp only [cxOf]
    have hS := first_len f
    have to : ∀ v : Nat, 1 ≤ v → v ≤ n → S.getD (v - 1) false = true → Torn pile (· ∈ (W ++ litsOf S (v - 1)) ++ [-(v : Int)]) := fun v a1 a2 on => by
      obtain ⟨Kk, fi, eS⟩ := f
      rw [eS] at on ⊢
      exact ahead_torn fi a1 a2 on
    refine ⟨_, rfl, b, _, rfl, .inl (SqL.of hb), _, _, rfl, rfl, _, _, rfl, ⟨by decide, by decide, (by rw [List.length_map]; omega), (by rw [List.length_map]; omega)⟩, for_range (lo := 1) (n := (((S.map V.bl).length : Int) + 1 - 1).toNat) (fun i σ H2 => ∃ v1, σ = [some (.ref l), some (.ref w), some (.ref b), v1] ∧ Same H H2) ⟨none, rfl, Same.refl _⟩ ?_ ?_⟩
    · rintro i σ H2 hi ⟨v1, rfl, s2⟩
      rw [List.length_map] at hi
      have hin : i < n := by omega
      have hat : atI (S.map V.bl) (1 + (i : Int) - 1) = some (V.bl (S.getD i false)) := by
        have := at_map (f := V.bl) (xs := S) (k := 1 + (i : Int) - 1) (d := false) (by omega) (by omega)
        rw [this, show (1 + (i : Int) - 1).toNat = i by omega]
      refine ⟨_, rfl, _, rfl, _, _, rfl, rfl, b, _, _, _, rfl, rfl, SqL.of (s2 _ _ hb), hat, _, rfl, ?_⟩
      refine ite2 (fun on => ?_) (fun _ => iteF ⟨_, rfl, s2⟩)
      have e1 : (1 : Int) + (i : Int) - 1 = (i : Nat) := by omega
      refine ⟨_, rfl, _, rfl, _, rfl, _, rfl, _, _, rfl, rfl, b, S, i, (by show [V.ref b, V.int (1 + (i : Int) - 1)] = _; rw [e1]), SqL.of (s2 _ _ hb), by omega, by omega, fun la H3 hla s3 h3 => ?_⟩
      have s23 := s2.trans s3
      refine ⟨w, la, _, _, rfl, rfl, s23 _ _ hw, h3, Nat.le_trans (show _ ≤ 1000 by rw [List.length_map, List.length_map, litsOf_len]; omega) (by decide), fun lb hlb => ?_⟩
      have g4 := same_new (o := .lst (W.map V.int ++ (litsOf S i).map V.int)) hlb
      refine ⟨_, rfl, _, rfl, (by show 1 ≤ sizeLine; decide), fun lc hlc => ?_⟩
      have g5 := same_new (o := .lst [.int (-(1 + (i : Int)))]) hlc
      refine ⟨lb, lc, _, _, rfl, rfl, g5 _ _ upd_same, upd_same, Nat.le_trans (show _ ≤ 1000 by rw [List.length_append, List.length_map, List.length_map, litsOf_len]; simp; omega) (by decide), fun ld hld => ?_⟩
      have g6 := same_new (o := .lst ((W.map V.int ++ (litsOf S i).map V.int) ++ [.int (-(1 + (i : Int)))])) hld
      have s6 := ((s23.trans g4).trans g5).trans g6
      have ew : (W.map V.int ++ (litsOf S i).map V.int) ++ [V.int (-(1 + (i : Int)))] = ((W ++ litsOf S i) ++ [-((i + 1 : Nat) : Int)]).map V.int := by
        rw [List.map_append, List.map_append, show (1 : Int) + (i : Int) = ((i + 1 : Nat) : Int) by omega]
        rfl
      refine ⟨l, ld, n, pile, (W ++ litsOf S i) ++ [-((i + 1 : Nat) : Int)], rfl, P'.same s6, by rw [upd_same, ew], ok, hn, (by rw [List.length_append, List.length_append, litsOf_len]; simp; omega), fun F lf H7 hlf s7 h7 hF => ?_⟩
      refine ⟨lf, F, rfl, h7, fun t ht => ?_⟩
      have tt : t = true := ht.mpr ((torn_iff hF).mpr (to (i + 1) (by omega) (by omega) on))
      subst tt
      refine ⟨_, rfl, iteF ⟨_, rfl, s6.trans s7⟩⟩
    · rintro σ H2 ⟨v1, rfl, s2⟩
      exact q H2 s2
inductive Sp_law_told (K : PySem.W.Frag) (vs : List V) (H : Hp) (Q : VK) (E : XK) : Prop
  | mk (p l lp : Addr) (n : Nat) (pile : List Say) (h0 : vs = [.ref p, .ref lp]) (h1 : BookAt K H p l n pile) (h2 : PileAt H lp pile) (h3 : pile.length ≤ 1000) (h4 : PileOk n pile) (h5 : n ≤ 100) (h6 : ∀ H', Same H H' → Q (.bl true) H') : Sp_law_told K vs H Q E
noncomputable abbrev sp_law_told (K : PySem.W.Frag) : Sp := fun vs H Q E => Sp_law_told K vs H Q E
theorem sc_law_told : FnScope ["book", "pile", "bits", "ring"] ["book", "pile"] (defScope s_law_told) := ⟨rfl, rfl, rfl, by decide +kernel, rfl, by decide +kernel, by decide +kernel⟩
set_option maxHeartbeats 4000000 in
theorem ok_law_told {P : Program} {w : World} {K : PySem.W.Frag} {mg : Str → Option Value} {base : Heap} {t : Ad} (T : Tx K mg t) : FnOk P w K mg base CX0 6 t.f_law_told t.d_law_told ["book", "pile"] (sp_law_told K) := by
  have G_Book_setting := ok_Book_setting (P := P) (w := w) (base := base) T
  have G_Book_ring := ok_Book_ring (P := P) (w := w) (base := base) T
  have G_law_all_true := ok_law_all_true (P := P) (w := w) (base := base) T
  have G_law_is_setting := ok_law_is_setting (P := P) (w := w) (base := base) T
  have G_law_is_ring := ok_law_is_ring (P := P) (w := w) (base := base) T
  have G_law_first := ok_law_first (P := P) (w := w) (base := base) T
  refine T.F_law_told.ok sc_law_told (fun vs H Q E h => ?_) (fun cdv A outer s H vs Q E hr h => ?_)
  · obtain ⟨p, l, lp, n, pile, rfl, B, P', hp, ok, hn, q⟩ := h
    rfl
  · obtain ⟨p, l, lp, n, pile, rfl, B, P', hp, ok, hn, q⟩ := h
    have hu := hu_of hr
    refine ⟨_, (pss_cons (ps_set (i := 2) sc_law_told.nd rfl (Or.inl rfl) (pe_meth0 (pv 0) T.cl_Book T.mt_Book_setting G_Book_setting (hr.mono (by decide)) T.b_Book_setting .nil pass0))
      (pss_cons (ps_set (i := 3) sc_law_told.nd rfl (Or.inl rfl) (pe_meth0 (pv 0) T.cl_Book T.mt_Book_ring G_Book_ring (hr.mono (by decide)) T.b_Book_ring .nil pass0))
      (pss_cons (ps_if (pt_cmpR op_isN (pv 2) pe_non (nomark _)) (pss_one (ps_ret (pe_call G_law_is_ring (hr.mono (by decide)) rfl T.m_law_is_ring T.F_law_is_ring.kp T.b_law_is_ring .nil pass0 (pa_cons (pv 1) (pa_cons (pv 3) pa_nil))))) pss_nil)
      (pss_cons (ps_if (PW.pt (pw_or (pt_cmpR op_notN (pv 3) pe_non (nomark _)) (pw_or (pt_not (pt_val (pe_call G_law_is_setting (hr.mono (by decide)) rfl T.m_law_is_setting T.F_law_is_setting.kp T.b_law_is_setting .nil pass0 (pa_cons (pv 2) (pa_cons (pe_fld (pv 0) rfl) pa_nil))))) (pw_or1 (pt_not (pt_val (pe_call G_law_all_true (hr.mono (by decide)) rfl T.m_law_all_true T.F_law_all_true.kp T.b_law_all_true .nil pass0 (pa_cons (pv 1) (pa_cons (pv 2) pa_nil))))))))) (pss_one (ps_ret pe_bl)) pss_nil)
      (pss_one (ps_ret (pe_call G_law_first (hr.mono (by decide)) rfl T.m_law_first T.F_law_first.kp T.b_law_first .nil pass0 (pa_cons (pv 1) (pa_cons (pe_lst pa_nil) (pa_cons (pv 2) pa_nil)))))))))), ?_⟩
    try dsimp only [cxOf]
    obtain ⟨dx, ho⟩ := B.at T.nn_Book
    refine ⟨_, rfl, p, dx, _, rfl, ho, bflds_no _ _ (by decide +kernel) (by decide +kernel), p, l, n, pile, rfl, B, hp, ok, hn, fun v1 H1 s1 a1 => ?_⟩
    refine ⟨_, rfl, p, dx, _, rfl, s1 _ _ ho, bflds_no _ _ (by decide +kernel) (by decide +kernel), p, l, n, pile, rfl, B.same s1, hp, ok, hn, fun v2 H2 s2 a2 => ?_⟩
    have s12 := s1.trans s2
    rcases a1 with ⟨rfl, f1⟩ | ⟨lb, S, rfl, hlb, h1, f1⟩
    · rcases a2 with ⟨rfl, no⟩ | ⟨lr, R, rfl, hlr, h2, rg⟩
      · rcases f1 with tn | ⟨w, a1, a2, kn⟩
        · exact absurd tn torn_nil
        · exact absurd kn (no w a1 a2)
      · refine ⟨_, rfl, rfl, _, rfl, iteT ?_⟩
        exact ⟨_, rfl, _, rfl, lp, lr, n, R, pile, rfl, P'.same s12, h2, hn, rg, fun H3 s3 => q H3 (s12.trans s3)⟩
    · rcases a2 with ⟨rfl, no⟩ | ⟨lr, R, rfl, hlr, h2, rg⟩
      · have hSn := first_len f1
        obtain ⟨gS, _⟩ := first_some_good ok f1
        refine ⟨_, rfl, rfl, _, rfl, iteF ?_⟩
        refine ⟨_, rfl, rfl, _, rfl, iteF ?_⟩
        refine ⟨_, rfl, _, rfl, p, _, dx, _, _, rfl, s12 _ _ ho, T.cl_Book, T.nf_many, bflds_many _ _, lb, S, by rw [hSn]; rfl, s2 _ _ h1, _, rfl, iteF ?_⟩
        refine ⟨_, rfl, _, rfl, lp, lb, pile, S, rfl, P'.same s12, SqL.of (s2 _ _ h1), hSn ▸ ok, _, rfl, ?_⟩
        rw [gS]
        refine iteF ?_
        refine ⟨_, rfl, (by show 0 ≤ sizeLine; decide), fun lw hlw => ?_⟩
        have s3 := same_new (o := .lst []) hlw
        exact ⟨_, rfl, lp, lw, lb, n, pile, [], S, rfl, P'.same (s12.trans s3), upd_same, s3 _ _ (s2 _ _ h1), ok, hn, by decide, f1, fun H4 s4 => q H4 ((s12.trans s3).trans s4)⟩
      · obtain ⟨w, a1, a2, kn, _⟩ := rg.ends
        exact absurd kn (first_some_noknot ok f1 w a1 a2)
inductive Sp_law_answers (K : PySem.W.Frag) (vs : List V) (H : Hp) (Q : VK) (E : XK) : Prop
  | mk (p l lp b t lr : Addr) (n : Nat) (pile : List Say) (c : Say) (h0 : vs = [.ref p, .ref lp, .ref b, .ref t]) (h1 : BookAt K H p l n pile) (h2 : PileAt H lp pile) (h3 : pile.length ≤ 1000) (h4 : PileOk n pile) (h5 : n ≤ 100) (h6 : H b = some (.tup [.int c.1, .int c.2])) (h7 : Lit n c.1) (h8 : Lit n c.2) (h9 : AnsAt n pile c H t lr) (h10 : ∀ H', Same H H' → Q (.bl true) H') : Sp_law_answers K vs H Q E
noncomputable abbrev sp_law_answers (K : PySem.W.Frag) : Sp := fun vs H Q E => Sp_law_answers K vs H Q E
theorem sc_law_answers : FnScope ["book", "pile", "say", "found"] ["book", "pile", "say", "found"] (defScope s_law_answers) := ⟨rfl, rfl, rfl, by decide +kernel, rfl, by decide +kernel, by decide +kernel⟩
set_option maxHeartbeats 4000000 in
theorem ok_law_answers {P : Program} {w : World} {K : PySem.W.Frag} {mg : Str → Option Value} {base : Heap} {t : Ad} (T : Tx K mg t) : FnOk P w K mg base CX0 6 t.f_law_answers t.d_law_answers ["book", "pile", "say", "found"] (sp_law_answers K) := by
  have G_Book_setting := ok_Book_setting (P := P) (w := w) (base := base) T
  have G_law_true := ok_law_true (P := P) (w := w) (base := base) T
  have G_law_all_true := ok_law_all_true (P := P) (w := w) (base := base) T
  have G_law_is_setting := ok_law_is_setting (P := P) (w := w) (base := base) T
  have G_law_is_road := ok_law_is_road (P := P) (w := w) (base := base) T
  have G_law_is_ring := ok_law_is_ring (P := P) (w := w) (base := base) T
  have G_law_first := ok_law_first (P := P) (w := w) (base := base) T
  refine T.F_law_answers.ok sc_law_answers (fun vs H Q E h => ?_) (fun cdv A outer s H vs Q E hr h => ?_)
  · obtain ⟨p, l, lp, b, t', lr, n, pile, c, rfl, B, P', hp, ok, hn, hb, lc1, lc2, an, q⟩ := h
    rfl
  · obtain ⟨p, l, lp, b, t', lr, n, pile, c, rfl, B, P', hp, ok, hn, hb, lc1, lc2, an, q⟩ := h
    have hu := hu_of hr
    refine ⟨_, (pss_cons (ps_if (PW.pt (pw_or (pt_not (pt_val (pe_callB call_isi (by rfl) T.z_isinstance (show bootBuiltins "isinstance" = _ by decide +kernel) (pa_cons (pv 3) (pa_cons (pe_bltn (v := .ty "tuple") (by rfl) T.z_tuple (show bootBuiltins "tuple" = _ by decide +kernel) rfl) pa_nil))))) (pw_or (pt_cmpR op_ne (pe_callB call_len_seq (by rfl) T.z_len PySem.boot_len (pa_cons (pv 3) pa_nil)) pe_int (nomark _)) (pw_or1 (pt_not (pt_val (pe_callB call_isi (by rfl) T.z_isinstance (show bootBuiltins "isinstance" = _ by decide +kernel) (pa_cons (pe_ix ix_tup (pv 3) pe_int (fun _ _ => rfl)) (pa_cons (pe_bltn (v := .ty "str") (by rfl) T.z_str (show bootBuiltins "str" = _ by decide +kernel) rfl) pa_nil))))))))) (pss_one (ps_ret pe_bl)) pss_nil)
      (pss_cons (ps_if (pt_cmpR op_eq (pe_ix ix_tup (pv 3) pe_int (fun _ _ => rfl)) pe_str (nomark _)) (pss_cons (ps_if (PW.pt (pw_or (pt_not (pt_val (pe_call G_law_is_setting (hr.mono (by decide)) rfl T.m_law_is_setting T.F_law_is_setting.kp T.b_law_is_setting .nil pass0 (pa_cons (pe_ix ix_tup (pv 3) pe_int (fun _ _ => rfl)) (pa_cons (pe_fld (pv 0) rfl) pa_nil))))) (pw_or1 (pt_not (pt_val (pe_call G_law_all_true (hr.mono (by decide)) rfl T.m_law_all_true T.F_law_all_true.kp T.b_law_all_true .nil pass0 (pa_cons (pv 1) (pa_cons (pe_ix ix_tup (pv 3) pe_int (fun _ _ => rfl)) pa_nil)))))))) (pss_one (ps_ret pe_bl)) pss_nil)
        (pss_one (ps_ret (pe_and (pe_not (pe_call G_law_true (hr.mono (by decide)) rfl T.m_law_true T.F_law_true.kp T.b_law_true .nil pass0 (pa_cons (pv 2) (pa_cons (pe_ix ix_tup (pv 3) pe_int (fun _ _ => rfl)) pa_nil)))) (pe_one (pe_call G_law_first (hr.mono (by decide)) rfl T.m_law_first T.F_law_first.kp T.b_law_first .nil pass0 (pa_cons (pv 1) (pa_cons (pe_lst (pa_cons (pe_un un_neg (pe_ix ix_tup (pv 2) pe_int (fun _ _ => rfl))) (pa_cons (pe_un un_neg (pe_ix ix_tup (pv 2) pe_int (fun _ _ => rfl))) pa_nil))) (pa_cons (pe_ix ix_tup (pv 3) pe_int (fun _ _ => rfl)) pa_nil))))))))) pss_nil)
      (pss_cons (ps_if (pt_cmpR op_ne (pe_ix ix_tup (pv 3) pe_int (fun _ _ => rfl)) (pe_ix ix_list (pe_lst (pa_cons pe_str (pa_cons pe_str pa_nil))) (pe_callTy call_int1 (by rfl) T.z_int (show bootBuiltins "int" = _ by decide +kernel) (pa_cons (pe_cmpR op_isN (pe_meth0 (pv 0) T.cl_Book T.mt_Book_setting G_Book_setting (hr.mono (by decide)) T.b_Book_setting .nil pass0) pe_non (nomark _)) pa_nil)) (fun _ _ => rfl)) (nomark _)) (pss_one (ps_ret pe_bl)) pss_nil)
      (pss_cons (ps_if (pt_cmpR op_eq (pe_ix ix_tup (pv 3) pe_int (fun _ _ => rfl)) pe_str (nomark _)) (pss_one (ps_ret (pe_call G_law_is_ring (hr.mono (by decide)) rfl T.m_law_is_ring T.F_law_is_ring.kp T.b_law_is_ring .nil pass0 (pa_cons (pv 1) (pa_cons (pe_ix ix_tup (pv 3) pe_int (fun _ _ => rfl)) pa_nil))))) pss_nil)
      (pss_one (ps_ret (pe_and (pe_call G_law_is_road (hr.mono (by decide)) rfl T.m_law_is_road T.F_law_is_road.kp T.b_law_is_road .nil pass0 (pa_cons (pv 1) (pa_cons (pe_ix ix_tup (pv 3) pe_int (fun _ _ => rfl)) pa_nil))) (pe_and (pe_cmpR op_in_seq (pe_un un_neg (pe_ix ix_list (pe_ix ix_tup (pv 3) pe_int (fun _ _ => rfl)) pe_int (fun _ _ => rfl))) (pv 2) (by with_unfolding_all rfl)) (pe_one (pe_cmpR op_in_seq (pe_ix ix_list (pe_ix ix_tup (pv 3) pe_int (fun _ _ => rfl)) (pe_un un_neg pe_int) (fun _ _ => rfl)) (pv 2) (by with_unfolding_all rfl))))))))))), ?_⟩
    try dsimp only [cxOf]
    obtain ⟨dx, ho⟩ := B.at T.nn_Book
    rcases an with ⟨R, ht, hr', rg⟩ | ⟨s, g, Pr, ht, hr', nk, e, ro⟩ | ⟨S, ht, hr', f⟩
    all_goals
      refine seq_hide fun R hR => ?_
      refine ⟨_, rfl, _, _, _, _, rfl, .tup ht, rfl, _, rfl, iteF ?_⟩
      refine ⟨_, rfl, t', _, rfl, .inr (SqT.of ht), rfl, _, rfl, iteNS rfl ?_⟩
      refine ⟨_, rfl, t', _, _, _, rfl, rfl, SqT.of ht, rfl, _, _, _, _, rfl, .str _, rfl, _, rfl, iteF ?_⟩
      subst hR
      try dsimp only [gName, tAsg, tRet, tNext, tDrop]
      refine seq_hide fun R hR => ?_
      refine ⟨_, rfl, t', _, _, _, rfl, rfl, SqT.of ht, rfl, rfl, _, rfl, ?_⟩
    · refine ite2 (fun z => absurd z (by decide +kernel)) fun _ => ?_
      subst hR
      try dsimp only [gName, tAsg, tRet, tNext, tDrop]
      refine seq_hide fun R hR => ?_
      refine ⟨_, rfl, t', _, _, _, rfl, rfl, SqT.of ht, rfl, (by show 2 ≤ sizeLine; decide), fun ll hll => ?_⟩
      have s1 := same_new (o := .lst [.str "road", .str "ring"]) hll
      have kll := upd_same (H := H) (a := ll) (o := .lst [.str "road", .str "ring"])
      refine ⟨_, rfl, p, dx, _, rfl, s1 _ _ ho, bflds_no _ _ (by decide +kernel) (by decide +kernel), p, l, n, pile, rfl, B.same s1, hp, ok, hn, fun v1 H1 s2 a1 => ?_⟩
      rcases a1 with ⟨rfl, f1⟩ | ⟨lb, S, rfl, hlb, h1, f1⟩
      · have s12 := s1.trans s2
        refine ⟨rfl, .inr ⟨true, rfl, ll, _, _, _, rfl, rfl, SqL.of (s2 _ _ kll), rfl, rfl, _, rfl, iteNS rfl ?_⟩⟩
        subst hR
        try dsimp only [gName, tAsg, tRet, tNext, tDrop]
        refine ⟨_, rfl, t', _, _, _, rfl, rfl, SqT.of (s12 _ _ ht), rfl, rfl, _, rfl, ite2 (fun _ => ?_) (fun z => absurd rfl z)⟩
        exact ⟨_, rfl, _, rfl, t', _, _, _, rfl, rfl, SqT.of (s12 _ _ ht), rfl, lp, lr, n, R, pile, rfl, P'.same s12, s12 _ _ hr', hn, rg, fun H3 s3 => q H3 (s12.trans s3)⟩
      · obtain ⟨w, h1, h2, kn, _⟩ := rg.ends
        exact absurd kn (first_some_noknot ok f1 w h1 h2)
    · refine ite2 (fun z => absurd z (by decide +kernel)) fun _ => ?_
      subst hR
      try dsimp only [gName, tAsg, tRet, tNext, tDrop]
      refine seq_hide fun R hR => ?_
      refine ⟨_, rfl, t', _, _, _, rfl, rfl, SqT.of ht, rfl, (by show 2 ≤ sizeLine; decide), fun ll hll => ?_⟩
      have s1 := same_new (o := .lst [.str "road", .str "ring"]) hll
      have kll := upd_same (H := H) (a := ll) (o := .lst [.str "road", .str "ring"])
      refine ⟨_, rfl, p, dx, _, rfl, s1 _ _ ho, bflds_no _ _ (by decide +kernel) (by decide +kernel), p, l, n, pile, rfl, B.same s1, hp, ok, hn, fun v1 H1 s2 a1 => ?_⟩
      rcases a1 with ⟨rfl, f1⟩ | ⟨lb, S, rfl, hlb, h1, f1⟩
      · rcases f1 with tn | ⟨w, a1, a2, kn⟩
        · exact absurd tn torn_nil
        · exact absurd kn (nk w a1 a2)
      · have s12 := s1.trans s2
        refine ⟨rfl, .inr ⟨false, rfl, ll, _, _, _, rfl, rfl, SqL.of (s2 _ _ kll), rfl, rfl, _, rfl, iteNS rfl ?_⟩⟩
        subst hR
        try dsimp only [gName, tAsg, tRet, tNext, tDrop]
        refine ⟨_, rfl, t', _, _, _, rfl, rfl, SqT.of (s12 _ _ ht), rfl, rfl, _, rfl, ite2 (fun z => absurd z (by decide +kernel)) fun _ => ?_⟩
        have ls : Lit n s := by rcases e.1 with z | z <;> rw [z]; exact lc1.neg; exact lc2.neg
        have hlit := road_lit ok ls ro
        obtain ⟨d, hd, hlen⟩ := ro.di
        have hsh := road_short ok ls hd
        have hne : Pr ≠ [] := fun z => by rw [z] at hlen; simp at hlen
        refine ⟨_, rfl, _, rfl, t', _, _, _, rfl, rfl, SqT.of (s12 _ _ ht), rfl, lp, lr, Pr, pile, rfl, P'.same s12, s12 _ _ hr', hne, by omega, (fun x hx => (hlit x hx).ne0), ro.ch, fun H2 s3 => ⟨_, rfl, iteT ?_⟩⟩
        have s13 := s12.trans s3
        have i1 : inV (.int (-s)) [.int c.1, .int c.2] = true := by
          rw [show ([V.int c.1, V.int c.2] : List V) = ([c.1, c.2] : List Int).map V.int from rfl, in_ints]
          exact decide_eq_true (by rcases e.1 with z | z <;> rw [z, Int.neg_neg] <;> simp)
        have i2 : inV (.int g) [.int c.1, .int c.2] = true := by
          rw [show ([V.int c.1, V.int c.2] : List V) = ([c.1, c.2] : List Int).map V.int from rfl, in_ints]
          exact decide_eq_true (by rcases e.2 with z | z <;> rw [z] <;> simp)
        refine ⟨_, rfl, t', _, _, _, rfl, rfl, SqT.of (s13 _ _ ht), rfl, lr, _, _, _, rfl, rfl, SqL.of (s13 _ _ hr'), at_head ro.hd, _, rfl, _, rfl, b, _, rfl, .inr (SqT.of (s13 _ _ hb)), rfl, rfl, ?_⟩
        rw [show (if false = true then !inV (.int (-s)) [V.int c.1, V.int c.2] else inV (.int (-s)) [V.int c.1, V.int c.2]) = true from i1]
        refine ⟨_, rfl, iteT ?_⟩
        refine ⟨_, rfl, t', _, _, _, rfl, rfl, SqT.of (s13 _ _ ht), rfl, _, rfl, lr, _, _, _, rfl, rfl, SqL.of (s13 _ _ hr'), at_tail ro.lt, _, rfl, b, _, rfl, .inr (SqT.of (s13 _ _ hb)), rfl, rfl, ?_⟩
        exact asV (congrArg V.bl i2) (q H2 s13)
    · refine ite2 (fun _ => ?_) (fun z => absurd rfl z)
      have hSn := first_len f
      obtain ⟨gS, wS⟩ := first_some_good ok f
      have tS : tsay S c = false := by
        have w1 := wS (-c.1) (by simp)
        have w2 := wS (-c.2) (by simp)
        rw [tru_neg lc1.ne0] at w1
        rw [tru_neg lc2.ne0] at w2
        rw [tsay]
        cases h1 : tru S c.1
        · cases h2 : tru S c.2
          · rfl
          · rw [h2] at w2; cases w2
        · rw [h1] at w1; cases w1
      refine ⟨_, rfl, t', _, _, _, rfl, rfl, SqT.of ht, rfl, _, rfl, p, _, dx, _, _, rfl, ho, T.cl_Book, T.nf_many, bflds_many _ _, lr, S, by rw [hSn]; rfl, hr', _, rfl, iteF ?_⟩
      refine ⟨_, rfl, _, rfl, t', _, _, _, rfl, rfl, SqT.of ht, rfl, lp, lr, pile, S, rfl, P', SqL.of hr', hSn ▸ ok, _, rfl, ?_⟩
      rw [gS]
      refine iteF ?_
      refine ⟨_, rfl, _, rfl, t', _, _, _, rfl, rfl, SqT.of ht, rfl, b, lr, c, S, rfl, SqT.of hb, SqL.of hr', hSn ▸ lc1, hSn ▸ lc2, ?_⟩
      rw [tS]
      refine ⟨_, rfl, _, rfl, iteT ?_⟩
      refine ⟨_, rfl, _, rfl, b, _, _, _, rfl, rfl, SqT.of hb, rfl, _, rfl, _, rfl, b, _, _, _, rfl, rfl, SqT.of hb, rfl, _, rfl, (by show 2 ≤ sizeLine; decide), fun lw hlw => ?_⟩
      have s3 := same_new (o := .lst [.int (-c.1), .int (-c.2)]) hlw
      exact ⟨_, rfl, t', _, _, _, rfl, rfl, SqT.of (s3 _ _ ht), rfl, lp, lw, lr, n, pile, [-c.1, -c.2], S, rfl, P'.same s3, upd_same, s3 _ _ hr', ok, hn, (by show 2 ≤ 100; decide), f, fun H4 s4 => q H4 (s3.trans s4)⟩
inductive Sp_law_asked (K : PySem.W.Frag) (vs : List V) (H : Hp) (Q : VK) (E : XK) : Prop
  | mk (p l lp b : Addr) (n : Nat) (pile : List Say) (c : Say) (h0 : vs = [.ref p, .ref lp, .ref b]) (h1 : BookAt K H p l n pile) (h2 : PileAt H lp pile) (h3 : pile.length ≤ 1000) (h4 : PileOk n pile) (h5 : n ≤ 100) (h6 : H b = some (.tup [.int c.1, .int c.2])) (h7 : Lit n c.1) (h8 : Lit n c.2) (h9 : ∀ H', Same H H' → Q (.bl true) H') : Sp_law_asked K vs H Q E
noncomputable abbrev sp_law_asked (K : PySem.W.Frag) : Sp := fun vs H Q E => Sp_law_asked K vs H Q E
theorem sc_law_asked : FnScope ["book", "pile", "say", "found"] ["book", "pile", "say"] (defScope s_law_asked) := ⟨rfl, rfl, rfl, by decide +kernel, rfl, by decide +kernel, by decide +kernel⟩
set_option maxHeartbeats 4000000 in
theorem ok_law_asked {P : Program} {w : World} {K : PySem.W.Frag} {mg : Str → Option Value} {base : Heap} {t : Ad} (T : Tx K mg t) : FnOk P w K mg base CX0 7 t.f_law_asked t.d_law_asked ["book", "pile", "say"] (sp_law_asked K) := by
  have G_Book_ask := ok_Book_ask (P := P) (w := w) (base := base) T
  have G_law_answers := ok_law_answers (P := P) (w := w) (base := base) T
  refine T.F_law_asked.ok sc_law_asked (fun vs H Q E h => ?_) (fun cdv A outer s H vs Q E hr h => ?_)
  · obtain ⟨p, l, lp, b, n, pile, c, rfl, B, P', hp, ok, hn, hb, lc1, lc2, q⟩ := h
    rfl
  · obtain ⟨p, l, lp, b, n, pile, c, rfl, B, P', hp, ok, hn, hb, lc1, lc2, q⟩ := h
    have hu := hu_of hr
    refine ⟨_, (pss_cons (ps_set (i := 3) sc_law_asked.nd rfl (Or.inl rfl) (pe_meth (pv 0) T.cl_Book T.mt_Book_ask G_Book_ask (hr.mono (by decide)) T.b_Book_ask .nil pass0 (pa_cons (pv 2) pa_nil)))
      (pss_cons (ps_if (pt_not (pt_val (pe_call G_law_answers (hr.mono (by decide)) rfl T.m_law_answers T.F_law_answers.kp T.b_law_answers .nil pass0 (pa_cons (pv 0) (pa_cons (pv 1) (pa_cons (pv 2) (pa_cons (pv 3) pa_nil))))))) (pss_one (ps_ret pe_bl)) pss_nil)
      (pss_cons (ps_expr (pe_bm0 PySem.F.plainAttrs_list PySem.F.slot_list_clear PySem.F.type_list_clear mt_clear (pe_ix ix_tup (pv 3) pe_int (fun _ _ => rfl))))
      (pss_one (ps_ret (pe_call G_law_answers (hr.mono (by decide)) rfl T.m_law_answers T.F_law_answers.kp T.b_law_answers .nil pass0 (pa_cons (pv 0) (pa_cons (pv 1) (pa_cons (pv 2) (pa_cons (pe_meth (pv 0) T.cl_Book T.mt_Book_ask G_Book_ask (hr.mono (by decide)) T.b_Book_ask .nil pass0 (pa_cons (pv 2) pa_nil)) pa_nil)))))))))), ?_⟩
    try dsimp only [cxOf]
    obtain ⟨dx, ho⟩ := B.at T.nn_Book
    refine ⟨_, rfl, p, dx, _, rfl, ho, bflds_no _ _ (by decide +kernel) (by decide +kernel), _, rfl, p, l, b, n, pile, c, rfl, B, hp, ok, hn, hb, lc1, lc2, fun t' lr H1 ht hlr s1 an => ?_⟩
    refine ⟨_, rfl, _, rfl, _, rfl, _, rfl, p, l, lp, b, t', lr, n, pile, c, rfl, B.same s1, P'.same s1, hp, ok, hn, s1 _ _ hb, lc1, lc2, an, fun H2 s2 => ⟨_, rfl, iteF ?_⟩⟩
    obtain ⟨w, xs, e1, e2⟩ := an.both
    have s12 := s1.trans s2
    refine ⟨_, rfl, t', _, _, _, rfl, rfl, SqT.of (s2 _ _ e1), rfl, .inl ⟨rfl, _, SqL.of (s2 _ _ e2)⟩, lr, _, rfl, rfl, s2 _ _ e2, ?_⟩
    have s3 : Same H (upd H2 lr (.lst [])) := same_upd s12 hlr
    refine ⟨_, rfl, _, rfl, _, rfl, _, rfl, p, dx, _, rfl, s3 _ _ ho, bflds_no _ _ (by decide +kernel) (by decide +kernel), _, rfl, p, l, b, n, pile, c, rfl, B.same s3, hp, ok, hn, s3 _ _ hb, lc1, lc2, fun t2 lr2 H4 ht2 hlr2 s4 an4 => ?_⟩
    have s34 := s3.trans s4
    exact ⟨p, l, lp, b, t2, lr2, n, pile, c, rfl, B.same s34, P'.same s34, hp, ok, hn, s34 _ _ hb, lc1, lc2, an4, fun H5 s5 => q H5 (s34.trans s5)⟩
inductive Sp_law_which (K : PySem.W.Frag) (vs : List V) (H : Hp) (Q : VK) (E : XK) : Prop
  | mk (x C : Addr) (h0 : vs = [.ref x]) (h1 : H x = some (HO.exc x C)) (h2 : ((IsC K "BadSay" C ∧ ∀ (l : Addr) (H' : Hp), H l = none → Same H H' → H' l = some (.lst [.bl true, .bl false, .bl false, .bl false, .bl false, .bl true]) → Q (.ref l) H') ∨ (IsC K "EmptyBook" C ∧ ∀ (l : Addr) (H' : Hp), H l = none → Same H H' → H' l = some (.lst [.bl false, .bl true, .bl false, .bl false, .bl false, .bl true]) → Q (.ref l) H'))) : Sp_law_which K vs H Q E
noncomputable abbrev sp_law_which (K : PySem.W.Frag) : Sp := fun vs H Q E => Sp_law_which K vs H Q E
theorem sc_law_which : FnScope ["e", "some"] ["e"] (defScope s_law_which) := ⟨rfl, rfl, rfl, by decide +kernel, rfl, by decide +kernel, by decide +kernel⟩
set_option maxHeartbeats 4000000 in
theorem ok_law_which {P : Program} {w : World} {K : PySem.W.Frag} {mg : Str → Option Value} {base : Heap} {t : Ad} (T : Tx K mg t) : FnOkS P w K mg base 1 t.f_law_which t.d_law_which ["e"] (sp_law_which K) := by
  refine T.F_law_which.okS sc_law_which (fun vs H Q E h => ?_) (fun cdv A outer s H vs Q E h => ?_)
  · obtain ⟨x, C, rfl, hx, q⟩ := h
    rfl
  · obtain ⟨x, C, rfl, hx, q⟩ := h
    refine ⟨_, (pss_cons (ps_set (i := 1) sc_law_which.nd rfl (Or.inl rfl) (pe_lst (pa_cons (pe_callB call_ist (by rfl) T.z_isinstance (show bootBuiltins "isinstance" = _ by decide +kernel) (pa_cons (pv 0) (pa_cons (pe_glob (v := .ref t.c_BadSay) rfl T.m_BadSay rfl) pa_nil))) (pa_cons (pe_callB call_ist (by rfl) T.z_isinstance (show bootBuiltins "isinstance" = _ by decide +kernel) (pa_cons (pv 0) (pa_cons (pe_glob (v := .ref t.c_EmptyBook) rfl T.m_EmptyBook rfl) pa_nil))) (pa_cons (pe_callB call_ist (by rfl) T.z_isinstance (show bootBuiltins "isinstance" = _ by decide +kernel) (pa_cons (pv 0) (pa_cons (pe_glob (v := .ref t.c_BadLine) rfl T.m_BadLine rfl) pa_nil))) (pa_cons (pe_callB call_ist (by rfl) T.z_isinstance (show bootBuiltins "isinstance" = _ by decide +kernel) (pa_cons (pv 0) (pa_cons (pe_glob (v := .ref t.c_FullBook) rfl T.m_FullBook rfl) pa_nil))) pa_nil))))))
      (pss_one (ps_ret (pe_op op_cat (pv 1) (pe_lst (pa_cons (pe_callB call_ist (by rfl) T.z_isinstance (show bootBuiltins "isinstance" = _ by decide +kernel) (pa_cons (pv 0) (pa_cons (pe_glob (v := .ref t.c_NoSetting) rfl T.m_NoSetting rfl) pa_nil))) (pa_cons (pe_callB call_ist (by rfl) T.z_isinstance (show bootBuiltins "isinstance" = _ by decide +kernel) (pa_cons (pv 0) (pa_cons (pe_bltn (v := .ty "ValueError") (by rfl) T.z_ValueError (show bootBuiltins "ValueError" = _ by decide +kernel) rfl) pa_nil))) pa_nil))))))), ?_⟩
    try dsimp only [cxOf, cxS]
    rcases q with ⟨hC, q⟩ | ⟨hC, q⟩
    · skip
      have cs : C = t.c_BadSay := hC.uniq T.n_BadSay
      subst cs
      refine ⟨_, rfl, x, _, _, _, _, rfl, hx, rfl, T.x_BadSay, T.ob, T.q_BadSay_BadSay, _, rfl, x, _, _, _, _, rfl, hx, rfl, T.x_BadSay, T.ob, T.q_BadSay_EmptyBook, _, rfl, x, _, _, _, _, rfl, hx, rfl, T.x_BadSay, T.ob, T.q_BadSay_BadLine, _, rfl, x, _, _, _, _, rfl, hx, rfl, T.x_BadSay, T.ob, T.q_BadSay_FullBook, (by show 4 ≤ sizeLine; decide), fun l1 hl1 => ?_⟩
      have s1 := same_new (o := .lst [.bl true, .bl false, .bl false, .bl false]) hl1
      have hx1 := s1 _ _ hx
      refine ⟨_, rfl, _, rfl, x, _, _, _, _, rfl, hx1, rfl, T.x_BadSay, T.ob, T.q_BadSay_NoSetting, _, rfl, x, _, _, _, _, rfl, hx1, rfl, T.x_BadSay, T.ob, T.q_BadSay_ValueError, (by show 2 ≤ sizeLine; decide), fun l2 hl2 => ?_⟩
      have s2 := same_new (o := .lst [.bl false, .bl true]) hl2
      refine ⟨l1, l2, _, _, rfl, rfl, s2 _ _ upd_same, upd_same, (by show 6 ≤ sizeLine; decide), fun l3 hl3 => ?_⟩
      have s3 := same_new (o := .lst ([.bl true, .bl false, .bl false, .bl false] ++ [.bl false, .bl true])) hl3
      exact q l3 _ ((s1.trans s2).free hl3) ((s1.trans s2).trans s3) upd_same
    · skip
      have cs : C = t.c_EmptyBook := hC.uniq T.n_EmptyBook
      subst cs
      refine ⟨_, rfl, x, _, _, _, _, rfl, hx, rfl, T.x_EmptyBook, T.ob, T.q_EmptyBook_BadSay, _, rfl, x, _, _, _, _, rfl, hx, rfl, T.x_EmptyBook, T.ob, T.q_EmptyBook_EmptyBook, _, rfl, x, _, _, _, _, rfl, hx, rfl, T.x_EmptyBook, T.ob, T.q_EmptyBook_BadLine, _, rfl, x, _, _, _, _, rfl, hx, rfl, T.x_EmptyBook, T.ob, T.q_EmptyBook_FullBook, (by show 4 ≤ sizeLine; decide), fun l1 hl1 => ?_⟩
      have s1 := same_new (o := .lst [.bl false, .bl true, .bl false, .bl false]) hl1
      have hx1 := s1 _ _ hx
      refine ⟨_, rfl, _, rfl, x, _, _, _, _, rfl, hx1, rfl, T.x_EmptyBook, T.ob, T.q_EmptyBook_NoSetting, _, rfl, x, _, _, _, _, rfl, hx1, rfl, T.x_EmptyBook, T.ob, T.q_EmptyBook_ValueError, (by show 2 ≤ sizeLine; decide), fun l2 hl2 => ?_⟩
      have s2 := same_new (o := .lst [.bl false, .bl true]) hl2
      refine ⟨l1, l2, _, _, rfl, rfl, s2 _ _ upd_same, upd_same, (by show 6 ≤ sizeLine; decide), fun l3 hl3 => ?_⟩
      have s3 := same_new (o := .lst ([.bl false, .bl true, .bl false, .bl false] ++ [.bl false, .bl true])) hl3
      exact q l3 _ ((s1.trans s2).free hl3) ((s1.trans s2).trans s3) upd_same
inductive Sp_law_put_ill (K : PySem.W.Frag) (vs : List V) (H : Hp) (Q : VK) (E : XK) : Prop
  | mk (p l b : Addr) (n : Nat) (pile : List Say) (c : Say) (h0 : vs = [.ref p, .ref b]) (h1 : BookAt K H p l n pile) (h2 : pile.length ≤ 400) (h3 : H b = some (.tup [.int c.1, .int c.2])) (h4 : c.1.natAbs < 10 ^ 30) (h5 : c.2.natAbs < 10 ^ 30) (h6 : ¬ (Lit n c.1 ∧ Lit n c.2)) (h7 : ∀ H', Same H H' → Q (.bl true) H') : Sp_law_put_ill K vs H Q E
noncomputable abbrev sp_law_put_ill (K : PySem.W.Frag) : Sp := fun vs H Q E => Sp_law_put_ill K vs H Q E
theorem sc_law_put_ill : FnScope ["book", "say", "e"] ["book", "say"] (defScope s_law_put_ill) := ⟨rfl, rfl, rfl, by decide +kernel, rfl, by decide +kernel, by decide +kernel⟩
set_option maxHeartbeats 4000000 in
theorem ok_law_put_ill {P : Program} {w : World} {K : PySem.W.Frag} {mg : Str → Option Value} {base : Heap} {t : Ad} (T : Tx K mg t) : FnOk P w K mg base CX0 2 t.f_law_put_ill t.d_law_put_ill ["book", "say"] (sp_law_put_ill K) := by
  have G_Book_add := ok_Book_add (P := P) (w := w) (base := base) T
  have G_law_which := ok_law_which (P := P) (w := w) (base := base) T
  refine T.F_law_put_ill.ok sc_law_put_ill (fun vs H Q E h => ?_) (fun cdv A outer s H vs Q E hr h => ?_)
  · obtain ⟨p, l, b, n, pile, c, rfl, B, hp, hb, w1, w2, nl, q⟩ := h
    rfl
  · obtain ⟨p, l, b, n, pile, c, rfl, B, hp, hb, w1, w2, nl, q⟩ := h
    have hu := hu_of hr
    refine ⟨_, (pss_cons (ps_tryT (i := 2) rfl rfl rfl (px_expr (px_meth (pv 0) T.cl_Book T.mt_Book_add G_Book_add (hr.mono (by decide)) T.b_Book_add .nil (pa_cons (pv 1) pa_nil))) rfl T.m_SayError T.x_SayError.ex sc_law_put_ill.nd rfl rfl (fun _ _ => (pss_one (ps_ret (pe_cmpR (op_eqD hr.units) (pe_callS G_law_which ((hr.mono (by decide)).suite _) rfl T.m_law_which T.F_law_which.kp T.b_law_which (pa_cons (pv 2) pa_nil)) (pe_lst (pa_cons pe_bl (pa_cons pe_bl (pa_cons pe_bl (pa_cons pe_bl (pa_cons pe_bl (pa_cons pe_bl pa_nil))))))) (nomark _))))))
      (pss_one (ps_ret pe_bl))), ?_⟩
    try dsimp only [cxOf]
    obtain ⟨dx, ho⟩ := B.at T.nn_Book
    try dsimp only [gName, tAsg, tRet, tNext, tDrop]
    refine seq_join (J := fun _ _ => False) (fun N hN => ?_) (fun _ _ z => z.elim)
    refine ⟨fun v _ H' => ∃ C, v = .ref C ∧ H' = H ∧ IsC K "BadSay" C, ?_, ?_⟩
    · exact ⟨_, rfl, p, dx, _, rfl, ho, bflds_no _ _ (by decide +kernel) (by decide +kernel), _, rfl, p, l, b, n, pile, c, rfl, B, hp, hb, w1, w2, fun l1 l2 _ _ _ _ => absurd ⟨l1, l2⟩ nl, fun _ C hC => ⟨C, rfl, rfl, hC⟩, fun l1 l2 _ _ _ => absurd ⟨l1, l2⟩ nl⟩
    · rintro C H' ⟨C', e, rfl, hC⟩
      cases e
      have cs : C = t.c_BadSay := hC.uniq T.n_BadSay
      subst cs
      refine ⟨T.x_BadSay.ex, T.s_BadSay_SayError, fun x hx => ?_⟩
      refine ⟨_, rfl, x, _, rfl, upd_same, .inl ⟨hC, fun l1 H1 hl1 s1 h1 => ?_⟩⟩
      refine ⟨(by show 6 ≤ sizeLine; decide), fun l2 hl2 => ?_⟩
      have s2 := same_new (o := .lst [.bl true, .bl false, .bl false, .bl false, .bl false, .bl true]) hl2
      refine ⟨dBools [true, false, false, false, false, true], dBools [true, false, false, false, false, true], .lst (s2 _ _ h1) (rd_bools [true, false, false, false, false, true]), .lst upd_same (rd_bools [true, false, false, false, false, true]), shaped_bools _, shaped_bools _, ?_⟩
      exact asV (eq_self_bl (shaped_bools _)) (q _ ((same_new hx).trans (s1.trans s2)))
inductive Sp_law_taken_ill (K : PySem.W.Frag) (vs : List V) (H : Hp) (Q : VK) (E : XK) : Prop
  | mk (p l : Addr) (n : Nat) (h0 : vs = [.ref p]) (h1 : BookAt K H p l n []) (h2 : ∀ H', Same H H' → Q (.bl true) H') : Sp_law_taken_ill K vs H Q E
noncomputable abbrev sp_law_taken_ill (K : PySem.W.Frag) : Sp := fun vs H Q E => Sp_law_taken_ill K vs H Q E
theorem sc_law_taken_ill : FnScope ["book", "e"] ["book"] (defScope s_law_taken_ill) := ⟨rfl, rfl, rfl, by decide +kernel, rfl, by decide +kernel, by decide +kernel⟩
set_option maxHeartbeats 4000000 in
theorem ok_law_taken_ill {P : Program} {w : World} {K : PySem.W.Frag} {mg : Str → Option Value} {base : Heap} {t : Ad} (T : Tx K mg t) : FnOk P w K mg base CX0 2 t.f_law_taken_ill t.d_law_taken_ill ["book"] (sp_law_taken_ill K) := by
  have G_Book_back := ok_Book_back (P := P) (w := w) (base := base) T
  have G_law_which := ok_law_which (P := P) (w := w) (base := base) T
  refine T.F_law_taken_ill.ok sc_law_taken_ill (fun vs H Q E h => ?_) (fun cdv A outer s H vs Q E hr h => ?_)
  · obtain ⟨p, l, n, rfl, B, q⟩ := h
    rfl
  · obtain ⟨p, l, n, rfl, B, q⟩ := h
    have hu := hu_of hr
    refine ⟨_, (pss_cons (ps_tryT (i := 1) rfl rfl rfl (px_expr (px_meth0 (pv 0) T.cl_Book T.mt_Book_back G_Book_back (hr.mono (by decide)) T.b_Book_back .nil)) rfl T.m_SayError T.x_SayError.ex sc_law_taken_ill.nd rfl rfl (fun _ _ => (pss_one (ps_ret (pe_cmpR (op_eqD hr.units) (pe_callS G_law_which ((hr.mono (by decide)).suite _) rfl T.m_law_which T.F_law_which.kp T.b_law_which (pa_cons (pv 1) pa_nil)) (pe_lst (pa_cons pe_bl (pa_cons pe_bl (pa_cons pe_bl (pa_cons pe_bl (pa_cons pe_bl (pa_cons pe_bl pa_nil))))))) (nomark _))))))
      (pss_one (ps_ret pe_bl))), ?_⟩
    try dsimp only [cxOf]
    obtain ⟨dx, ho⟩ := B.at T.nn_Book
    try dsimp only [gName, tAsg, tRet, tNext, tDrop]
    refine seq_join (J := fun _ _ => False) (fun N hN => ?_) (fun _ _ z => z.elim)
    refine ⟨fun v _ H' => ∃ C, v = .ref C ∧ H' = H ∧ IsC K "EmptyBook" C, ?_, ?_⟩
    · exact ⟨_, rfl, p, dx, _, rfl, ho, bflds_no _ _ (by decide +kernel) (by decide +kernel), p, l, n, [], rfl, B, by decide, fun _ _ _ _ e => (by simp at e), fun _ C hC => ⟨C, rfl, rfl, hC⟩⟩
    · rintro C H' ⟨C', e, rfl, hC⟩
      cases e
      have cs : C = t.c_EmptyBook := hC.uniq T.n_EmptyBook
      subst cs
      refine ⟨T.x_EmptyBook.ex, T.s_EmptyBook_SayError, fun x hx => ?_⟩
      refine ⟨_, rfl, x, _, rfl, upd_same, .inr ⟨hC, fun l1 H1 hl1 s1 h1 => ?_⟩⟩
      refine ⟨(by show 6 ≤ sizeLine; decide), fun l2 hl2 => ?_⟩
      have s2 := same_new (o := .lst [.bl false, .bl true, .bl false, .bl false, .bl false, .bl true]) hl2
      refine ⟨dBools [false, true, false, false, false, true], dBools [false, true, false, false, false, true], .lst (s2 _ _ h1) (rd_bools [false, true, false, false, false, true]), .lst upd_same (rd_bools [false, true, false, false, false, true]), shaped_bools _, shaped_bools _, ?_⟩
      exact asV (eq_self_bl (shaped_bools _)) (q _ ((same_new hx).trans (s1.trans s2)))
inductive Sp_law_deed (K : PySem.W.Frag) (vs : List V) (H : Hp) (Q : VK) (E : XK) : Prop
  | mk (p l lp : Addr) (n : Nat) (cell : Int) (pile : List Say) (h0 : vs = [.ref p, .ref lp, .int cell, .int n]) (h1 : BookAt K H p l n pile) (h2 : PileAt H lp pile) (h3 : l ≠ lp) (h4 : PileOk n pile) (h5 : pile.length ≤ 100) (h6 : 1 ≤ n) (h7 : n ≤ 20) (h8 : ∀ (pile' : List Say) (H' : Hp), BookAt K H' p l n pile' → PileAt H' lp pile' → PileOk n pile' → pile'.length ≤ pile.length + 1 → But2 l lp H H' → Q (.bl true) H') : Sp_law_deed K vs H Q E
noncomputable abbrev sp_law_deed (K : PySem.W.Frag) : Sp := fun vs H Q E => Sp_law_deed K vs H Q E
theorem sc_law_deed : FnScope ["book", "pile", "cell", "many", "say", "way", "beyond", "ill", "found"] ["book", "pile", "cell", "many"] (defScope s_law_deed) := ⟨rfl, rfl, rfl, by decide +kernel, rfl, by decide +kernel, by decide +kernel⟩
set_option maxHeartbeats 4000000 in
theorem ok_law_deed {P : Program} {w : World} {K : PySem.W.Frag} {mg : Str → Option Value} {base : Heap} {t : Ad} (T : Tx K mg t) : FnOk P w K mg base CX0 8 t.f_law_deed t.d_law_deed ["book", "pile", "cell", "many"] (sp_law_deed K) := by
  have G_Book_add := ok_Book_add (P := P) (w := w) (base := base) T
  have G_Book_back := ok_Book_back (P := P) (w := w) (base := base) T
  have G_Book_setting := ok_Book_setting (P := P) (w := w) (base := base) T
  have G_Book_ring := ok_Book_ring (P := P) (w := w) (base := base) T
  have G_law_lit_by := ok_law_lit_by (P := P) (w := w) (base := base) T
  have G_law_told := ok_law_told (P := P) (w := w) (base := base) T
  have G_law_asked := ok_law_asked (P := P) (w := w) (base := base) T
  have G_law_put_ill := ok_law_put_ill (P := P) (w := w) (base := base) T
  have G_law_taken_ill := ok_law_taken_ill (P := P) (w := w) (base := base) T
  refine T.F_law_deed.ok sc_law_deed (fun vs H Q E h => ?_) (fun cdv A outer s H vs Q E hr h => ?_)
  · obtain ⟨p, l, lp, n, cell, pile, rfl, B, P', nll, ok, hp, hn1, hn, q⟩ := h
    rfl
  · obtain ⟨p, l, lp, n, cell, pile, rfl, B, P', nll, ok, hp, hn1, hn, q⟩ := h
    have hu := hu_of hr
    refine ⟨_, (pss_cons (ps_set (i := 4) sc_law_deed.nd rfl (Or.inl rfl) (pe_tup (pa_cons (pe_call G_law_lit_by (hr.mono (by decide)) rfl T.m_law_lit_by T.F_law_lit_by.kp T.b_law_lit_by .nil pass0 (pa_cons (pe_op op_mod (pe_op op_fdiv (pv 2) pe_int) (pe_op op_mul pe_int (pv 3))) pa_nil)) (pa_cons (pe_call G_law_lit_by (hr.mono (by decide)) rfl T.m_law_lit_by T.F_law_lit_by.kp T.b_law_lit_by .nil pass0 (pa_cons (pe_op op_mod (pe_op op_fdiv (pv 2) (pe_op op_mul pe_int (pv 3))) (pe_op op_mul pe_int (pv 3))) pa_nil)) pa_nil))))
      (pss_cons (ps_set (i := 5) sc_law_deed.nd rfl (Or.inl rfl) (pe_op op_mod (pv 2) pe_int))
      (pss_cons (ps_if (pt_cmpR op_lt (pv 5) pe_int (nomark _)) (pss_cons (ps_expr (pe_bm PySem.F.plainAttrs_list PySem.F.slot_list_append PySem.F.type_list_append mt_append (pv 1) (pa_cons (pv 4) pa_nil)))
        (pss_one (ps_ret (pe_cmpR op_isN (pe_meth (pv 0) T.cl_Book T.mt_Book_add G_Book_add (hr.mono (by decide)) T.b_Book_add .nil pass10 (pa_cons (pv 4) pa_nil)) pe_non (nomark _))))) pss_nil)
      (pss_cons (ps_if (pt_cmpR op_eq (pv 5) pe_int (nomark _)) (pss_cons (ps_set (i := 6) sc_law_deed.nd rfl (Or.inl rfl) (pe_ix ix_list (pe_lst (pa_cons pe_int (pa_cons (pe_op op_add (pe_op op_add (pv 3) pe_int) (pe_op op_mod (pe_op op_fdiv (pv 2) pe_int) pe_int)) (pa_cons (pe_op op_sub (pe_un un_neg (pv 3)) pe_int) pa_nil)))) (pe_op op_mod (pe_op op_fdiv (pv 2) pe_int) pe_int) (fun _ _ => rfl)))
        (pss_cons (ps_set (i := 7) sc_law_deed.nd rfl (Or.inl rfl) (pe_ix ix_list (pe_lst (pa_cons (pe_tup (pa_cons (pe_ix ix_tup (pv 4) pe_int (fun _ _ => rfl)) (pa_cons (pv 6) pa_nil))) (pa_cons (pe_tup (pa_cons (pv 6) (pa_cons (pe_ix ix_tup (pv 4) pe_int (fun _ _ => rfl)) pa_nil))) pa_nil))) (pe_op op_mod (pe_op op_fdiv (pv 2) pe_int) pe_int) (fun _ _ => rfl)))
        (pss_one (ps_ret (pe_call G_law_put_ill (hr.mono (by decide)) rfl T.m_law_put_ill T.F_law_put_ill.kp T.b_law_put_ill .nil pass0 (pa_cons (pv 0) (pa_cons (pv 7) pa_nil))))))) pss_nil)
      (pss_cons (ps_if (pt_cmpR op_eq (pv 5) pe_int (nomark _)) (pss_cons (ps_if (pt_cmpR op_eq (pe_callB call_len_seq (by rfl) T.z_len PySem.boot_len (pa_cons (pv 1) pa_nil)) pe_int (nomark _)) (pss_one (ps_ret (pe_call G_law_taken_ill (hr.mono (by decide)) rfl T.m_law_taken_ill T.F_law_taken_ill.kp T.b_law_taken_ill .nil pass0 (pa_cons (pv 0) pa_nil)))) pss_nil)
        (pss_one (ps_ret (pe_cmpR (op_eqD hr.units) (pe_meth0 (pv 0) T.cl_Book T.mt_Book_back G_Book_back (hr.mono (by decide)) T.b_Book_back .nil pass10) (pe_bm0 PySem.F.plainAttrs_list PySem.F.slot_list_pop PySem.F.type_list_pop mt_pop (pv 1)) (nomark _))))) pss_nil)
      (pss_cons (ps_if (pt_cmpR op_eq (pv 5) pe_int (nomark _)) (pss_cons (ps_if (pt_not (pt_val (pe_call G_law_told (hr.mono (by decide)) rfl T.m_law_told T.F_law_told.kp T.b_law_told .nil pass0 (pa_cons (pv 0) (pa_cons (pv 1) pa_nil))))) (pss_one (ps_ret pe_bl)) pss_nil)
        (pss_cons (ps_for PassesOwn.never rfl (pi_list (pe_lst (pa_cons (pe_meth0 (pv 0) T.cl_Book T.mt_Book_setting G_Book_setting (hr.mono (by decide)) T.b_Book_setting .nil pass0) (pa_cons (pe_meth0 (pv 0) T.cl_Book T.mt_Book_ring G_Book_ring (hr.mono (by decide)) T.b_Book_ring .nil pass0) pa_nil)))) (pg_name (i := 8) sc_law_deed.nd rfl (Or.inl rfl))
          (pss_one (ps_if (pt_cmpR op_notN (pv 8) pe_non (nomark _)) (pss_one (ps_expr (pe_bm0 PySem.F.plainAttrs_list PySem.F.slot_list_clear PySem.F.type_list_clear mt_clear (pv 8)))) pss_nil)))
        (pss_one (ps_ret (pe_call G_law_told (hr.mono (by decide)) rfl T.m_law_told T.F_law_told.kp T.b_law_told .nil pass0 (pa_cons (pv 0) (pa_cons (pv 1) pa_nil))))))) pss_nil)
      (pss_one (ps_ret (pe_call G_law_asked (hr.mono (by decide)) rfl T.m_law_asked T.F_law_asked.kp T.b_law_asked .nil pass0 (pa_cons (pv 0) (pa_cons (pv 1) (pa_cons (pv 4) pa_nil)))))))))))), ?_⟩
    try dsimp only [cxOf]
    have h2n : (0 : Int) < 2 * (n : Int) := by omega
    have h16 : (0 : Int) < 16 * (n : Int) := by omega
    have h16m : (16 * (n : Int)) < 1073741824 := by omega
    refine seq_hide fun R hR => ?_
    try dsimp only [gName, tAsg, tRet, tNext, tDrop]
    refine ⟨_, rfl, _, _, rfl, rfl, ⟨by decide, by decide⟩, _, rfl, _, _, rfl, rfl, .inl ⟨by decide, by decide⟩, _, _, rfl, rfl, h2n, _, rfl, _, rfl, _, rfl, _, _, rfl, rfl, .inl ⟨by decide, by decide⟩, _, _, rfl, rfl, ⟨h16, h16m⟩, _, rfl, _, _, rfl, rfl, .inl ⟨by decide, by decide⟩, _, _, rfl, rfl, h2n, _, rfl, (by show 2 ≤ sizeLine; decide), fun b hb => ?_⟩
    dsimp only
    have lc1 : Lit n (litBy (cell / 8 % (2 * (n : Int)))) := litBy_lit hn1
    have lc2 : Lit n (litBy (cell / (16 * (n : Int)) % (2 * (n : Int)))) := litBy_lit hn1
    obtain ⟨c, ec⟩ : ∃ c : Say, c = (litBy (cell / 8 % (2 * (n : Int))), litBy (cell / (16 * (n : Int)) % (2 * (n : Int)))) := ⟨_, rfl⟩
    have ec1 : litBy (cell / 8 % (2 * (n : Int))) = c.1 := by rw [ec]
    have ec2 : litBy (cell / (16 * (n : Int)) % (2 * (n : Int))) = c.2 := by rw [ec]
    rw [ec1] at lc1
    rw [ec2] at lc2
    rw [ec1, ec2]
    have s1 := same_new (o := .tup [.int c.1, .int c.2]) hb
    have kb := upd_same (H := H) (a := b) (o := .tup [.int c.1, .int c.2])
    have B1 := B.same s1
    have P1 := P'.same s1
    clear ec ec1 ec2
    generalize upd H b (.tup [.int c.1, .int c.2]) = H1 at *
    obtain ⟨dx, ho⟩ := B1.at T.nn_Book
    obtain ⟨as, gp, htp⟩ := id P1
    obtain ⟨bs, gl, htl⟩ := id B1.pl
    have hal := htp.length
    have hbl := htl.length
    have calm : ∀ H', Same H1 H' → Q (.bl true) H' := fun H' s' => q pile H' (B1.same s') (P1.same s') ok (by omega) (But2.same (s1.trans s'))
    have b0 : b ≠ lp := ne_of kb gp (fun z => nomatch z)
    have b1 : b ≠ l := ne_of kb gl (fun z => nomatch z)
    try dsimp only [gName, tAsg, tRet, tNext, tDrop]
    subst hR
    refine seq_hide fun R hR => ?_
    try dsimp only [gName, tAsg, tRet, tNext, tDrop]
    refine ⟨_, rfl, _, _, rfl, rfl, (by show (0 : Int) < 8; decide), ?_⟩
    try dsimp only [gName, tAsg, tRet, tNext, tDrop]
    subst hR
    refine seq_hide fun R hR => ?_
    try dsimp only [gName, tAsg, tRet, tNext, tDrop]
    refine ⟨_, rfl, _, _, rfl, rfl, _, rfl, ?_⟩
    refine ite2 (fun _ => ?_) (fun _ => ?_)
    · -- put
      refine ⟨_, rfl, .inl ⟨rfl, _, SqL.of gp⟩, _, rfl, lp, _, _, rfl, rfl, gp, small1000 (by rw [List.length_map]; omega), ?_⟩
      have bu2 : But lp H1 (upd H1 lp (.lst (as.map V.ref ++ [.ref b]))) := fun x o e nx => by rw [upd_ne nx]; exact e
      have B2 := B1.but gp bu2 nll
      have P2 : PileAt (upd H1 lp (.lst (as.map V.ref ++ [.ref b]))) lp (pile ++ [c]) := ⟨as ++ [b], by rw [upd_same, List.map_append]; rfl, TupsAt.snoc (TupsAt.but gp bu2 htp) (bu2 _ _ kb b0)⟩
      have kb2 := bu2 _ _ kb b0
      generalize upd H1 lp (.lst (as.map V.ref ++ [.ref b])) = H2 at *
      obtain ⟨dx2, ho2⟩ := B2.at T.nn_Book
      obtain ⟨bs2, gl2, _⟩ := id B2.pl
      refine ⟨_, rfl, p, dx2, _, rfl, ho2, bflds_no _ _ (by decide +kernel) (by decide +kernel), _, rfl, p, l, b, n, pile, c, rfl, B2, by omega, kb2, lit_small lc1 (by omega), lit_small lc2 (by omega), fun _ _ _ H3 B3 bu3 => ?_, fun nl _ _ => nl ⟨lc1, lc2⟩, fun _ _ z _ _ => by omega⟩
      refine ⟨rfl, ?_⟩
      exact q (pile ++ [c]) H3 B3 (P2.but gl2 bu3 nll.symm) (pile_snoc ok lc1 lc2) (by rw [List.length_append]; exact Nat.le_refl _) fun x o e n1 n2 => bu3 x o (bu2 x o (s1 x o e) n2) n1
    try dsimp only [gName, tAsg, tRet, tNext, tDrop]
    subst hR
    refine seq_hide fun R hR => ?_
    try dsimp only [gName, tAsg, tRet, tNext, tDrop]
    refine ⟨_, rfl, rfl, _, rfl, ?_⟩
    refine ite2 (fun _ => ?_) (fun _ => ?_)
    · -- an ill one
      refine ⟨_, rfl, _, _, rfl, rfl, _, rfl, _, _, rfl, rfl, ⟨by decide, by decide⟩, _, _, rfl, rfl, (by show (0 : Int) < 1000; decide), _, _, rfl, rfl, _, rfl, _, rfl, _, _, rfl, rfl, (by show 3 ≤ sizeLine; decide), fun li hli => ?_⟩
      obtain ⟨z, atz, nlz, wz⟩ := beyond_of (n := n) cell
      have wz := wz (by omega)
      have s2 := same_new (o := .lst [V.int 0, V.int ((n : Int) + 1 + cell / 64 % 1000), V.int (-(n : Int) - 1)]) hli
      refine ⟨_, rfl, _, _, rfl, rfl, ⟨by decide, by decide⟩, _, _, rfl, rfl, (by show (0 : Int) < 3; decide), li, _, _, _, rfl, rfl, SqL.of upd_same, atz, ?_⟩
      have B2 := B1.same s2
      have P2 := P1.same s2
      have kb2 := s2 _ _ kb
      have s02 := s2
      clear s2
      generalize upd H1 li (.lst [V.int 0, V.int ((n : Int) + 1 + cell / 64 % 1000), V.int (-(n : Int) - 1)]) = H2 at *
      refine ⟨_, rfl, b, _, _, _, rfl, rfl, SqT.of kb2, rfl, _, rfl, (by show 2 ≤ sizeLine; decide), fun p1 hp1 => ?_⟩
      have s3 := same_new (o := .tup [.int c.1, .int z]) hp1
      refine ⟨_, rfl, _, rfl, b, _, _, _, rfl, rfl, SqT.of (s3 _ _ kb2), rfl, (by show 2 ≤ sizeLine; decide), fun p2 hp2 => ?_⟩
      have s4 := same_new (o := .tup [.int z, .int c.1]) hp2
      refine ⟨(by show 2 ≤ sizeLine; decide), fun l2 hl2 => ?_⟩
      have s5 := same_new (o := .lst [.ref p1, .ref p2]) hl2
      have k1 := s5 _ _ (s4 _ _ (upd_same (H := H2) (a := p1) (o := .tup [.int c.1, .int z])))
      have k2 := s5 _ _ (upd_same (H := upd H2 p1 (.tup [.int c.1, .int z])) (a := p2) (o := .tup [.int z, .int c.1]))
      have k3 := upd_same (H := upd (upd H2 p1 (.tup [.int c.1, .int z])) p2 (.tup [.int z, .int c.1])) (a := l2) (o := .lst [.ref p1, .ref p2])
      have s25 := (s3.trans s4).trans s5
      clear s3 s4 s5
      generalize upd (upd (upd H2 p1 (.tup [.int c.1, .int z])) p2 (.tup [.int z, .int c.1])) l2 (.lst [.ref p1, .ref p2]) = H5 at *
      have s15 := s02.trans s25
      rcases two_of V.ref p1 p2 (cell / 24) with at2 | at2
      · refine ⟨_, rfl, _, _, rfl, rfl, ⟨by decide, by decide⟩, _, _, rfl, rfl, (by show (0 : Int) < 2; decide), l2, _, _, _, rfl, rfl, SqL.of k3, at2, ?_⟩
        exact ⟨_, rfl, _, rfl, p, l, p1, n, pile, (c.1, z), rfl, B1.same s15, by omega, k1, lit_small lc1 (by omega), wz, (fun h => nlz h.2), fun H6 s6 => calm H6 (s15.trans s6)⟩
      · refine ⟨_, rfl, _, _, rfl, rfl, ⟨by decide, by decide⟩, _, _, rfl, rfl, (by show (0 : Int) < 2; decide), l2, _, _, _, rfl, rfl, SqL.of k3, at2, ?_⟩
        exact ⟨_, rfl, _, rfl, p, l, p2, n, pile, (z, c.1), rfl, B1.same s15, by omega, k2, wz, lit_small lc1 (by omega), (fun h => nlz h.1), fun H6 s6 => calm H6 (s15.trans s6)⟩
    try dsimp only [gName, tAsg, tRet, tNext, tDrop]
    subst hR
    refine seq_hide fun R hR => ?_
    try dsimp only [gName, tAsg, tRet, tNext, tDrop]
    refine ⟨_, rfl, rfl, _, rfl, ?_⟩
    refine ite2 (fun _ => ?_) (fun _ => ?_)
    · -- taken back
      refine ⟨_, rfl, lp, _, rfl, .inl (SqL.of gp), rfl, _, rfl, ?_⟩
      dsimp only
      rw [dec_int, List.length_map, hal]
      refine ite2 (fun e => ?_) (fun e => ?_)
      · have e0 : pile = [] := List.length_eq_zero_iff.mp (by have := eq_of_beq e; omega)
        subst e0
        exact ⟨_, rfl, p, l, n, rfl, B1, calm⟩
      · refine ⟨_, rfl, p, dx, _, rfl, ho, bflds_no _ _ (by decide +kernel) (by decide +kernel), p, l, n, pile, rfl, B1, by omega, fun q' c' b' H2 eq hb' B2 bu2 => ?_, fun z => absurd (show ((pile.length : Int) == 0) = true by rw [z]; rfl) e⟩
        have gp2 := bu2 _ _ gp nll.symm
        have htp2 := TupsAt.but gl bu2 htp
        have hb2 := bu2 _ _ hb' (ne_of hb' gl (fun z => nomatch z))
        subst eq
        rw [List.length_append, List.length_singleton] at hal
        have hne : as ≠ [] := fun z => by rw [z] at hal; simp at hal
        obtain ⟨as', b2, ea⟩ : ∃ as' b, as = as' ++ [b] := ⟨as.dropLast, as.getLast hne, (List.dropLast_concat_getLast hne).symm⟩
        subst ea
        have ht' : TupsAt H2 as' q' := by
          have := htp2.dropLast
          rw [List.dropLast_concat, List.dropLast_concat] at this
          exact this
        have hbb : H2 b2 = some (.tup [.int c'.1, .int c'.2]) := by
          have hi : ((as' ++ [b2]).map V.ref)[as'.length]? = some (V.ref b2) := by rw [List.getElem?_map, List.getElem?_append_right (Nat.le_refl _), Nat.sub_self]; rfl
          obtain ⟨b'', c'', e1, _, e3, e4⟩ := htp2.get hi
          cases e1
          have hq : as'.length = q'.length := ht'.length
          rw [hq, List.getElem?_append_right (Nat.le_refl _), Nat.sub_self] at e3
          cases e3
          exact e4
        have eft : (as' ++ [b2]).map V.ref = as'.map V.ref ++ [V.ref b2] := by rw [List.map_append]; rfl
        rw [eft] at gp2
        refine ⟨_, rfl, .inl ⟨rfl, _, SqL.of gp2⟩, lp, _, V.ref b2, rfl, rfl, gp2, ?_, ?_⟩
        · rw [List.length_append, List.length_singleton, Nat.add_sub_cancel, List.getElem?_append_right (Nat.le_refl _), Nat.sub_self]
          rfl
        · rw [List.dropLast_concat]
          have bu3 : But lp H2 (upd H2 lp (.lst (as'.map V.ref))) := fun x o e nx => by rw [upd_ne nx]; exact e
          refine ⟨dSay c', dSay c', .tup (bu3 _ _ hb2 (ne_of hb2 gp2 (fun z => nomatch z))) (.cons (.int _) (.cons (.int _) .nil)), .tup (bu3 _ _ hbb (ne_of hbb gp2 (fun z => nomatch z))) (.cons (.int _) (.cons (.int _) .nil)), shaped_say _, shaped_say _, ?_⟩
          refine asV (eq_self_bl (shaped_say _)) (q q' _ (B2.but gp2 bu3 nll) ⟨as', upd_same, TupsAt.but gp2 bu3 ht'⟩ (fun d hd => ok d (List.mem_append_left _ hd)) (by rw [List.length_append]; omega) fun x o e n1 n2 => bu3 x o (bu2 x o (s1 x o e) n1) n2)
    try dsimp only [gName, tAsg, tRet, tNext, tDrop]
    subst hR
    refine seq_hide fun R hR => ?_
    try dsimp only [gName, tAsg, tRet, tNext, tDrop]
    refine ⟨_, rfl, rfl, _, rfl, ?_⟩
    refine ite2 (fun _ => ?_) (fun _ => ?_)
    · -- told, and what is told is cleared
      refine ⟨_, rfl, _, rfl, p, l, lp, n, pile, rfl, B1, P1, by omega, ok, by omega, fun H2 s2 => ⟨_, rfl, iteF ?_⟩⟩
      try dsimp only [gName, tAsg, tRet, tNext, tDrop]
      refine seq_join (J := fun σ' H' => ∃ v vw, σ' = [some (.ref p), some (.ref lp), some (.int cell), some (.int n), some (.ref b), vw, none, none, v] ∧ Same H1 H') (fun N hN => ?_) ?_
      · refine ⟨_, rfl, p, dx, _, rfl, s2 _ _ ho, bflds_no _ _ (by decide +kernel) (by decide +kernel), p, l, n, pile, rfl, B1.same s2, by omega, ok, by omega, fun v1 H3 s3 a1 => ?_⟩
        refine ⟨_, rfl, p, dx, _, rfl, s3 _ _ (s2 _ _ ho), bflds_no _ _ (by decide +kernel) (by decide +kernel), p, l, n, pile, rfl, (B1.same s2).same s3, by omega, ok, by omega, fun v2 H4 s4 a2 => ?_⟩
        refine ⟨(by show 2 ≤ sizeLine; decide), fun ll hll => ?_⟩
        have s5 := same_new (o := .lst [v1, v2]) hll
        have n1 : NewL H1 (upd H4 ll (.lst [v1, v2])) v1 := by
          rcases a1.newl with e | ⟨x, xs, e, h1, h2⟩
          · exact .inl e
          · exact .inr ⟨x, xs, e, s2.free h1, s5 _ _ (s4 _ _ h2)⟩
        have n2 : NewL H1 (upd H4 ll (.lst [v1, v2])) v2 := by
          rcases a2.newl with e | ⟨x, xs, e, h1, h2⟩
          · exact .inl e
          · exact .inr ⟨x, xs, e, s2.free (s3.free h1), s5 _ _ h2⟩
        have m1 : ∀ x, v1 = .ref x → x ≠ ll := fun x e z => by
          rcases a1.newl with e' | ⟨y, xs, e', h1, h2⟩
          · rw [e] at e'; cases e'
          · rw [e] at e'; cases e'
            exact ne_of_none (s4 _ _ h2) hll z
        have m2 : ∀ x, v2 = .ref x → x ≠ ll := fun x e z => by
          rcases a2.newl with e' | ⟨y, xs, e', h1, h2⟩
          · rw [e] at e'; cases e'
          · rw [e] at e'; cases e'
            exact ne_of_none h2 hll z
        have hll1 : H1 ll = none := s2.free (s3.free (s4.free hll))
        have s15 := ((s2.trans s3).trans s4).trans s5
        have k5 := upd_same (H := H4) (a := ll) (o := .lst [v1, v2])
        clear s5
        generalize upd H4 ll (.lst [v1, v2]) = H5 at *
        refine ⟨ll, rfl, ⟨_, SqL.of k5⟩, for_list (K := K) (a := ll) (xs := [v1, v2]) (fun i σ H6 => (∃ v vw, σ = [some (.ref p), some (.ref lp), some (.int cell), some (.int n), some (.ref b), vw, none, none, v]) ∧ Same H1 H6 ∧ H6 ll = some (.lst [v1, v2]) ∧ NewL H1 H6 v1 ∧ NewL H1 H6 v2)
          ⟨⟨_, _, rfl⟩, s15, k5, n1, n2⟩ (fun i σ H6 _ ⟨_, _, e, _⟩ => SqL.of e) ?_ ?_⟩
        · rintro i y σ H6 hi ⟨⟨v, vw, rfl⟩, s6, k6, e1, e2⟩
          have ey : (y = v1 ∨ y = v2) := by
            have := List.mem_of_getElem? hi
            simpa using this
          have ny : NewL H1 H6 y := by rcases ey with rfl | rfl <;> assumption
          have my : ∀ x, y = .ref x → x ≠ ll := by rcases ey with rfl | rfl <;> assumption
          rcases ny with rfl | ⟨x, xs, rfl, h1, h2⟩
          · exact ⟨_, rfl, rfl, _, rfl, iteF ⟨⟨_, _, rfl⟩, s6, k6, e1, e2⟩⟩
          · refine ⟨_, rfl, rfl, _, rfl, iteT ?_⟩
            refine ⟨_, rfl, .inl ⟨rfl, _, SqL.of h2⟩, x, _, rfl, rfl, h2, ?_⟩
            exact ⟨⟨_, _, rfl⟩, same_upd s6 h1, by rw [upd_ne (my x rfl).symm]; exact k6, e1.upd, e2.upd⟩
        · rintro σ H6 ⟨⟨v, vw, rfl⟩, s6, _⟩
          exact hN _ _ ⟨v, vw, rfl, s6⟩
      · rintro σ' H3 ⟨v, vw, rfl, s3⟩
        exact ⟨_, rfl, _, rfl, p, l, lp, n, pile, rfl, B1.same s3, P1.same s3, by omega, ok, by omega, fun H4 s4 => calm H4 (s3.trans s4)⟩
    · subst hR
      exact ⟨_, rfl, _, rfl, _, rfl, p, l, lp, b, n, pile, c, rfl, B1, P1, by omega, ok, by omega, kb, lc1, lc2, calm⟩
inductive Sp_law (K : PySem.W.Frag) (vs : List V) (H : Hp) (Q : VK) (E : XK) : Prop
  | mk (a : Addr) (ns : List Int) (h0 : vs = [.ref a]) (h1 : SqL K H a (ns.map V.int)) (h2 : ns.length ≤ 63) (h3 : ∀ H', Q (.bl true) H') : Sp_law K vs H Q E
noncomputable abbrev sp_law (K : PySem.W.Frag) : Sp := fun vs H Q E => Sp_law K vs H Q E
theorem sc_law : FnScope ["script", "many", "book", "other", "pile", "k", "found"] ["script"] (defScope s_law) := ⟨rfl, rfl, rfl, by decide +kernel, rfl, by decide +kernel, by decide +kernel⟩
set_option maxHeartbeats 4000000 in
theorem ok_law {P : Program} {w : World} {K : PySem.W.Frag} {mg : Str → Option Value} {base : Heap} {t : Ad} (T : Tx K mg t) : FnOk P w K mg base CX0 9 t.f_law t.d_law ["script"] (sp_law K) := by
  have G_Book_init := ok_Book_init (P := P) (w := w) (base := base) T
  have G_Book_says := ok_Book_says (P := P) (w := w) (base := base) T
  have G_Book_setting := ok_Book_setting (P := P) (w := w) (base := base) T
  have G_Book_ring := ok_Book_ring (P := P) (w := w) (base := base) T
  have G_law_cell_at := ok_law_cell_at (P := P) (w := w) (base := base) T
  have G_law_whole := ok_law_whole (P := P) (w := w) (base := base) T
  have G_law_told := ok_law_told (P := P) (w := w) (base := base) T
  have G_law_deed := ok_law_deed (P := P) (w := w) (base := base) T
  refine T.F_law.ok sc_law (fun vs H Q E h => ?_) (fun cdv A outer s H vs Q E hr h => ?_)
  · obtain ⟨a, ns, rfl, hS, hlen, k⟩ := h
    rfl
  · obtain ⟨a, ns, rfl, hS, hlen, k⟩ := h
    have hu := hu_of hr
    refine ⟨_, (pss_cons (ps_set (i := 1) sc_law.nd rfl (Or.inl rfl) (pe_op op_add pe_int (pe_op op_mod (pe_call G_law_cell_at (hr.mono (by decide)) rfl T.m_law_cell_at T.F_law_cell_at.kp T.b_law_cell_at .nil pass0 (pa_cons (pv 0) (pa_cons pe_int pa_nil))) pe_int)))
      (pss_cons (ps_if (pt_cmpR op_eq (pe_op op_mod (pe_op op_fdiv (pe_call G_law_cell_at (hr.mono (by decide)) rfl T.m_law_cell_at T.F_law_cell_at.kp T.b_law_cell_at .nil pass0 (pa_cons (pv 0) (pa_cons pe_int pa_nil))) pe_int) pe_int) pe_int (nomark _)) (pss_one (ps_set (i := 1) sc_law.nd rfl (Or.inl rfl) (pe_op op_add pe_int (pe_op op_mod (pe_op op_fdiv (pe_call G_law_cell_at (hr.mono (by decide)) rfl T.m_law_cell_at T.F_law_cell_at.kp T.b_law_cell_at .nil pass0 (pa_cons (pv 0) (pa_cons pe_int pa_nil))) pe_int) pe_int)))) pss_nil)
      (pss_cons (ps_set (i := 2) sc_law.nd rfl (Or.inl rfl) (pe_make T.mk_Book G_Book_init (hr.mono (by decide)) rfl T.m_Book T.b_Book_init .nil pass0 (pa_cons (pv 1) pa_nil)))
      (pss_cons (ps_set (i := 3) sc_law.nd rfl (Or.inl rfl) (pe_make T.mk_Book G_Book_init (hr.mono (by decide)) rfl T.m_Book T.b_Book_init .nil pass0 (pa_cons (pv 1) pa_nil)))
      (pss_cons (ps_set (i := 4) sc_law.nd rfl (Or.inl rfl) (pe_lst pa_nil))
      (pss_cons (ps_for PassesOwn.never rfl (pi_range1 rfl T.z_range (pa_cons (pe_op op_mod (pe_call G_law_cell_at (hr.mono (by decide)) rfl T.m_law_cell_at T.F_law_cell_at.kp T.b_law_cell_at .nil pass0 (pa_cons (pv 0) (pa_cons pe_int pa_nil))) pe_int) pa_nil)) (pg_name (i := 5) sc_law.nd rfl (Or.inl rfl))
        (pss_cons (ps_if (pt_not (pt_val (pe_call G_law_deed (hr.mono (by decide)) rfl T.m_law_deed T.F_law_deed.kp T.b_law_deed .nil pass0 (pa_cons (pv 2) (pa_cons (pv 4) (pa_cons (pe_call G_law_cell_at (hr.mono (by decide)) rfl T.m_law_cell_at T.F_law_cell_at.kp T.b_law_cell_at .nil pass0 (pa_cons (pv 0) (pa_cons (pe_op op_add pe_int (pv 5)) pa_nil))) (pa_cons (pv 1) pa_nil))))))) (pss_one (ps_ret pe_bl)) pss_nil)
        (pss_cons (ps_set (i := 6) sc_law.nd rfl (Or.inl rfl) (pe_meth0 (pv 2) T.cl_Book T.mt_Book_says G_Book_says (hr.mono (by decide)) T.b_Book_says .nil pass0))
        (pss_cons (ps_if (PW.pt (pw_or (pt_not (pt_val (pe_callB call_isi (by rfl) T.z_isinstance (show bootBuiltins "isinstance" = _ by decide +kernel) (pa_cons (pv 6) (pa_cons (pe_bltn (v := .ty "list") (by rfl) T.z_list (show bootBuiltins "list" = _ by decide +kernel) rfl) pa_nil))))) (pw_or (pt_cmpR (op_neD hr.units) (pv 6) (pv 4) (nomark _)) (pw_or1 (pt_cmpR (op_neD hr.units) (pe_meth0 (pv 3) T.cl_Book T.mt_Book_says G_Book_says (hr.mono (by decide)) T.b_Book_says .nil pass0) (pe_lst pa_nil) (nomark _)))))) (pss_one (ps_ret pe_bl)) pss_nil)
        (pss_one (ps_expr (pe_bm PySem.F.plainAttrs_list PySem.F.slot_list_append PySem.F.type_list_append mt_append (pv 6) (pa_cons (pe_tup (pa_cons pe_int (pa_cons pe_int pa_nil))) pa_nil))))))))
      (pss_cons (ps_if (PW.pt (pw_or (pt_not (pt_val (pe_call G_law_whole (hr.mono (by decide)) rfl T.m_law_whole T.F_law_whole.kp T.b_law_whole .nil pass0 (pa_cons (pe_fld (pv 2) rfl) pa_nil)))) (pw_or1 (pt_cmpR op_ne (pe_fld (pv 2) rfl) (pv 1) (nomark _))))) (pss_one (ps_ret pe_bl)) pss_nil)
      (pss_one (ps_ret (pe_and (pe_call G_law_told (hr.mono (by decide)) rfl T.m_law_told T.F_law_told.kp T.b_law_told .nil pass0 (pa_cons (pv 2) (pa_cons (pv 4) pa_nil))) (pe_and (pe_cmpR (op_eqD hr.units) (pe_meth0 (pv 3) T.cl_Book T.mt_Book_setting G_Book_setting (hr.mono (by decide)) T.b_Book_setting .nil pass0) (pe_op op_rep (pe_lst (pa_cons pe_bl pa_nil)) (pv 1)) (nomark _)) (pe_one (pe_cmpR op_isN (pe_meth0 (pv 3) T.cl_Book T.mt_Book_ring G_Book_ring (hr.mono (by decide)) T.b_Book_ring .nil pass0) pe_non (nomark _)))))))))))))), ?_⟩
    try dsimp only [cxOf]
    obtain ⟨n0, hn01, hn02, en0⟩ := many_of (ns.getD 0 0) (m := 7) (by decide)
    refine seq_hide fun R hR => ?_
    try dsimp only [gName, tAsg, tRet, tNext, tDrop]
    refine ⟨_, rfl, a, _, _, rfl, hS, (by decide), _, _, rfl, rfl, (by show (0 : Int) < 7; decide), _, _, rfl, rfl, ?_⟩
    dsimp only
    rw [show (1 : Int) + ns.getD (Int.toNat 0) 0 % 7 = (n0 : Int) from en0]
    try dsimp only [gName, tAsg, tRet, tNext, tDrop]
    subst hR
    refine seq_hide fun R hR => ?_
    try dsimp only [gName, tAsg, tRet, tNext, tDrop]
    refine seq_join (J := fun σ' H' => H' = H ∧ ∃ n : Nat, 1 ≤ n ∧ n ≤ 20 ∧ σ' = [some (.ref a), some (.int n), none, none, none, none, none]) (fun N hN => ?_) ?_
    · refine ⟨_, rfl, a, _, _, rfl, hS, (by decide), _, _, rfl, rfl, ⟨by decide, by decide⟩, _, _, rfl, rfl, (by show (0 : Int) < 8; decide), rfl, _, rfl, ?_⟩
      refine ite2 (fun _ => ?_) (fun _ => hN _ _ ⟨rfl, n0, hn01, by omega, rfl⟩)
      obtain ⟨c2, hc2, ec2⟩ := rest_of (ns.getD (0 : Int).toNat 0 / 56) (m := 13) (by decide)
      refine ⟨_, rfl, a, _, _, rfl, hS, (by decide), _, _, rfl, rfl, ⟨by decide, by decide⟩, _, _, rfl, rfl, (by show (0 : Int) < 13; decide), _, _, rfl, rfl, ?_⟩
      dsimp only
      rw [show (8 : Int) + ns.getD (Int.toNat 0) 0 / 56 % 13 = ((8 + c2 : Nat) : Int) by have : ns.getD (Int.toNat 0) 0 / 56 % 13 = (c2 : Int) := ec2; omega]
      exact hN _ _ ⟨rfl, 8 + c2, by omega, by omega, rfl⟩
    rintro σ' H' ⟨rfl, n, hn1, hn, rfl⟩
    subst hR
    refine seq_hide fun R hR => ?_
    try dsimp only [gName, tAsg, tRet, tNext, tDrop]
    refine ⟨_, rfl, fun x dx nx ndx nex => ?_⟩
    refine ⟨x, t.c_Book, dx, n, rfl, T.nn_Book, upd_same, fun l H2 hl B2 kp => ⟨rfl, ?_⟩⟩
    have s0 : Same H' (upd (upd H' dx (.own x)) x (.ins t.c_Book dx [])) := fun b o e => by
      rw [upd_ne (ne_of_none e nx), upd_ne (ne_of_none e ndx)]
      exact e
    have s2 : Same H' H2 := fun b o e => kp b o (s0 b o e) (ne_of_none e nx)
    have nl1 : H' l = none := s0.free hl
    clear s0 kp hl
    try dsimp only [gName, tAsg, tRet, tNext, tDrop]
    subst hR
    refine seq_hide fun R hR => ?_
    try dsimp only [gName, tAsg, tRet, tNext, tDrop]
    refine ⟨_, rfl, fun y dy ny ndy ney => ?_⟩
    refine ⟨y, t.c_Book, dy, n, rfl, T.nn_Book, upd_same, fun m H3 hm B3 kp => ⟨rfl, ?_⟩⟩
    have s0 : Same H2 (upd (upd H2 dy (.own y)) y (.ins t.c_Book dy [])) := fun b o e => by
      rw [upd_ne (ne_of_none e ny), upd_ne (ne_of_none e ndy)]
      exact e
    have s3 : Same H2 H3 := fun b o e => kp b o (s0 b o e) (ne_of_none e ny)
    have nm2 : H2 m = none := s0.free hm
    clear s0 kp hm
    try dsimp only [gName, tAsg, tRet, tNext, tDrop]
    subst hR
    refine seq_hide fun R hR => ?_
    try dsimp only [gName, tAsg, tRet, tNext, tDrop]
    have B23 := B2.same s3
    have s13 := s2.trans s3
    obtain ⟨_, gl0, _⟩ := id B23.pl
    obtain ⟨_, gm0, _⟩ := id B3.pl
    obtain ⟨_, gl2, _⟩ := id B2.pl
    have nlm : l ≠ m := ne_of_none gl2 nm2
    refine ⟨(by show 0 ≤ sizeLine; decide), fun lp hlp => ?_⟩
    have s4 := same_new (o := .lst []) hlp
    have P4 : PileAt (upd H3 lp (.lst [])) lp [] := ⟨[], upd_same, .nil⟩
    have B4 := B23.same s4
    have M4 := B3.same s4
    have nlp : l ≠ lp := ne_of_none gl0 hlp
    have nmp : m ≠ lp := ne_of_none gm0 hlp
    have s14 := s13.trans s4
    have nlp1 : H' lp = none := s13.free hlp
    clear s4
    generalize upd H3 lp (.lst []) = H4 at *
    obtain ⟨c1, hc1, ec1⟩ := rest_of (ns.getD (1 : Int).toNat 0) (m := 15) (by decide)
    try dsimp only [gName, tAsg, tRet, tNext, tDrop]
    subst hR
    refine seq_hide fun R hR => ?_
    try dsimp only [gName, tAsg, tRet, tNext, tDrop]
    refine seq_join (J := fun σ' H5 => ∃ (pile : List Say) (vk vf : Option V), σ' = [some (.ref a), some (.int n), some (.ref x), some (.ref y), some (.ref lp), vk, vf] ∧ BookAt K H5 x l n pile ∧ BookAt K H5 y m n [] ∧ PileAt H5 lp pile ∧ PileOk n pile ∧ pile.length ≤ 100) (fun N hN => ?_) ?_
    · refine ⟨_, rfl, a, _, _, rfl, s14.seq hS, (by decide), _, _, rfl, rfl, (by show (0 : Int) < 15; decide), ?_⟩
      dsimp only
      rw [show ns.getD (Int.toNat 1) 0 % 15 = (c1 : Int) from ec1]
      refine ⟨c1, rfl, by omega, by omega, for_range (lo := 0) (n := c1) (D := { nx := N, rt := Q }) (fun i σ H5 => ∃ (pile : List Say) (vk vf : Option V), σ = [some (.ref a), some (.int n), some (.ref x), some (.ref y), some (.ref lp), vk, vf] ∧ BookAt K H5 x l n pile ∧ BookAt K H5 y m n [] ∧ PileAt H5 lp pile ∧ PileOk n pile ∧ pile.length ≤ i ∧ Same H' H5)
        ⟨[], none, none, rfl, B4, M4, P4, ok_empty n, Nat.le_refl _, s14⟩ ?_ ?_⟩
      · rintro i σ H5 hi ⟨pile, vk, vf, rfl, B5, M5, P5, ok, hp, s5⟩
        obtain ⟨asl, gl5, _⟩ := id B5.pl
        obtain ⟨asp, gp5, htp5⟩ := id P5
        refine ⟨_, rfl, _, rfl, _, rfl, _, rfl, _, _, rfl, rfl, a, _, ns, rfl, s5.seq hS, (by show (0 : Int) ≤ 2 + (0 + (i : Int)); omega), _, rfl, x, l, lp, n, _, pile, rfl, B5, P5, nlp, ok, by omega, hn1, hn, fun pile' H6 B6 P6 ok6 hp6 bu6 => ⟨_, rfl, iteF ?_⟩⟩
        have s6 : Same H' H6 := fun b o e => bu6 b o (s5 b o e) (ne_of_none e nl1) (ne_of_none e nlp1)
        obtain ⟨dy5, hy5⟩ := M5.at T.nn_Book
        obtain ⟨asm, gm5, htm5⟩ := id M5.pl
        have easm : asm = [] := List.length_eq_zero_iff.mp htm5.length
        subst easm
        have hy6 := bu6 _ _ hy5 (ne_of hy5 gl5 (fun z => by cases z)) (ne_of hy5 gp5 (fun z => by cases z))
        have gm6 := bu6 _ _ gm5 nlm.symm nmp
        have M6 : BookAt K H6 y m n [] := ⟨⟨_, dy5, T.nn_Book, hy6⟩, ⟨[], gm6, .nil⟩⟩
        obtain ⟨dx6, hx6⟩ := B6.at T.nn_Book
        refine ⟨_, rfl, x, dx6, _, rfl, hx6, bflds_no _ _ (by decide +kernel) (by decide +kernel), x, l, n, pile', rfl, B6, fun lf H7 hlf s7 P7 => ?_⟩
        obtain ⟨af, gf, htf⟩ := id P7
        refine ⟨_, rfl, _, _, _, _, rfl, .lst gf, rfl, _, rfl, iteF ?_⟩
        refine ⟨_, rfl, _, rfl, dPile pile', dPile pile', P7.rd, (P6.same s7).rd, shaped_pile _, shaped_pile _, _, rfl, ?_⟩
        rw [ne_pile_self]
        refine iteF ⟨_, rfl, y, dy5, _, rfl, s7 _ _ hy6, bflds_no _ _ (by decide +kernel) (by decide +kernel), y, m, n, [], rfl, M6.same s7, fun le H8 hle s8 P8 => ?_⟩
        refine ⟨(by show 0 ≤ sizeLine; decide), fun lz hlz => ?_⟩
        have s9 := same_new (o := .lst []) hlz
        refine ⟨dPile [], dPile [], (P8.same s9).rd, (PileAt.to (as := []) upd_same .nil).rd, shaped_pile _, shaped_pile _, _, rfl, ?_⟩
        rw [ne_pile_self]
        refine iteF ?_
        have s79 := s8.trans s9
        generalize upd H8 lz (.lst []) = H9 at *
        have gf9 := s79 _ _ gf
        refine ⟨_, rfl, .inl ⟨rfl, _, SqL.of gf9⟩, (by show 2 ≤ sizeLine; decide), fun tp htp => ?_⟩
        have s10 := same_new (o := .tup [.int 1, .int 1]) htp
        have lfl := htf.length
        refine ⟨lf, _, _, rfl, rfl, s10 _ _ gf9, small1000 (by rw [List.length_map]; omega), ?_⟩
        have s610 : Same H6 (upd (upd H9 tp (.tup [.int 1, .int 1])) lf (.lst (af.map V.ref ++ [.ref tp]))) := same_upd ((s7.trans s79).trans s10) hlf
        exact ⟨pile', _, _, rfl, B6.same s610, M6.same s610, P6.same s610, ok6, by omega, s6.trans s610⟩
      · rintro σ H5 ⟨pile, vk, vf, rfl, B5, M5, P5, ok, hp, s5⟩
        exact hN _ _ ⟨pile, vk, vf, rfl, B5, M5, P5, ok, by omega⟩
    rintro σ' H5 ⟨pile, vk, vf, rfl, B5, M5, P5, ok, hp⟩
    subst hR
    refine seq_hide fun R hR => ?_
    try dsimp only [gName, tAsg, tRet, tNext, tDrop]
    obtain ⟨dx5, hx5⟩ := B5.at T.nn_Book
    refine ⟨_, rfl, x, _, dx5, _, _, rfl, hx5, T.cl_Book, T.nf_many, bflds_many _ _, n, rfl, _, rfl, iteF ?_⟩
    refine ⟨_, rfl, x, _, dx5, _, _, rfl, hx5, T.cl_Book, T.nf_many, bflds_many _ _, _, rfl, rfl, _, rfl, iteNS rfl ?_⟩
    try dsimp only [gName, tAsg, tRet, tNext, tDrop]
    subst hR
    try dsimp only [gName, tAsg, tRet, tNext, tDrop]
    refine ⟨_, rfl, _, rfl, x, l, lp, n, pile, rfl, B5, P5, by omega, ok, by omega, fun H6 s6 => ⟨_, rfl, iteT ?_⟩⟩
    obtain ⟨dy5, hy5⟩ := M5.at T.nn_Book
    refine ⟨_, rfl, y, dy5, _, rfl, s6 _ _ hy5, bflds_no _ _ (by decide +kernel) (by decide +kernel), y, m, n, [], rfl, M5.same s6, by decide, ok_empty n, by omega, fun v1 H7 s7 a1 => ?_⟩
    rcases a1 with ⟨rfl, f1⟩ | ⟨lb, S, rfl, hlb, h7, f1⟩
    · exact (first_some_empty f1).elim
    have eS := first_empty f1
    subst eS
    refine ⟨(by show 1 ≤ sizeLine; decide), fun l1 hl1 => ?_⟩
    have s8 := same_new (o := .lst [.bl false]) hl1
    refine ⟨_, rfl, l1, _, _, rfl, rfl, upd_same, by omega, by omega, Nat.le_trans (show _ ≤ 1000 by rw [List.length_singleton]; omega) (by decide), fun l2 hl2 => ?_⟩
    rw [Int.toNat_natCast, rep_one]
    have s9 := same_new (o := .lst ((List.replicate n false).map V.bl)) hl2
    refine ⟨dBools (List.replicate n false), dBools (List.replicate n false), .lst ((s8.trans s9) _ _ h7) (rd_bools _), .lst upd_same (rd_bools _), shaped_bools _, shaped_bools _, ?_⟩
    rw [eq_self_bl (shaped_bools _)]
    refine ⟨_, rfl, iteT ?_⟩
    have s59 := (s6.trans s7).trans (s8.trans s9)
    generalize upd (upd H7 l1 (.lst [.bl false])) l2 (.lst ((List.replicate n false).map V.bl)) = H9 at *
    refine ⟨_, rfl, y, dy5, _, rfl, s59 _ _ hy5, bflds_no _ _ (by decide +kernel) (by decide +kernel), y, m, n, [], rfl, M5.same s59, by decide, ok_empty n, by omega, fun v2 H10 s10 a2 => ?_⟩
    rcases a2 with ⟨rfl, no⟩ | ⟨lr, R, rfl, hlr, h10, rg⟩
    · exact ⟨rfl, k _⟩
    · obtain ⟨w, a1, a2, kn, _⟩ := rg.ends
      exact absurd kn (noknot_empty n w a1 a2)
set_option maxHeartbeats 4000000 in
theorem all_mk {l : PySem.W.OpenLaw} {w : World} {K : PySem.W.Frag} {h : Heap} {mg : Str → Option Value} {fa : Addr} (X : K.In h) (G : h.Ns mainGlobals mg) (hfa : mg "law" = some (.ref fa))
    {cBook : Addr} (aaBook : PySem.W.nsIn K mainGlobals "Book" = some (some (.ref cBook))) (y1Book : PySem.W.plainGet K cBook Str.empty = true) (y2Book : PySem.W.hasDictIn K cBook = true) (y3Book : PySem.W.plainOver K cBook = true) (y4Book : PySem.W.findIn K (.ref cBook) "__setattr__" = some (some (.builtin "object.__setattr__"))) (y5Book : PySem.W.makesIn K cBook = true) (y6Book : PySem.W.keepIn K (.ref cBook) = true)
    (nf_many : PySem.W.findIn K (.ref cBook) "many" = some none)
    (nf_pile : PySem.W.findIn K (.ref cBook) "pile" = some none)
    {f0 : Addr} {od0 an0 : Option Addr} {sl0 : Array (Option Value)} {oc0 kV0 dc0 pm0 cd0 ct0 : Value}
    (a0 : PySem.W.nsIn K mainGlobals "add_step" = some (some (.ref f0)))    (l0 : K.lookup f0 = some ⟨oc0, od0, .func (PySem.W.fnOf "add_step" "add_step" (defArgs s_add_step) (defBody s_add_step) (defScope s_add_step) .none kV0 dc0 pm0 an0 cd0 ct0), sl0⟩) (c0 : PySem.W.codeIn K cd0 "add_step" = true) (k0 : PySem.W.keepIn K (.ref f0) = true)
    {f1 : Addr} {od1 an1 : Option Addr} {sl1 : Array (Option Value)} {oc1 kV1 dc1 pm1 cd1 ct1 : Value}
    (a1 : PySem.W.nsIn K mainGlobals "step_table" = some (some (.ref f1)))    (l1 : K.lookup f1 = some ⟨oc1, od1, .func (PySem.W.fnOf "step_table" "step_table" (defArgs s_step_table) (defBody s_step_table) (defScope s_step_table) .none kV1 dc1 pm1 an1 cd1 ct1), sl1⟩) (c1 : PySem.W.codeIn K cd1 "step_table" = true) (k1 : PySem.W.keepIn K (.ref f1) = true)
    {f2 : Addr} {od2 an2 : Option Addr} {sl2 : Array (Option Value)} {oc2 kV2 dc2 pm2 cd2 ct2 : Value}
    (a2 : PySem.W.nsIn K mainGlobals "next_layer" = some (some (.ref f2)))    (l2 : K.lookup f2 = some ⟨oc2, od2, .func (PySem.W.fnOf "next_layer" "next_layer" (defArgs s_next_layer) (defBody s_next_layer) (defScope s_next_layer) .none kV2 dc2 pm2 an2 cd2 ct2), sl2⟩) (c2 : PySem.W.codeIn K cd2 "next_layer" = true) (k2 : PySem.W.keepIn K (.ref f2) = true)
    {f3 : Addr} {od3 an3 : Option Addr} {sl3 : Array (Option Value)} {oc3 kV3 dc3 pm3 cd3 ct3 : Value}
    (a3 : PySem.W.nsIn K mainGlobals "traced_back" = some (some (.ref f3)))    (l3 : K.lookup f3 = some ⟨oc3, od3, .func (PySem.W.fnOf "traced_back" "traced_back" (defArgs s_traced_back) (defBody s_traced_back) (defScope s_traced_back) .none kV3 dc3 pm3 an3 cd3 ct3), sl3⟩) (c3 : PySem.W.codeIn K cd3 "traced_back" = true) (k3 : PySem.W.keepIn K (.ref f3) = true)
    {f4 : Addr} {od4 an4 : Option Addr} {sl4 : Array (Option Value)} {oc4 kV4 dc4 pm4 cd4 ct4 : Value}
    (a4 : PySem.W.nsIn K mainGlobals "shortest" = some (some (.ref f4)))    (l4 : K.lookup f4 = some ⟨oc4, od4, .func (PySem.W.fnOf "shortest" "shortest" (defArgs s_shortest) (defBody s_shortest) (defScope s_shortest) .none kV4 dc4 pm4 an4 cd4 ct4), sl4⟩) (c4 : PySem.W.codeIn K cd4 "shortest" = true) (k4 : PySem.W.keepIn K (.ref f4) = true)
    {f5 : Addr} {od5 an5 : Option Addr} {sl5 : Array (Option Value)} {oc5 kV5 dc5 pm5 cd5 ct5 : Value}
    (a5 : PySem.W.nsIn K mainGlobals "road" = some (some (.ref f5)))    (l5 : K.lookup f5 = some ⟨oc5, od5, .func (PySem.W.fnOf "road" "road" (defArgs s_road) (defBody s_road) (defScope s_road) .none kV5 dc5 pm5 an5 cd5 ct5), sl5⟩) (c5 : PySem.W.codeIn K cd5 "road" = true) (k5 : PySem.W.keepIn K (.ref f5) = true)
    {f6 : Addr} {od6 an6 : Option Addr} {sl6 : Array (Option Value)} {oc6 kV6 dc6 pm6 cd6 ct6 : Value}
    (a6 : PySem.W.nsIn K mainGlobals "clash" = some (some (.ref f6)))    (l6 : K.lookup f6 = some ⟨oc6, od6, .func (PySem.W.fnOf "clash" "clash" (defArgs s_clash) (defBody s_clash) (defScope s_clash) .none kV6 dc6 pm6 an6 cd6 ct6), sl6⟩) (c6 : PySem.W.codeIn K cd6 "clash" = true) (k6 : PySem.W.keepIn K (.ref f6) = true)
    {f7 : Addr} {od7 an7 : Option Addr} {sl7 : Array (Option Value)} {oc7 kV7 dc7 pm7 cd7 ct7 : Value}
    (a7 : PySem.W.nsIn K mainGlobals "grown" = some (some (.ref f7)))    (l7 : K.lookup f7 = some ⟨oc7, od7, .func (PySem.W.fnOf "grown" "grown" (defArgs s_grown) (defBody s_grown) (defScope s_grown) .none kV7 dc7 pm7 an7 cd7 ct7), sl7⟩) (c7 : PySem.W.codeIn K cd7 "grown" = true) (k7 : PySem.W.keepIn K (.ref f7) = true)
    {f8 : Addr} {od8 an8 : Option Addr} {sl8 : Array (Option Value)} {oc8 kV8 dc8 pm8 cd8 ct8 : Value}
    (a8 : PySem.W.nsIn K mainGlobals "with_switch" = some (some (.ref f8)))    (l8 : K.lookup f8 = some ⟨oc8, od8, .func (PySem.W.fnOf "with_switch" "with_switch" (defArgs s_with_switch) (defBody s_with_switch) (defScope s_with_switch) .none kV8 dc8 pm8 an8 cd8 ct8), sl8⟩) (c8 : PySem.W.codeIn K cd8 "with_switch" = true) (k8 : PySem.W.keepIn K (.ref f8) = true)
    {f9 : Addr} {od9 an9 : Option Addr} {sl9 : Array (Option Value)} {oc9 kV9 dc9 pm9 cd9 ct9 : Value}
    (a9 : PySem.W.nsIn K mainGlobals "first_good" = some (some (.ref f9)))    (l9 : K.lookup f9 = some ⟨oc9, od9, .func (PySem.W.fnOf "first_good" "first_good" (defArgs s_first_good) (defBody s_first_good) (defScope s_first_good) .none kV9 dc9 pm9 an9 cd9 ct9), sl9⟩) (c9 : PySem.W.codeIn K cd9 "first_good" = true) (k9 : PySem.W.keepIn K (.ref f9) = true)
    {f10 : Addr} {od10 an10 : Option Addr} {sl10 : Array (Option Value)} {oc10 kV10 dc10 pm10 cd10 ct10 : Value}
    (a10 : PySem.W.nsIn K mainGlobals "least" = some (some (.ref f10)))    (l10 : K.lookup f10 = some ⟨oc10, od10, .func (PySem.W.fnOf "least" "least" (defArgs s_least) (defBody s_least) (defScope s_least) .none kV10 dc10 pm10 an10 cd10 ct10), sl10⟩) (c10 : PySem.W.codeIn K cd10 "least" = true) (k10 : PySem.W.keepIn K (.ref f10) = true)
    {f11 : Addr} {od11 an11 : Option Addr} {sl11 : Array (Option Value)} {oc11 kV11 dc11 pm11 cd11 ct11 : Value}
    (a11 : PySem.W.nsIn K mainGlobals "least_with" = some (some (.ref f11)))    (l11 : K.lookup f11 = some ⟨oc11, od11, .func (PySem.W.fnOf "least_with" "least_with" (defArgs s_least_with) (defBody s_least_with) (defScope s_least_with) .none kV11 dc11 pm11 an11 cd11 ct11), sl11⟩) (c11 : PySem.W.codeIn K cd11 "least_with" = true) (k11 : PySem.W.keepIn K (.ref f11) = true)
    {f12 : Addr} {od12 an12 : Option Addr} {sl12 : Array (Option Value)} {oc12 kV12 dc12 pm12 cd12 ct12 : Value}
    (a12 : PySem.W.nsIn K mainGlobals "road_for" = some (some (.ref f12)))    (l12 : K.lookup f12 = some ⟨oc12, od12, .func (PySem.W.fnOf "road_for" "road_for" (defArgs s_road_for) (defBody s_road_for) (defScope s_road_for) .none kV12 dc12 pm12 an12 cd12 ct12), sl12⟩) (c12 : PySem.W.codeIn K cd12 "road_for" = true) (k12 : PySem.W.keepIn K (.ref f12) = true)
    {f13 : Addr} {od13 an13 : Option Addr} {sl13 : Array (Option Value)} {oc13 kV13 dc13 pm13 cd13 ct13 : Value}
    (a13 : PySem.W.nsIn K mainGlobals "why" = some (some (.ref f13)))    (l13 : K.lookup f13 = some ⟨oc13, od13, .func (PySem.W.fnOf "why" "why" (defArgs s_why) (defBody s_why) (defScope s_why) .none kV13 dc13 pm13 an13 cd13 ct13), sl13⟩) (c13 : PySem.W.codeIn K cd13 "why" = true) (k13 : PySem.W.keepIn K (.ref f13) = true)
    {f14 : Addr} {od14 an14 : Option Addr} {sl14 : Array (Option Value)} {oc14 kV14 dc14 pm14 cd14 ct14 : Value}
    (a14 : PySem.W.nsIn K mainGlobals "against" = some (some (.ref f14)))    (l14 : K.lookup f14 = some ⟨oc14, od14, .func (PySem.W.fnOf "against" "against" (defArgs s_against) (defBody s_against) (defScope s_against) .none kV14 dc14 pm14 an14 cd14 ct14), sl14⟩) (c14 : PySem.W.codeIn K cd14 "against" = true) (k14 : PySem.W.keepIn K (.ref f14) = true)
    {f15 : Addr} {od15 an15 : Option Addr} {sl15 : Array (Option Value)} {oc15 kV15 dc15 pm15 cd15 ct15 : Value}
    (a15 : PySem.W.findIn K (.ref cBook) "__init__" = some (some (.ref f15))) (i15 : PySem.W.isFn K (.ref f15) = true)
    (l15 : K.lookup f15 = some ⟨oc15, od15, .func (PySem.W.fnOf "__init__" "Book.__init__" (defArgs s_Book_init) (defBody s_Book_init) (defScope s_Book_init) .none kV15 dc15 pm15 an15 cd15 ct15), sl15⟩) (c15 : PySem.W.codeIn K cd15 "Book.__init__" = true) (k15 : PySem.W.keepIn K (.ref f15) = true)
    {f16 : Addr} {od16 an16 : Option Addr} {sl16 : Array (Option Value)} {oc16 kV16 dc16 pm16 cd16 ct16 : Value}
    (a16 : PySem.W.findIn K (.ref cBook) "add" = some (some (.ref f16))) (i16 : PySem.W.isFn K (.ref f16) = true)
    (l16 : K.lookup f16 = some ⟨oc16, od16, .func (PySem.W.fnOf "add" "Book.add" (defArgs s_Book_add) (defBody s_Book_add) (defScope s_Book_add) .none kV16 dc16 pm16 an16 cd16 ct16), sl16⟩) (c16 : PySem.W.codeIn K cd16 "Book.add" = true) (k16 : PySem.W.keepIn K (.ref f16) = true)
    {f17 : Addr} {od17 an17 : Option Addr} {sl17 : Array (Option Value)} {oc17 kV17 dc17 pm17 cd17 ct17 : Value}
    (a17 : PySem.W.findIn K (.ref cBook) "back" = some (some (.ref f17))) (i17 : PySem.W.isFn K (.ref f17) = true)
    (l17 : K.lookup f17 = some ⟨oc17, od17, .func (PySem.W.fnOf "back" "Book.back" (defArgs s_Book_back) (defBody s_Book_back) (defScope s_Book_back) .none kV17 dc17 pm17 an17 cd17 ct17), sl17⟩) (c17 : PySem.W.codeIn K cd17 "Book.back" = true) (k17 : PySem.W.keepIn K (.ref f17) = true)
    {f18 : Addr} {od18 an18 : Option Addr} {sl18 : Array (Option Value)} {oc18 kV18 dc18 pm18 cd18 ct18 : Value}
    (a18 : PySem.W.findIn K (.ref cBook) "says" = some (some (.ref f18))) (i18 : PySem.W.isFn K (.ref f18) = true)
    (l18 : K.lookup f18 = some ⟨oc18, od18, .func (PySem.W.fnOf "says" "Book.says" (defArgs s_Book_says) (defBody s_Book_says) (defScope s_Book_says) .none kV18 dc18 pm18 an18 cd18 ct18), sl18⟩) (c18 : PySem.W.codeIn K cd18 "Book.says" = true) (k18 : PySem.W.keepIn K (.ref f18) = true)
    {f19 : Addr} {od19 an19 : Option Addr} {sl19 : Array (Option Value)} {oc19 kV19 dc19 pm19 cd19 ct19 : Value}
    (a19 : PySem.W.findIn K (.ref cBook) "setting" = some (some (.ref f19))) (i19 : PySem.W.isFn K (.ref f19) = true)
    (l19 : K.lookup f19 = some ⟨oc19, od19, .func (PySem.W.fnOf "setting" "Book.setting" (defArgs s_Book_setting) (defBody s_Book_setting) (defScope s_Book_setting) .none kV19 dc19 pm19 an19 cd19 ct19), sl19⟩) (c19 : PySem.W.codeIn K cd19 "Book.setting" = true) (k19 : PySem.W.keepIn K (.ref f19) = true)
    {f20 : Addr} {od20 an20 : Option Addr} {sl20 : Array (Option Value)} {oc20 kV20 dc20 pm20 cd20 ct20 : Value}
    (a20 : PySem.W.findIn K (.ref cBook) "ring" = some (some (.ref f20))) (i20 : PySem.W.isFn K (.ref f20) = true)
    (l20 : K.lookup f20 = some ⟨oc20, od20, .func (PySem.W.fnOf "ring" "Book.ring" (defArgs s_Book_ring) (defBody s_Book_ring) (defScope s_Book_ring) .none kV20 dc20 pm20 an20 cd20 ct20), sl20⟩) (c20 : PySem.W.codeIn K cd20 "Book.ring" = true) (k20 : PySem.W.keepIn K (.ref f20) = true)
    {f21 : Addr} {od21 an21 : Option Addr} {sl21 : Array (Option Value)} {oc21 kV21 dc21 pm21 cd21 ct21 : Value}
    (a21 : PySem.W.findIn K (.ref cBook) "ask" = some (some (.ref f21))) (i21 : PySem.W.isFn K (.ref f21) = true)
    (l21 : K.lookup f21 = some ⟨oc21, od21, .func (PySem.W.fnOf "ask" "Book.ask" (defArgs s_Book_ask) (defBody s_Book_ask) (defScope s_Book_ask) .none kV21 dc21 pm21 an21 cd21 ct21), sl21⟩) (c21 : PySem.W.codeIn K cd21 "Book.ask" = true) (k21 : PySem.W.keepIn K (.ref f21) = true)
    {f22 : Addr} {od22 an22 : Option Addr} {sl22 : Array (Option Value)} {oc22 kV22 dc22 pm22 cd22 ct22 : Value}
    (a22 : PySem.W.nsIn K mainGlobals "_law_cell_at" = some (some (.ref f22)))    (l22 : K.lookup f22 = some ⟨oc22, od22, .func (PySem.W.fnOf "_law_cell_at" "_law_cell_at" (defArgs s_law_cell_at) (defBody s_law_cell_at) (defScope s_law_cell_at) .none kV22 dc22 pm22 an22 cd22 ct22), sl22⟩) (c22 : PySem.W.codeIn K cd22 "_law_cell_at" = true) (k22 : PySem.W.keepIn K (.ref f22) = true)
    {f23 : Addr} {od23 an23 : Option Addr} {sl23 : Array (Option Value)} {oc23 kV23 dc23 pm23 cd23 ct23 : Value}
    (a23 : PySem.W.nsIn K mainGlobals "_law_lit_by" = some (some (.ref f23)))    (l23 : K.lookup f23 = some ⟨oc23, od23, .func (PySem.W.fnOf "_law_lit_by" "_law_lit_by" (defArgs s_law_lit_by) (defBody s_law_lit_by) (defScope s_law_lit_by) .none kV23 dc23 pm23 an23 cd23 ct23), sl23⟩) (c23 : PySem.W.codeIn K cd23 "_law_lit_by" = true) (k23 : PySem.W.keepIn K (.ref f23) = true)
    {f24 : Addr} {od24 an24 : Option Addr} {sl24 : Array (Option Value)} {oc24 kV24 dc24 pm24 cd24 ct24 : Value}
    (a24 : PySem.W.nsIn K mainGlobals "_law_whole" = some (some (.ref f24)))    (l24 : K.lookup f24 = some ⟨oc24, od24, .func (PySem.W.fnOf "_law_whole" "_law_whole" (defArgs s_law_whole) (defBody s_law_whole) (defScope s_law_whole) .none kV24 dc24 pm24 an24 cd24 ct24), sl24⟩) (c24 : PySem.W.codeIn K cd24 "_law_whole" = true) (k24 : PySem.W.keepIn K (.ref f24) = true)
    {f25 : Addr} {od25 an25 : Option Addr} {sl25 : Array (Option Value)} {oc25 kV25 dc25 pm25 cd25 ct25 : Value}
    (a25 : PySem.W.nsIn K mainGlobals "_law_true" = some (some (.ref f25)))    (l25 : K.lookup f25 = some ⟨oc25, od25, .func (PySem.W.fnOf "_law_true" "_law_true" (defArgs s_law_true) (defBody s_law_true) (defScope s_law_true) .none kV25 dc25 pm25 an25 cd25 ct25), sl25⟩) (c25 : PySem.W.codeIn K cd25 "_law_true" = true) (k25 : PySem.W.keepIn K (.ref f25) = true)
    {f26 : Addr} {od26 an26 : Option Addr} {sl26 : Array (Option Value)} {oc26 kV26 dc26 pm26 cd26 ct26 : Value}
    (a26 : PySem.W.nsIn K mainGlobals "_law_all_true" = some (some (.ref f26)))    (l26 : K.lookup f26 = some ⟨oc26, od26, .func (PySem.W.fnOf "_law_all_true" "_law_all_true" (defArgs s_law_all_true) (defBody s_law_all_true) (defScope s_law_all_true) .none kV26 dc26 pm26 an26 cd26 ct26), sl26⟩) (c26 : PySem.W.codeIn K cd26 "_law_all_true" = true) (k26 : PySem.W.keepIn K (.ref f26) = true)
    {f27 : Addr} {od27 an27 : Option Addr} {sl27 : Array (Option Value)} {oc27 kV27 dc27 pm27 cd27 ct27 : Value}
    (a27 : PySem.W.nsIn K mainGlobals "_law_is_setting" = some (some (.ref f27)))    (l27 : K.lookup f27 = some ⟨oc27, od27, .func (PySem.W.fnOf "_law_is_setting" "_law_is_setting" (defArgs s_law_is_setting) (defBody s_law_is_setting) (defScope s_law_is_setting) .none kV27 dc27 pm27 an27 cd27 ct27), sl27⟩) (c27 : PySem.W.codeIn K cd27 "_law_is_setting" = true) (k27 : PySem.W.keepIn K (.ref f27) = true)
    {f28 : Addr} {od28 an28 : Option Addr} {sl28 : Array (Option Value)} {oc28 kV28 dc28 pm28 cd28 ct28 : Value}
    (a28 : PySem.W.nsIn K mainGlobals "_law_step" = some (some (.ref f28)))    (l28 : K.lookup f28 = some ⟨oc28, od28, .func (PySem.W.fnOf "_law_step" "_law_step" (defArgs s_law_step) (defBody s_law_step) (defScope s_law_step) .none kV28 dc28 pm28 an28 cd28 ct28), sl28⟩) (c28 : PySem.W.codeIn K cd28 "_law_step" = true) (k28 : PySem.W.keepIn K (.ref f28) = true)
    {f29 : Addr} {od29 an29 : Option Addr} {sl29 : Array (Option Value)} {oc29 kV29 dc29 pm29 cd29 ct29 : Value}
    (a29 : PySem.W.nsIn K mainGlobals "_law_is_road" = some (some (.ref f29)))    (l29 : K.lookup f29 = some ⟨oc29, od29, .func (PySem.W.fnOf "_law_is_road" "_law_is_road" (defArgs s_law_is_road) (defBody s_law_is_road) (defScope s_law_is_road) .none kV29 dc29 pm29 an29 cd29 ct29), sl29⟩) (c29 : PySem.W.codeIn K cd29 "_law_is_road" = true) (k29 : PySem.W.keepIn K (.ref f29) = true)
    {f30 : Addr} {od30 an30 : Option Addr} {sl30 : Array (Option Value)} {oc30 kV30 dc30 pm30 cd30 ct30 : Value}
    (a30 : PySem.W.nsIn K mainGlobals "_law_is_ring" = some (some (.ref f30)))    (l30 : K.lookup f30 = some ⟨oc30, od30, .func (PySem.W.fnOf "_law_is_ring" "_law_is_ring" (defArgs s_law_is_ring) (defBody s_law_is_ring) (defScope s_law_is_ring) .none kV30 dc30 pm30 an30 cd30 ct30), sl30⟩) (c30 : PySem.W.codeIn K cd30 "_law_is_ring" = true) (k30 : PySem.W.keepIn K (.ref f30) = true)
    {f31 : Addr} {od31 an31 : Option Addr} {sl31 : Array (Option Value)} {oc31 kV31 dc31 pm31 cd31 ct31 : Value}
    (a31 : PySem.W.nsIn K mainGlobals "_law_reach" = some (some (.ref f31)))    (l31 : K.lookup f31 = some ⟨oc31, od31, .func (PySem.W.fnOf "_law_reach" "_law_reach" (defArgs s_law_reach) (defBody s_law_reach) (defScope s_law_reach) .none kV31 dc31 pm31 an31 cd31 ct31), sl31⟩) (c31 : PySem.W.codeIn K cd31 "_law_reach" = true) (k31 : PySem.W.keepIn K (.ref f31) = true)
    {f32 : Addr} {od32 an32 : Option Addr} {sl32 : Array (Option Value)} {oc32 kV32 dc32 pm32 cd32 ct32 : Value}
    (a32 : PySem.W.nsIn K mainGlobals "_law_torn" = some (some (.ref f32)))    (l32 : K.lookup f32 = some ⟨oc32, od32, .func (PySem.W.fnOf "_law_torn" "_law_torn" (defArgs s_law_torn) (defBody s_law_torn) (defScope s_law_torn) .none kV32 dc32 pm32 an32 cd32 ct32), sl32⟩) (c32 : PySem.W.codeIn K cd32 "_law_torn" = true) (k32 : PySem.W.keepIn K (.ref f32) = true)
    {f33 : Addr} {od33 an33 : Option Addr} {sl33 : Array (Option Value)} {oc33 kV33 dc33 pm33 cd33 ct33 : Value}
    (a33 : PySem.W.nsIn K mainGlobals "_law_lits" = some (some (.ref f33)))    (l33 : K.lookup f33 = some ⟨oc33, od33, .func (PySem.W.fnOf "_law_lits" "_law_lits" (defArgs s_law_lits) (defBody s_law_lits) (defScope s_law_lits) .none kV33 dc33 pm33 an33 cd33 ct33), sl33⟩) (c33 : PySem.W.codeIn K cd33 "_law_lits" = true) (k33 : PySem.W.keepIn K (.ref f33) = true)
    {f34 : Addr} {od34 an34 : Option Addr} {sl34 : Array (Option Value)} {oc34 kV34 dc34 pm34 cd34 ct34 : Value}
    (a34 : PySem.W.nsIn K mainGlobals "_law_first" = some (some (.ref f34)))    (l34 : K.lookup f34 = some ⟨oc34, od34, .func (PySem.W.fnOf "_law_first" "_law_first" (defArgs s_law_first) (defBody s_law_first) (defScope s_law_first) .none kV34 dc34 pm34 an34 cd34 ct34), sl34⟩) (c34 : PySem.W.codeIn K cd34 "_law_first" = true) (k34 : PySem.W.keepIn K (.ref f34) = true)
    {f35 : Addr} {od35 an35 : Option Addr} {sl35 : Array (Option Value)} {oc35 kV35 dc35 pm35 cd35 ct35 : Value}
    (a35 : PySem.W.nsIn K mainGlobals "_law_told" = some (some (.ref f35)))    (l35 : K.lookup f35 = some ⟨oc35, od35, .func (PySem.W.fnOf "_law_told" "_law_told" (defArgs s_law_told) (defBody s_law_told) (defScope s_law_told) .none kV35 dc35 pm35 an35 cd35 ct35), sl35⟩) (c35 : PySem.W.codeIn K cd35 "_law_told" = true) (k35 : PySem.W.keepIn K (.ref f35) = true)
    {f36 : Addr} {od36 an36 : Option Addr} {sl36 : Array (Option Value)} {oc36 kV36 dc36 pm36 cd36 ct36 : Value}
    (a36 : PySem.W.nsIn K mainGlobals "_law_answers" = some (some (.ref f36)))    (l36 : K.lookup f36 = some ⟨oc36, od36, .func (PySem.W.fnOf "_law_answers" "_law_answers" (defArgs s_law_answers) (defBody s_law_answers) (defScope s_law_answers) .none kV36 dc36 pm36 an36 cd36 ct36), sl36⟩) (c36 : PySem.W.codeIn K cd36 "_law_answers" = true) (k36 : PySem.W.keepIn K (.ref f36) = true)
    {f37 : Addr} {od37 an37 : Option Addr} {sl37 : Array (Option Value)} {oc37 kV37 dc37 pm37 cd37 ct37 : Value}
    (a37 : PySem.W.nsIn K mainGlobals "_law_asked" = some (some (.ref f37)))    (l37 : K.lookup f37 = some ⟨oc37, od37, .func (PySem.W.fnOf "_law_asked" "_law_asked" (defArgs s_law_asked) (defBody s_law_asked) (defScope s_law_asked) .none kV37 dc37 pm37 an37 cd37 ct37), sl37⟩) (c37 : PySem.W.codeIn K cd37 "_law_asked" = true) (k37 : PySem.W.keepIn K (.ref f37) = true)
    {f38 : Addr} {od38 an38 : Option Addr} {sl38 : Array (Option Value)} {oc38 kV38 dc38 pm38 cd38 ct38 : Value}
    (a38 : PySem.W.nsIn K mainGlobals "_law_which" = some (some (.ref f38)))    (l38 : K.lookup f38 = some ⟨oc38, od38, .func (PySem.W.fnOf "_law_which" "_law_which" (defArgs s_law_which) (defBody s_law_which) (defScope s_law_which) .none kV38 dc38 pm38 an38 cd38 ct38), sl38⟩) (c38 : PySem.W.codeIn K cd38 "_law_which" = true) (k38 : PySem.W.keepIn K (.ref f38) = true)
    {f39 : Addr} {od39 an39 : Option Addr} {sl39 : Array (Option Value)} {oc39 kV39 dc39 pm39 cd39 ct39 : Value}
    (a39 : PySem.W.nsIn K mainGlobals "_law_put_ill" = some (some (.ref f39)))    (l39 : K.lookup f39 = some ⟨oc39, od39, .func (PySem.W.fnOf "_law_put_ill" "_law_put_ill" (defArgs s_law_put_ill) (defBody s_law_put_ill) (defScope s_law_put_ill) .none kV39 dc39 pm39 an39 cd39 ct39), sl39⟩) (c39 : PySem.W.codeIn K cd39 "_law_put_ill" = true) (k39 : PySem.W.keepIn K (.ref f39) = true)
    {f40 : Addr} {od40 an40 : Option Addr} {sl40 : Array (Option Value)} {oc40 kV40 dc40 pm40 cd40 ct40 : Value}
    (a40 : PySem.W.nsIn K mainGlobals "_law_taken_ill" = some (some (.ref f40)))    (l40 : K.lookup f40 = some ⟨oc40, od40, .func (PySem.W.fnOf "_law_taken_ill" "_law_taken_ill" (defArgs s_law_taken_ill) (defBody s_law_taken_ill) (defScope s_law_taken_ill) .none kV40 dc40 pm40 an40 cd40 ct40), sl40⟩) (c40 : PySem.W.codeIn K cd40 "_law_taken_ill" = true) (k40 : PySem.W.keepIn K (.ref f40) = true)
    {f41 : Addr} {od41 an41 : Option Addr} {sl41 : Array (Option Value)} {oc41 kV41 dc41 pm41 cd41 ct41 : Value}
    (a41 : PySem.W.nsIn K mainGlobals "_law_deed" = some (some (.ref f41)))    (l41 : K.lookup f41 = some ⟨oc41, od41, .func (PySem.W.fnOf "_law_deed" "_law_deed" (defArgs s_law_deed) (defBody s_law_deed) (defScope s_law_deed) .none kV41 dc41 pm41 an41 cd41 ct41), sl41⟩) (c41 : PySem.W.codeIn K cd41 "_law_deed" = true) (k41 : PySem.W.keepIn K (.ref f41) = true)
    {f42 : Addr} {od42 an42 : Option Addr} {sl42 : Array (Option Value)} {oc42 kV42 dc42 pm42 cd42 ct42 : Value}
    (a42 : PySem.W.nsIn K mainGlobals "law" = some (some (.ref f42)))    (l42 : K.lookup f42 = some ⟨oc42, od42, .func (PySem.W.fnOf "law" "law" (defArgs s_law) (defBody s_law) (defScope s_law) .none kV42 dc42 pm42 an42 cd42 ct42), sl42⟩) (c42 : PySem.W.codeIn K cd42 "law" = true) (k42 : PySem.W.keepIn K (.ref f42) = true)
    (z_ValueError : PySem.W.nsIn K mainGlobals "ValueError" = some none)
    (z_abs : PySem.W.nsIn K mainGlobals "abs" = some none)
    (z_bool : PySem.W.nsIn K mainGlobals "bool" = some none)
    (z_dict : PySem.W.nsIn K mainGlobals "dict" = some none)
    (z_int : PySem.W.nsIn K mainGlobals "int" = some none)
    (z_isinstance : PySem.W.nsIn K mainGlobals "isinstance" = some none)
    (z_len : PySem.W.nsIn K mainGlobals "len" = some none)
    (z_list : PySem.W.nsIn K mainGlobals "list" = some none)
    (z_range : PySem.W.nsIn K mainGlobals "range" = some none)
    (z_reversed : PySem.W.nsIn K mainGlobals "reversed" = some none)
    (z_str : PySem.W.nsIn K mainGlobals "str" = some none)
    (z_tuple : PySem.W.nsIn K mainGlobals "tuple" = some none)
    (o1 : PySem.W.specialIn K (.builtin "object.__class__") "__get__" = some (some (.builtin "getset_descriptor.__get__"))) (o2 : PySem.W.takesIn K (.builtin "object.__class__") = some true)
    {cSayError : Addr} (nSayError : PySem.W.nsIn K mainGlobals "SayError" = some (some (.ref cSayError))) (e1SayError : PySem.W.excIn K cSayError PySem.W.vMro "ValueError.__new__" = true) (e2SayError : PySem.W.hasDictIn K cSayError = true) (e3SayError : PySem.W.findIn K (.ref cSayError) "__getattribute__" = some (some (.builtin "BaseException.__getattribute__"))) (e4SayError : PySem.W.findIn K (.ref cSayError) "__getattr__" = some none) (e5SayError : PySem.W.findIn K (.ref cSayError) "__class__" = some (some (.builtin "object.__class__"))) (e6SayError : PySem.W.mroIn K cSayError (.type "object") = some true) (e7SayError : PySem.W.mroIn K cSayError (.type "BaseException") = some true)
    {cBadSay : Addr} (nBadSay : PySem.W.nsIn K mainGlobals "BadSay" = some (some (.ref cBadSay))) (e1BadSay : PySem.W.excIn K cBadSay PySem.W.vMro "ValueError.__new__" = true) (e2BadSay : PySem.W.hasDictIn K cBadSay = true) (e3BadSay : PySem.W.findIn K (.ref cBadSay) "__getattribute__" = some (some (.builtin "BaseException.__getattribute__"))) (e4BadSay : PySem.W.findIn K (.ref cBadSay) "__getattr__" = some none) (e5BadSay : PySem.W.findIn K (.ref cBadSay) "__class__" = some (some (.builtin "object.__class__"))) (e6BadSay : PySem.W.mroIn K cBadSay (.type "object") = some true) (e7BadSay : PySem.W.mroIn K cBadSay (.type "BaseException") = some true)
    {cBadLine : Addr} (nBadLine : PySem.W.nsIn K mainGlobals "BadLine" = some (some (.ref cBadLine))) (e1BadLine : PySem.W.excIn K cBadLine PySem.W.vMro "ValueError.__new__" = true) (e2BadLine : PySem.W.hasDictIn K cBadLine = true) (e3BadLine : PySem.W.findIn K (.ref cBadLine) "__getattribute__" = some (some (.builtin "BaseException.__getattribute__"))) (e4BadLine : PySem.W.findIn K (.ref cBadLine) "__getattr__" = some none) (e5BadLine : PySem.W.findIn K (.ref cBadLine) "__class__" = some (some (.builtin "object.__class__"))) (e6BadLine : PySem.W.mroIn K cBadLine (.type "object") = some true) (e7BadLine : PySem.W.mroIn K cBadLine (.type "BaseException") = some true)
    {cFullBook : Addr} (nFullBook : PySem.W.nsIn K mainGlobals "FullBook" = some (some (.ref cFullBook))) (e1FullBook : PySem.W.excIn K cFullBook PySem.W.vMro "ValueError.__new__" = true) (e2FullBook : PySem.W.hasDictIn K cFullBook = true) (e3FullBook : PySem.W.findIn K (.ref cFullBook) "__getattribute__" = some (some (.builtin "BaseException.__getattribute__"))) (e4FullBook : PySem.W.findIn K (.ref cFullBook) "__getattr__" = some none) (e5FullBook : PySem.W.findIn K (.ref cFullBook) "__class__" = some (some (.builtin "object.__class__"))) (e6FullBook : PySem.W.mroIn K cFullBook (.type "object") = some true) (e7FullBook : PySem.W.mroIn K cFullBook (.type "BaseException") = some true)
    {cEmptyBook : Addr} (nEmptyBook : PySem.W.nsIn K mainGlobals "EmptyBook" = some (some (.ref cEmptyBook))) (e1EmptyBook : PySem.W.excIn K cEmptyBook PySem.W.vMro "ValueError.__new__" = true) (e2EmptyBook : PySem.W.hasDictIn K cEmptyBook = true) (e3EmptyBook : PySem.W.findIn K (.ref cEmptyBook) "__getattribute__" = some (some (.builtin "BaseException.__getattribute__"))) (e4EmptyBook : PySem.W.findIn K (.ref cEmptyBook) "__getattr__" = some none) (e5EmptyBook : PySem.W.findIn K (.ref cEmptyBook) "__class__" = some (some (.builtin "object.__class__"))) (e6EmptyBook : PySem.W.mroIn K cEmptyBook (.type "object") = some true) (e7EmptyBook : PySem.W.mroIn K cEmptyBook (.type "BaseException") = some true)
    {cNoSetting : Addr} (nNoSetting : PySem.W.nsIn K mainGlobals "NoSetting" = some (some (.ref cNoSetting))) (e1NoSetting : PySem.W.excIn K cNoSetting PySem.W.vMro "ValueError.__new__" = true) (e2NoSetting : PySem.W.hasDictIn K cNoSetting = true) (e3NoSetting : PySem.W.findIn K (.ref cNoSetting) "__getattribute__" = some (some (.builtin "BaseException.__getattribute__"))) (e4NoSetting : PySem.W.findIn K (.ref cNoSetting) "__getattr__" = some none) (e5NoSetting : PySem.W.findIn K (.ref cNoSetting) "__class__" = some (some (.builtin "object.__class__"))) (e6NoSetting : PySem.W.mroIn K cNoSetting (.type "object") = some true) (e7NoSetting : PySem.W.mroIn K cNoSetting (.type "BaseException") = some true)
    (s_BadSay_SayError : PySem.W.mroIn K cBadSay (.ref cSayError) = some true)
    (q_BadSay_BadSay : PySem.W.kitOne K (.ref cBadSay) (.ref cBadSay) = some true)
    (q_BadSay_EmptyBook : PySem.W.kitOne K (.ref cBadSay) (.ref cEmptyBook) = some false)
    (q_BadSay_BadLine : PySem.W.kitOne K (.ref cBadSay) (.ref cBadLine) = some false)
    (q_BadSay_FullBook : PySem.W.kitOne K (.ref cBadSay) (.ref cFullBook) = some false)
    (q_BadSay_NoSetting : PySem.W.kitOne K (.ref cBadSay) (.ref cNoSetting) = some false)
    (q_BadSay_ValueError : PySem.W.kitOne K (.ref cBadSay) (.type "ValueError") = some true)
    (s_FullBook_SayError : PySem.W.mroIn K cFullBook (.ref cSayError) = some true)
    (q_FullBook_BadSay : PySem.W.kitOne K (.ref cFullBook) (.ref cBadSay) = some false)
    (q_FullBook_EmptyBook : PySem.W.kitOne K (.ref cFullBook) (.ref cEmptyBook) = some false)
    (q_FullBook_BadLine : PySem.W.kitOne K (.ref cFullBook) (.ref cBadLine) = some false)
    (q_FullBook_FullBook : PySem.W.kitOne K (.ref cFullBook) (.ref cFullBook) = some true)
    (q_FullBook_NoSetting : PySem.W.kitOne K (.ref cFullBook) (.ref cNoSetting) = some false)
    (q_FullBook_ValueError : PySem.W.kitOne K (.ref cFullBook) (.type "ValueError") = some true)
    (s_EmptyBook_SayError : PySem.W.mroIn K cEmptyBook (.ref cSayError) = some true)
    (q_EmptyBook_BadSay : PySem.W.kitOne K (.ref cEmptyBook) (.ref cBadSay) = some false)
    (q_EmptyBook_EmptyBook : PySem.W.kitOne K (.ref cEmptyBook) (.ref cEmptyBook) = some true)
    (q_EmptyBook_BadLine : PySem.W.kitOne K (.ref cEmptyBook) (.ref cBadLine) = some false)
    (q_EmptyBook_FullBook : PySem.W.kitOne K (.ref cEmptyBook) (.ref cFullBook) = some false)
    (q_EmptyBook_NoSetting : PySem.W.kitOne K (.ref cEmptyBook) (.ref cNoSetting) = some false)
    (q_EmptyBook_ValueError : PySem.W.kitOne K (.ref cEmptyBook) (.type "ValueError") = some true)
    {tk_MOST_SAYS : Tok} (g_MOST_SAYS : PySem.W.nsIn K mainGlobals "MOST_SAYS" = some (some (.int 400 tk_MOST_SAYS)))
    : ∃ fd : FuncData, (∀ (s : Shared) (v : Value), BindsTo s fd ⟨[v], []⟩ [("script", v)]) ∧ ∀ base : Heap, K.In base → base.Ns mainGlobals mg → FnOk l.prog w K mg base CX0 9 fa fd ["script"] (sp_law K) := by
  have e := hfa.symm.trans (PySem.W.mg_of X G a42)
  cases e
  have F0 := fun_mk (st := s_add_step) l0 c0 k0
  have F1 := fun_mk (st := s_step_table) l1 c1 k1
  have F2 := fun_mk (st := s_next_layer) l2 c2 k2
  have F3 := fun_mk (st := s_traced_back) l3 c3 k3
  have F4 := fun_mk (st := s_shortest) l4 c4 k4
  have F5 := fun_mk (st := s_road) l5 c5 k5
  have F6 := fun_mk (st := s_clash) l6 c6 k6
  have F7 := fun_mk (st := s_grown) l7 c7 k7
  have F8 := fun_mk (st := s_with_switch) l8 c8 k8
  have F9 := fun_mk (st := s_first_good) l9 c9 k9
  have F10 := fun_mk (st := s_least) l10 c10 k10
  have F11 := fun_mk (st := s_least_with) l11 c11 k11
  have F12 := fun_mk (st := s_road_for) l12 c12 k12
  have F13 := fun_mk (st := s_why) l13 c13 k13
  have F14 := fun_mk (st := s_against) l14 c14 k14
  have F15 := fun_mk (st := s_Book_init) l15 c15 k15
  have F16 := fun_mk (st := s_Book_add) l16 c16 k16
  have F17 := fun_mk (st := s_Book_back) l17 c17 k17
  have F18 := fun_mk (st := s_Book_says) l18 c18 k18
  have F19 := fun_mk (st := s_Book_setting) l19 c19 k19
  have F20 := fun_mk (st := s_Book_ring) l20 c20 k20
  have F21 := fun_mk (st := s_Book_ask) l21 c21 k21
  have F22 := fun_mk (st := s_law_cell_at) l22 c22 k22
  have F23 := fun_mk (st := s_law_lit_by) l23 c23 k23
  have F24 := fun_mk (st := s_law_whole) l24 c24 k24
  have F25 := fun_mk (st := s_law_true) l25 c25 k25
  have F26 := fun_mk (st := s_law_all_true) l26 c26 k26
  have F27 := fun_mk (st := s_law_is_setting) l27 c27 k27
  have F28 := fun_mk (st := s_law_step) l28 c28 k28
  have F29 := fun_mk (st := s_law_is_road) l29 c29 k29
  have F30 := fun_mk (st := s_law_is_ring) l30 c30 k30
  have F31 := fun_mk (st := s_law_reach) l31 c31 k31
  have F32 := fun_mk (st := s_law_torn) l32 c32 k32
  have F33 := fun_mk (st := s_law_lits) l33 c33 k33
  have F34 := fun_mk (st := s_law_first) l34 c34 k34
  have F35 := fun_mk (st := s_law_told) l35 c35 k35
  have F36 := fun_mk (st := s_law_answers) l36 c36 k36
  have F37 := fun_mk (st := s_law_asked) l37 c37 k37
  have F38 := fun_mk (st := s_law_which) l38 c38 k38
  have F39 := fun_mk (st := s_law_put_ill) l39 c39 k39
  have F40 := fun_mk (st := s_law_taken_ill) l40 c40 k40
  have F41 := fun_mk (st := s_law_deed) l41 c41 k41
  have F42 := fun_mk (st := s_law) l42 c42 k42
  have T : Tx K mg ⟨f0, _, f1, _, f2, _, f3, _, f4, _, f5, _, f6, _, f7, _, f8, _, f9, _, f10, _, f11, _, f12, _, f13, _, f14, _, f15, _, f16, _, f17, _, f18, _, f19, _, f20, _, f21, _, f22, _, f23, _, f24, _, f25, _, f26, _, f27, _, f28, _, f29, _, f30, _, f31, _, f32, _, f33, _, f34, _, f35, _, f36, _, f37, _, f38, _, f39, _, f40, _, f41, _, fa, _, cSayError, cBadSay, cBadLine, cFullBook, cEmptyBook, cNoSetting, cBook⟩ := ⟨F0, PySem.W.mg_of X G a0, F1, PySem.W.mg_of X G a1, F2, PySem.W.mg_of X G a2, F3, PySem.W.mg_of X G a3, F4, PySem.W.mg_of X G a4, F5, PySem.W.mg_of X G a5, F6, PySem.W.mg_of X G a6, F7, PySem.W.mg_of X G a7, F8, PySem.W.mg_of X G a8, F9, PySem.W.mg_of X G a9, F10, PySem.W.mg_of X G a10, F11, PySem.W.mg_of X G a11, F12, PySem.W.mg_of X G a12, F13, PySem.W.mg_of X G a13, F14, PySem.W.mg_of X G a14, F15, ⟨y5Book, a15, i15, y6Book⟩, F16, ⟨a16, i16, k16⟩, F17, ⟨a17, i17, k17⟩, F18, ⟨a18, i18, k18⟩, F19, ⟨a19, i19, k19⟩, F20, ⟨a20, i20, k20⟩, F21, ⟨a21, i21, k21⟩, F22, PySem.W.mg_of X G a22, F23, PySem.W.mg_of X G a23, F24, PySem.W.mg_of X G a24, F25, PySem.W.mg_of X G a25, F26, PySem.W.mg_of X G a26, F27, PySem.W.mg_of X G a27, F28, PySem.W.mg_of X G a28, F29, PySem.W.mg_of X G a29, F30, PySem.W.mg_of X G a30, F31, PySem.W.mg_of X G a31, F32, PySem.W.mg_of X G a32, F33, PySem.W.mg_of X G a33, F34, PySem.W.mg_of X G a34, F35, PySem.W.mg_of X G a35, F36, PySem.W.mg_of X G a36, F37, PySem.W.mg_of X G a37, F38, PySem.W.mg_of X G a38, F39, PySem.W.mg_of X G a39, F40, PySem.W.mg_of X G a40, F41, PySem.W.mg_of X G a41, F42, PySem.W.mg_of X G a42, ⟨y1Book, y2Book, y3Book, y4Book⟩, aaBook, PySem.W.mg_of X G aaBook, nf_many, nf_pile, PySem.W.mg_none_of X G z_ValueError, PySem.W.mg_none_of X G z_abs, PySem.W.mg_none_of X G z_bool, PySem.W.mg_none_of X G z_dict, PySem.W.mg_none_of X G z_int, PySem.W.mg_none_of X G z_isinstance, PySem.W.mg_none_of X G z_len, PySem.W.mg_none_of X G z_list, PySem.W.mg_none_of X G z_range, PySem.W.mg_none_of X G z_reversed, PySem.W.mg_none_of X G z_str, PySem.W.mg_none_of X G z_tuple, ⟨o1, o2⟩, nSayError, PySem.W.mg_of X G nSayError, ⟨e1SayError, e2SayError, e3SayError, e4SayError, e5SayError, e6SayError, e7SayError⟩, nBadSay, PySem.W.mg_of X G nBadSay, ⟨e1BadSay, e2BadSay, e3BadSay, e4BadSay, e5BadSay, e6BadSay, e7BadSay⟩, nBadLine, PySem.W.mg_of X G nBadLine, ⟨e1BadLine, e2BadLine, e3BadLine, e4BadLine, e5BadLine, e6BadLine, e7BadLine⟩, nFullBook, PySem.W.mg_of X G nFullBook, ⟨e1FullBook, e2FullBook, e3FullBook, e4FullBook, e5FullBook, e6FullBook, e7FullBook⟩, nEmptyBook, PySem.W.mg_of X G nEmptyBook, ⟨e1EmptyBook, e2EmptyBook, e3EmptyBook, e4EmptyBook, e5EmptyBook, e6EmptyBook, e7EmptyBook⟩, nNoSetting, PySem.W.mg_of X G nNoSetting, ⟨e1NoSetting, e2NoSetting, e3NoSetting, e4NoSetting, e5NoSetting, e6NoSetting, e7NoSetting⟩, s_BadSay_SayError, q_BadSay_BadSay, q_BadSay_EmptyBook, q_BadSay_BadLine, q_BadSay_FullBook, q_BadSay_NoSetting, q_BadSay_ValueError, s_FullBook_SayError, q_FullBook_BadSay, q_FullBook_EmptyBook, q_FullBook_BadLine, q_FullBook_FullBook, q_FullBook_NoSetting, q_FullBook_ValueError, s_EmptyBook_SayError, q_EmptyBook_BadSay, q_EmptyBook_EmptyBook, q_EmptyBook_BadLine, q_EmptyBook_FullBook, q_EmptyBook_NoSetting, q_EmptyBook_ValueError, ⟨_, PySem.W.mg_of X G g_MOST_SAYS⟩⟩
  exact ⟨_, fun s v => .of_eq rfl, fun base _ _ => ok_law T⟩
theorem walk {l : PySem.W.OpenLaw} {q : Program} {loose : List Str} {XP : (Str → Option Value) → Heap → Prop} {YP : World → Heap → Prop} {d : DefRec} {K : Params → PySem.W.Frag} (hn : l.most = some 63) (hdf : d.params.defaults = [])
    (hY : ∀ (w : World) (h : Heap), YP w h → (K w.params).In h)
    (F : ∀ (w : World) (mg : Str → Option Value) (fa : Addr) (h : Heap), (K w.params).In h → h.Ns mainGlobals mg → mg d.name = some (.ref fa) →
      ∃ fd : FuncData, (∀ (s : Shared) (u : Value), BindsTo s fd ⟨[u], []⟩ [("script", u)]) ∧ ∀ base : Heap, (K w.params).In base → base.Ns mainGlobals mg → FnOk l.prog w (K w.params) mg base CX0 9 fa fd ["script"] (sp_law (K w.params))) :
    PySem.W.WalkO q loose XP YP l.row.toRowW d [] (fun f vs => PySem.call f vs) :=
  L2.walk_of (n := 63) (k := 9) (x := "script") (CX := fun _ => CX0) (sp := fun w => sp_law (K w.params)) hn (by decide) hdf ⟨rfl, by decide, by decide⟩ hY F (fun _ _ a ns hl _ hS => ⟨a, ns, rfl, hS, hl, fun _ => rfl⟩) fun _ _ _ _ _ z => z
end Eb
theorem PySem.W.Fast.te5000868596655063649 : True := trivial
noncomputable def PySem.W.Fast.tw13959815881605314258 : PySem.Program := PySem.Challenge.pw_eitherbook_k12_whole_book
theorem PySem.W.Fast.te13959815881605314258 : PySem.Challenge.pw_eitherbook_k12_whole_book = PySem.W.Fast.tw13959815881605314258 := rfl
open PySem PySem.W PyProof.Rows
set_option maxRecDepth 100000 in
set_option maxHeartbeats 0 in
theorem PySem.Challenge.cw_eitherbook_k12_whole_book_holds : PySem.Challenge.rw_eitherbook_k12_whole_book.Holds := by
  w_on; o_law; k_head; (case hw => w_witness2)
  k_fill
  refine Eb.walk (l := PySem.Challenge.rw_eitherbook_k12_whole_book) rfl rfl (fun w h Y => PySem.W.kIn_of Y) ?F
  case F =>
    intro w mg fa h KX G hmg
    refine' Eb.all_mk KX G hmg ?aaBook ?y1Book ?y2Book ?y3Book ?y4Book ?y5Book ?y6Book ?nf_many ?nf_pile ?a0 ?l0 ?c0 ?k0 ?a1 ?l1 ?c1 ?k1 ?a2 ?l2 ?c2 ?k2 ?a3 ?l3 ?c3 ?k3 ?a4 ?l4 ?c4 ?k4 ?a5 ?l5 ?c5 ?k5 ?a6 ?l6 ?c6 ?k6 ?a7 ?l7 ?c7 ?k7 ?a8 ?l8 ?c8 ?k8 ?a9 ?l9 ?c9 ?k9 ?a10 ?l10 ?c10 ?k10 ?a11 ?l11 ?c11 ?k11 ?a12 ?l12 ?c12 ?k12 ?a13 ?l13 ?c13 ?k13 ?a14 ?l14 ?c14 ?k14 ?i15 ?a15 ?l15 ?c15 ?k15 ?i16 ?a16 ?l16 ?c16 ?k16 ?i17 ?a17 ?l17 ?c17 ?k17 ?i18 ?a18 ?l18 ?c18 ?k18 ?i19 ?a19 ?l19 ?c19 ?k19 ?i20 ?a20 ?l20 ?c20 ?k20 ?i21 ?a21 ?l21 ?c21 ?k21 ?a22 ?l22 ?c22 ?k22 ?a23 ?l23 ?c23 ?k23 ?a24 ?l24 ?c24 ?k24 ?a25 ?l25 ?c25 ?k25 ?a26 ?l26 ?c26 ?k26 ?a27 ?l27 ?c27 ?k27 ?a28 ?l28 ?c28 ?k28 ?a29 ?l29 ?c29 ?k29 ?a30 ?l30 ?c30 ?k30 ?a31 ?l31 ?c31 ?k31 ?a32 ?l32 ?c32 ?k32 ?a33 ?l33 ?c33 ?k33 ?a34 ?l34 ?c34 ?k34 ?a35 ?l35 ?c35 ?k35 ?a36 ?l36 ?c36 ?k36 ?a37 ?l37 ?c37 ?k37 ?a38 ?l38 ?c38 ?k38 ?a39 ?l39 ?c39 ?k39 ?a40 ?l40 ?c40 ?k40 ?a41 ?l41 ?c41 ?k41 ?a42 ?l42 ?c42 ?k42 ?z_ValueError ?z_abs ?z_bool ?z_dict ?z_int ?z_isinstance ?z_len ?z_list ?z_range ?z_reversed ?z_str ?z_tuple ?o1 ?o2 ?nSayError ?e1SayError ?e2SayError ?e3SayError ?e4SayError ?e5SayError ?e6SayError ?e7SayError ?nBadSay ?e1BadSay ?e2BadSay ?e3BadSay ?e4BadSay ?e5BadSay ?e6BadSay ?e7BadSay ?nBadLine ?e1BadLine ?e2BadLine ?e3BadLine ?e4BadLine ?e5BadLine ?e6BadLine ?e7BadLine ?nFullBook ?e1FullBook ?e2FullBook ?e3FullBook ?e4FullBook ?e5FullBook ?e6FullBook ?e7FullBook ?nEmptyBook ?e1EmptyBook ?e2EmptyBook ?e3EmptyBook ?e4EmptyBook ?e5EmptyBook ?e6EmptyBook ?e7EmptyBook ?nNoSetting ?e1NoSetting ?e2NoSetting ?e3NoSetting ?e4NoSetting ?e5NoSetting ?e6NoSetting ?e7NoSetting ?s_BadSay_SayError ?q_BadSay_BadSay ?q_BadSay_EmptyBook ?q_BadSay_BadLine ?q_BadSay_FullBook ?q_BadSay_NoSetting ?q_BadSay_ValueError ?s_FullBook_SayError ?q_FullBook_BadSay ?q_FullBook_EmptyBook ?q_FullBook_BadLine ?q_FullBook_FullBook ?q_FullBook_NoSetting ?q_FullBook_ValueError ?s_EmptyBook_SayError ?q_EmptyBook_BadSay ?q_EmptyBook_EmptyBook ?q_EmptyBook_BadLine ?q_EmptyBook_FullBook ?q_EmptyBook_NoSetting ?q_EmptyBook_ValueError ?g_MOST_SAYS
    (case aaBook => k_is)
    (case y1Book => k_is)
    (case y2Book => k_is)
    (case y3Book => k_is)
    (case y4Book => k_is)
    (case y5Book => k_is)
    (case y6Book => k_is)
    (case nf_many => k_is)
    (case nf_pile => k_is)
    (case a0 => k_is)
    (case l0 => k_is)
    (case c0 => k_is)
    (case k0 => k_is)
    (case a1 => k_is)
    (case l1 => k_is)
    (case c1 => k_is)
    (case k1 => k_is)
    (case a2 => k_is)
    (case l2 => k_is)
    (case c2 => k_is)
    (case k2 => k_is)
    (case a3 => k_is)
    (case l3 => k_is)
    (case c3 => k_is)
    (case k3 => k_is)
    (case a4 => k_is)
    (case l4 => k_is)
    (case c4 => k_is)
    (case k4 => k_is)
    (case a5 => k_is)
    (case l5 => k_is)
    (case c5 => k_is)
    (case k5 => k_is)
    (case a6 => k_is)
    (case l6 => k_is)
    (case c6 => k_is)
    (case k6 => k_is)
    (case a7 => k_is)
    (case l7 => k_is)
    (case c7 => k_is)
    (case k7 => k_is)
    (case a8 => k_is)
    (case l8 => k_is)
    (case c8 => k_is)
    (case k8 => k_is)
    (case a9 => k_is)
    (case l9 => k_is)
    (case c9 => k_is)
    (case k9 => k_is)
    (case a10 => k_is)
    (case l10 => k_is)
    (case c10 => k_is)
    (case k10 => k_is)
    (case a11 => k_is)
    (case l11 => k_is)
    (case c11 => k_is)
    (case k11 => k_is)
    (case a12 => k_is)
    (case l12 => k_is)
    (case c12 => k_is)
    (case k12 => k_is)
    (case a13 => k_is)
    (case l13 => k_is)
    (case c13 => k_is)
    (case k13 => k_is)
    (case a14 => k_is)
    (case l14 => k_is)
    (case c14 => k_is)
    (case k14 => k_is)
    (case i15 => k_is)
    (case a15 => k_is)
    (case l15 => k_is)
    (case c15 => k_is)
    (case k15 => k_is)
    (case i16 => k_is)
    (case a16 => k_is)
    (case l16 => k_is)
    (case c16 => k_is)
    (case k16 => k_is)
    (case i17 => k_is)
    (case a17 => k_is)
    (case l17 => k_is)
    (case c17 => k_is)
    (case k17 => k_is)
    (case i18 => k_is)
    (case a18 => k_is)
    (case l18 => k_is)
    (case c18 => k_is)
    (case k18 => k_is)
    (case i19 => k_is)
    (case a19 => k_is)
    (case l19 => k_is)
    (case c19 => k_is)
    (case k19 => k_is)
    (case i20 => k_is)
    (case a20 => k_is)
    (case l20 => k_is)
    (case c20 => k_is)
    (case k20 => k_is)
    (case i21 => k_is)
    (case a21 => k_is)
    (case l21 => k_is)
    (case c21 => k_is)
    (case k21 => k_is)
    (case a22 => k_is)
    (case l22 => k_is)
    (case c22 => k_is)
    (case k22 => k_is)
    (case a23 => k_is)
    (case l23 => k_is)
    (case c23 => k_is)
    (case k23 => k_is)
    (case a24 => k_is)
    (case l24 => k_is)
    (case c24 => k_is)
    (case k24 => k_is)
    (case a25 => k_is)
    (case l25 => k_is)
    (case c25 => k_is)
    (case k25 => k_is)
    (case a26 => k_is)
    (case l26 => k_is)
    (case c26 => k_is)
    (case k26 => k_is)
    (case a27 => k_is)
    (case l27 => k_is)
    (case c27 => k_is)
    (case k27 => k_is)
    (case a28 => k_is)
    (case l28 => k_is)
    (case c28 => k_is)
    (case k28 => k_is)
    (case a29 => k_is)
    (case l29 => k_is)
    (case c29 => k_is)
    (case k29 => k_is)
    (case a30 => k_is)
    (case l30 => k_is)
    (case c30 => k_is)
    (case k30 => k_is)
    (case a31 => k_is)
    (case l31 => k_is)
    (case c31 => k_is)
    (case k31 => k_is)
    (case a32 => k_is)
    (case l32 => k_is)
    (case c32 => k_is)
    (case k32 => k_is)
    (case a33 => k_is)
    (case l33 => k_is)
    (case c33 => k_is)
    (case k33 => k_is)
    (case a34 => k_is)
    (case l34 => k_is)
    (case c34 => k_is)
    (case k34 => k_is)
    (case a35 => k_is)
    (case l35 => k_is)
    (case c35 => k_is)
    (case k35 => k_is)
    (case a36 => k_is)
    (case l36 => k_is)
    (case c36 => k_is)
    (case k36 => k_is)
    (case a37 => k_is)
    (case l37 => k_is)
    (case c37 => k_is)
    (case k37 => k_is)
    (case a38 => k_is)
    (case l38 => k_is)
    (case c38 => k_is)
    (case k38 => k_is)
    (case a39 => k_is)
    (case l39 => k_is)
    (case c39 => k_is)
    (case k39 => k_is)
    (case a40 => k_is)
    (case l40 => k_is)
    (case c40 => k_is)
    (case k40 => k_is)
    (case a41 => k_is)
    (case l41 => k_is)
    (case c41 => k_is)
    (case k41 => k_is)
    (case a42 => k_is)
    (case l42 => k_is)
    (case c42 => k_is)
    (case k42 => k_is)
    (case z_ValueError => k_is)
    (case z_abs => k_is)
    (case z_bool => k_is)
    (case z_dict => k_is)
    (case z_int => k_is)
    (case z_isinstance => k_is)
    (case z_len => k_is)
    (case z_list => k_is)
    (case z_range => k_is)
    (case z_reversed => k_is)
    (case z_str => k_is)
    (case z_tuple => k_is)
    (case o1 => k_is)
    (case o2 => k_is)
    (case nSayError => k_is)
    (case e1SayError => k_exc)
    (case e2SayError => k_is)
    (case e3SayError => k_is)
    (case e4SayError => k_is)
    (case e5SayError => k_is)
    (case e6SayError => k_is)
    (case e7SayError => k_is)
    (case nBadSay => k_is)
    (case e1BadSay => k_exc)
    (case e2BadSay => k_is)
    (case e3BadSay => k_is)
    (case e4BadSay => k_is)
    (case e5BadSay => k_is)
    (case e6BadSay => k_is)
    (case e7BadSay => k_is)
    (case nBadLine => k_is)
    (case e1BadLine => k_exc)
    (case e2BadLine => k_is)
    (case e3BadLine => k_is)
    (case e4BadLine => k_is)
    (case e5BadLine => k_is)
    (case e6BadLine => k_is)
    (case e7BadLine => k_is)
    (case nFullBook => k_is)
    (case e1FullBook => k_exc)
    (case e2FullBook => k_is)
    (case e3FullBook => k_is)
    (case e4FullBook => k_is)
    (case e5FullBook => k_is)
    (case e6FullBook => k_is)
    (case e7FullBook => k_is)
    (case nEmptyBook => k_is)
    (case e1EmptyBook => k_exc)
    (case e2EmptyBook => k_is)
    (case e3EmptyBook => k_is)
    (case e4EmptyBook => k_is)
    (case e5EmptyBook => k_is)
    (case e6EmptyBook => k_is)
    (case e7EmptyBook => k_is)
    (case nNoSetting => k_is)
    (case e1NoSetting => k_exc)
    (case e2NoSetting => k_is)
    (case e3NoSetting => k_is)
    (case e4NoSetting => k_is)
    (case e5NoSetting => k_is)
    (case e6NoSetting => k_is)
    (case e7NoSetting => k_is)
    (case s_BadSay_SayError => k_is)
    (case q_BadSay_BadSay => kit_is)
    (case q_BadSay_EmptyBook => kit_is)
    (case q_BadSay_BadLine => kit_is)
    (case q_BadSay_FullBook => kit_is)
    (case q_BadSay_NoSetting => kit_is)
    (case q_BadSay_ValueError => kit_is)
    (case s_FullBook_SayError => k_is)
    (case q_FullBook_BadSay => kit_is)
    (case q_FullBook_EmptyBook => kit_is)
    (case q_FullBook_BadLine => kit_is)
    (case q_FullBook_FullBook => kit_is)
    (case q_FullBook_NoSetting => kit_is)
    (case q_FullBook_ValueError => kit_is)
    (case s_EmptyBook_SayError => k_is)
    (case q_EmptyBook_BadSay => kit_is)
    (case q_EmptyBook_EmptyBook => kit_is)
    (case q_EmptyBook_BadLine => kit_is)
    (case q_EmptyBook_FullBook => kit_is)
    (case q_EmptyBook_NoSetting => kit_is)
    (case q_EmptyBook_ValueError => kit_is)
    (case g_MOST_SAYS => k_is)
