import PyProof.Rows.All
import Wide.All
import OpenK.AllK
import Wide.FinOn
import PyProof.EqAt
import PyProof.EqKinds
import PyProof.TupleCall
import KE.BitLaws
import PySem.Challenge.RW_nestmend_k12_whole_nests_put_together
set_option Elab.async false
set_option linter.all false
set_option maxRecDepth 100000
namespace L2
open PySem PySem.Spec PyProof.Rows
abbrev Key := Sum Int Str
def keyIs : Key → Value → Bool
  | .inl k, v => Value.isInt k v
  | .inr x, v => Value.isStrOf x v
def keyH (w : World) : Key → Int
  | .inl k => hashInt k
  | .inr x => hashStr w x
theorem keyIs_shape : ∀ {k : Key} {v : Value}, keyIs k v = true → (∃ i t, k = Sum.inl i ∧ v = Value.int i t) ∨ (∃ x t, k = Sum.inr x ∧ v = Value.str x t)
  | .inl i, v, h => by
    obtain ⟨t, e⟩ := Value.isInt_shape (k := i) (v := v) h
    exact .inl ⟨i, t, rfl, e⟩
  | .inr x, v, h => by
    obtain ⟨t, e⟩ := Value.isStrOf_shape (x := x) (v := v) h
    exact .inr ⟨x, t, rfl, e⟩
theorem keyIs_int (i : Int) (t : Tok) : keyIs (.inl i) (.int i t) = true := by simp [keyIs, Value.isInt]
theorem keyIs_str (x : Str) (t : Tok) : keyIs (.inr x) (.str x t) = true := by simp [keyIs, Value.isStrOf]
theorem key_ll (a b : Int) : decide ((Sum.inl a : Key) = Sum.inl b) = (a == b) := by
  by_cases e : a = b
  · subst e; simp
  · have h : ¬ (Sum.inl a : Key) = Sum.inl b := fun q => e (Sum.inl.inj q)
    rw [decide_eq_false h]
    exact (beq_eq_false_iff_ne.mpr e).symm
theorem key_rr (a b : Str) : decide ((Sum.inr a : Key) = Sum.inr b) = decide (a = b) := by
  by_cases e : a = b
  · subst e; simp
  · have h : ¬ (Sum.inr a : Key) = Sum.inr b := fun q => e (Sum.inr.inj q)
    rw [decide_eq_false h, decide_eq_false e]
theorem key_lr (a : Int) (b : Str) : decide ((Sum.inl a : Key) = Sum.inr b) = false := decide_eq_false (fun q => nomatch q)
theorem key_rl (a : Str) (b : Int) : decide ((Sum.inr a : Key) = Sum.inl b) = false := decide_eq_false (fun q => nomatch q)
def mixKind (prog : Program) (w : World) : PySem.KeyKind prog w Key where
  is := keyIs
  hash := keyH w
  inj := fun v a b ha hb => by
    rcases keyIs_shape ha with ⟨i, t, rfl, rfl⟩ | ⟨x, t, rfl, rfl⟩
    · rcases keyIs_shape hb with ⟨j, u, rfl, e⟩ | ⟨y, u, rfl, e⟩
      · injection e with e1 _; rw [e1]
      · exact nomatch e
    · rcases keyIs_shape hb with ⟨j, u, rfl, e⟩ | ⟨y, u, rfl, e⟩
      · exact nomatch e
      · injection e with e1 _; rw [e1]
  byValue := fun k v h => by
    rcases keyIs_shape h with ⟨i, t, rfl, rfl⟩ | ⟨x, t, rfl, rfl⟩ <;> rfl
  pyHash := fun hv h => by
    rcases keyIs_shape hv with ⟨i, t, rfl, rfl⟩ | ⟨x, t, rfl, rfl⟩
    · exact wpAny_pyHash_int h
    · exact wpAny_pyHash_str h
  eqBool := fun hu hv h => by
    rcases keyIs_shape hu with ⟨i, t, rfl, rfl⟩ | ⟨x, t, rfl, rfl⟩
    · rcases keyIs_shape hv with ⟨j, u, rfl, rfl⟩ | ⟨y, u, rfl, rfl⟩
      · rw [key_ll] at h; exact wpAny_eqBool_int h
      · rw [key_lr] at h; exact SeqAt.EqAt.int_str i t y u _ _ _ _ h
    · rcases keyIs_shape hv with ⟨j, u, rfl, rfl⟩ | ⟨y, u, rfl, rfl⟩
      · rw [key_rl] at h; exact SeqAt.EqAt.str_int x t j u _ _ _ _ h
      · rw [key_rr] at h; exact wpAny_eqBool_str h
  «strs» := fun k x t v h => by
    rcases keyIs_shape h with ⟨i, u, rfl, e⟩ | ⟨y, u, rfl, e⟩
    · exact nomatch e
    · injection e with e1 _
      subst e1
      cases v <;> rfl
theorem mixKind_int (prog : Program) (w : World) (i : Int) (t : Tok) : (mixKind prog w).is (.inl i) (.int i t) = true := keyIs_int i t
theorem mixKind_str (prog : Program) (w : World) (x : Str) (t : Tok) : (mixKind prog w).is (.inr x) (.str x t) = true := keyIs_str x t
end L2
namespace L2
open PySem PySem.Spec PyProof.Rows
inductive V where
  | non | bl (b : Bool) | int (i : Int) | str (x : Str) | byt (b : Array UInt8) | flt (b : UInt64) | ref (a : Addr) | ty (n : String)
  deriving DecidableEq
def RelV : V → Value → Prop
  | .non, u => u = Value.none
  | .bl b, u => u = Value.bool b
  | .int i, u => ∃ t, u = Value.int i t
  | .str x, u => ∃ t, u = Value.str x t
  | .byt b, u => ∃ t, u = Value.bytes b t
  | .flt b, u => ∃ t, u = Value.float b t
  | .ref a, u => u = Value.ref a
  | .ty n, u => u = Value.type n
abbrev Vals : List V → List Value → Prop := Paired RelV
theorem Vals.length {xs : List V} {us : List Value} (r : Vals xs us) : xs.length = us.length := Paired.length r
theorem Vals.get : ∀ {xs : List V} {us : List Value} {i : Nat} {x : V}, Vals xs us → xs[i]? = some x → ∃ u, us[i]? = some u ∧ RelV x u
  | _, _, _, _, .nil, e => by simp at e
  | _, _, 0, _, .cons r _, e => by simp at e; subst e; exact ⟨_, rfl, r⟩
  | _, _, i + 1, x, .cons _ t, e => by
    obtain ⟨u, h1, h2⟩ := Vals.get (i := i) (x := x) t (by simpa using e)
    exact ⟨u, by simpa using h1, h2⟩
theorem Vals.set {x : V} {u : Value} (r : RelV x u) : ∀ {xs : List V} {us : List Value} (i : Nat), Vals xs us → Vals (xs.set i x) (us.set i u)
  | _, _, _, .nil => .nil
  | _, _, 0, .cons _ t => .cons r t
  | _, _, i + 1, .cons q t => .cons q (Vals.set r i t)
theorem Vals.append : ∀ {xs ys : List V} {us ws : List Value}, Vals xs us → Vals ys ws → Vals (xs ++ ys) (us ++ ws)
  | _, _, _, _, .nil, s => s
  | _, _, _, _, .cons r t, s => .cons r (Vals.append t s)
theorem Vals.take : ∀ {xs : List V} {us : List Value} (n : Nat), Vals xs us → Vals (xs.take n) (us.take n)
  | _, _, 0, _ => .nil
  | _, _, _ + 1, .nil => .nil
  | _, _, n + 1, .cons r t => .cons r (Vals.take n t)
theorem Vals.drop : ∀ {xs : List V} {us : List Value} (n : Nat), Vals xs us → Vals (xs.drop n) (us.drop n)
  | _, _, 0, r => r
  | _, _, _ + 1, .nil => .nil
  | _, _, n + 1, .cons _ t => Vals.drop n t
theorem Vals.none_of : ∀ {xs : List V} {us : List Value} {i : Nat}, Vals xs us → xs[i]? = none → us[i]? = none := fun {xs us i} r e => by
  have h1 := r.length
  have h2 : xs.length ≤ i := List.getElem?_eq_none_iff.mp e
  exact List.getElem?_eq_none_iff.mpr (by omega)
def RelO : Option V → Option Value → Prop
  | some v, some u => RelV v u
  | none, none => True
  | _, _ => False
def KV {κ : Type} : List (κ × V) → List (κ × Value) → Prop := Paired fun (p : κ × V) (q : κ × Value) => p.1 = q.1 ∧ RelV p.2 q.2
def kV : Key → V
  | .inl i => .int i
  | .inr x => .str x
inductive HO where
  | lst (xs : List V)
  | tup (xs : List V)
  | dK (kvs : List (Key × V)) | dT (kvs : List (List Key × V))
  | set (S : Int → Bool) (n : Nat)
  | ins (C dx : Addr) (fs : List (Str × V))
  | own (x : Addr)
  | xd (fs : List (Str × V))
  | met (f x : Addr)
  | rng (lo hi : Int)
  | frz (o : Obj) (u : HO)
  | tbl (ps : Array Value)
  | ext (φ : Heap → Prop)
abbrev Hp := Addr → Option HO
def upd (H : Hp) (a : Addr) (o : HO) : Hp := fun b => if b = a then some o else H b
theorem upd_same {H : Hp} {a : Addr} {o : HO} : upd H a o a = some o := by unfold upd; rw [if_pos rfl]
theorem upd_ne {H : Hp} {a b : Addr} {o : HO} (h : b ≠ a) : upd H a o b = H b := by unfold upd; rw [if_neg h]
theorem upd_upd {H : Hp} {a : Addr} {o u : HO} : upd (upd H a o) a u = upd H a u := by
  funext b; unfold upd; split <;> rfl
theorem ne_of_none {H : Hp} {a b : Addr} {o : HO} (h : H a = some o) (h' : H b = none) : a ≠ b := by
  intro e; subst e; rw [h] at h'; cases h'
section
variable (P : Program) (w : World)
def ObjOk (H : Hp) (h : Heap) (a : Addr) : HO → Prop
  | .lst xs => xs.length ≤ sizeLine ∧ ∃ (its : List Value) (n : Nat), Vals xs its ∧ h.get? a = some { cls := .type "list", data := .seq its.toArray n }
  | .tup xs => xs.length ≤ sizeLine ∧ ∃ its : List Value, Vals xs its ∧ IsTup h a its.toArray
  | .dK kvs => kvs.length ≤ sizeLine ∧ (a == sysModules) = false ∧ ∃ vs, KV kvs vs ∧ h.DictOf (mixKind P w) a vs
  | .dT kvs => kvs.length ≤ sizeLine ∧ (a == sysModules) = false ∧ ∃ xs : List (List Key × Addr × Value),
      Paired (fun (p : List Key × V) (q : List Key × Addr × Value) => p.1 = q.1 ∧ H q.2.1 = some (.tup (p.1.map kV)) ∧ RelV p.2 q.2.2) kvs xs ∧
      ∃ o es ep, h.get? a = some o ∧ o.ExactDict ∧ o.data = .dict es ep ∧ es.toList = xs.map (entryOfKey (tupleKind (mixKind P w))) ∧ (xs.map (·.1)).Nodup
  | .set S n => h.SetOf (intKind P w) a S n
  | .ins C dx fs => H dx = some (.own a) ∧ fs.length ≤ 1000 ∧ dx ≠ a ∧ h.get? a = some (PySem.W.instObj C dx) ∧
      ∃ mA, h.Ns1 dx mA ∧ (∀ f, RelO (fs.lookup f) (mA f)) ∧ PySem.Within mA (fs.map (·.1))
  | .own _ => ∃ o, h.get? a = some o
  | .xd fs => ∃ mA, h.Ns1 a mA ∧ ∀ f, RelO (fs.lookup f) (mA f)
  | .rng lo hi => ∃ t u v, h.get? a = some { cls := .type "range", data := .fields #[.int lo t, .int hi u, .int 1 v] }
  | .frz o u => h.get? a = some o ∧ ObjOk H h a u
  | .tbl ps => h.get? a = some { cls := .none, data := .fields ps }
  | .met f x => h.get? a = some (PySem.W.methodObj (.ref f) (.ref x))
  | .ext φ => φ h ∧ (∃ o, h.get? a = some o) ∧ ∀ h1 h2 : Heap, φ h1 → (∀ o, h1.get? a = some o → h2.get? a = some o) → φ h2
def HOk (H : Hp) (h : Heap) : Prop := ∀ a o, H a = some o → ObjOk P w H h a o
end
section
variable {P : Program} {w : World} {H H' : Hp} {h h' : Heap} {a : Addr} {o : HO}
theorem ObjOk.lt (x : ObjOk P w H h a o) : a < h.objs.size := by
  cases o with
  | lst xs => obtain ⟨_, _, _, _, e⟩ := x; exact Heap.lt_size e
  | tup xs => obtain ⟨_, _, _, p⟩ := x; exact p.lt
  | dK kvs => obtain ⟨_, _, _, _, o, _, _, e, _⟩ := x; exact Heap.lt_size e
  | dT kvs => obtain ⟨_, _, _, _, o, _, _, e, _⟩ := x; exact Heap.lt_size e
  | set S n => obtain ⟨o, _, _, _, e, _⟩ := x; exact Heap.lt_size e
  | ins C dx fs => obtain ⟨_, _, _, e, _⟩ := x; exact Heap.lt_size e
  | own y => obtain ⟨_, e⟩ := x; exact Heap.lt_size e
  | xd fs => obtain ⟨_, ⟨_, _, _, e, _⟩, _⟩ := x; exact Heap.lt_size e
  | rng lo hi => obtain ⟨_, _, _, e⟩ := x; exact Heap.lt_size e
  | frz ob u => obtain ⟨e, _⟩ := x; exact Heap.lt_size e
  | tbl ps => exact Heap.lt_size (show h.get? a = some _ from x)
  | met f y => exact Heap.lt_size (show h.get? a = some _ from x)
  | ext φ => obtain ⟨_, ⟨_, e⟩, _⟩ := x; exact Heap.lt_size e
theorem Paired.mapP {α β : Type} {F G : α → β → Prop} : ∀ {l₁ : List α} {l₂ : List β}, Paired F l₁ l₂ → (∀ a b, F a b → G a b) → Paired G l₁ l₂
  | _, _, .nil, _ => .nil
  | _, _, .cons r t, f => .cons (f _ _ r) (Paired.mapP t f)
theorem ObjOk.stay (x : ObjOk P w H h a o) (k : ∀ b u, (b = a ∨ H b = some (.own a)) → h.get? b = some u → h'.get? b = some u)
    (ho : ∀ b, H b = some (.own a) → H' b = some (.own a)) (ht : ∀ b xs, H b = some (.tup xs) → H' b = some (.tup xs)) : ObjOk P w H' h' a o := by
  induction o with
  | lst xs => obtain ⟨z, its, n, r, e⟩ := x; exact ⟨z, its, n, r, k _ _ (.inl rfl) e⟩
  | tup xs => obtain ⟨z, its, r, ob, e, c⟩ := x; exact ⟨z, its, r, ob, k _ _ (.inl rfl) e, c⟩
  | dK kvs => obtain ⟨z, y, vs, r, ob, es, ep, e, c⟩ := x; exact ⟨z, y, vs, r, ob, es, ep, k _ _ (.inl rfl) e, c⟩
  | dT kvs =>
    obtain ⟨z, y, xs, r, ob, es, ep, e, c⟩ := x
    exact ⟨z, y, xs, Paired.mapP r fun p q z => ⟨z.1, ht _ _ z.2.1, z.2.2⟩, ob, es, ep, k _ _ (.inl rfl) e, c⟩
  | set S n => obtain ⟨ob, es, ep, t, e, c⟩ := x; exact ⟨ob, es, ep, t, k _ _ (.inl rfl) e, c⟩
  | ins C dx fs =>
    obtain ⟨d, z, ne, e, mA, ⟨od, es, ep, e2, c⟩, r⟩ := x
    exact ⟨ho _ d, z, ne, k _ _ (.inl rfl) e, mA, ⟨od, es, ep, k _ _ (.inr d) e2, c⟩, r⟩
  | own y => obtain ⟨ob, e⟩ := x; exact ⟨ob, k _ _ (.inl rfl) e⟩
  | xd fs => obtain ⟨mA, ⟨od, es, ep, e, c⟩, r⟩ := x; exact ⟨mA, ⟨od, es, ep, k _ _ (.inl rfl) e, c⟩, r⟩
  | rng lo hi => obtain ⟨t, u, v, e⟩ := x; exact ⟨t, u, v, k _ _ (.inl rfl) e⟩
  | frz ob u ih => obtain ⟨e, q⟩ := x; exact ⟨k _ _ (.inl rfl) e, ih q⟩
  | tbl ps =>
    have e : h.get? a = some { cls := .none, data := .fields ps } := x
    show h'.get? a = some { cls := .none, data := .fields ps }
    exact k a _ (.inl rfl) e
  | met f y =>
    have e : h.get? a = some (PySem.W.methodObj (.ref f) (.ref y)) := x
    show h'.get? a = some (PySem.W.methodObj (.ref f) (.ref y))
    exact k a _ (.inl rfl) e
  | ext φ => obtain ⟨p, ⟨o, e⟩, st⟩ := x; exact ⟨st _ _ p fun o q => k _ _ (.inl rfl) q, ⟨o, k _ _ (.inl rfl) e⟩, st⟩
theorem HOk.lt (x : HOk P w H h) (e : H a = some o) : a < h.objs.size := (x a o e).lt
theorem HOk.fresh (x : HOk P w H h) (e : h.objs.size ≤ a) : H a = none := by
  cases q : H a with
  | none => rfl
  | some u => exact absurd (Nat.lt_of_lt_of_le (x.lt q) e) (Nat.lt_irrefl _)
theorem HOk.kept (x : HOk P w H h) (k : ∀ b u, h.get? b = some u → h'.get? b = some u) : HOk P w H h' := fun a o e =>
  (x a o e).stay (fun b u _ q => k b u q) (fun _ q => q) fun _ _ q => q
theorem HOk.laid (x : HOk P w H h) (k : ∀ b u, h.get? b = some u → h'.get? b = some u) (hp : h.objs.size ≤ a) (new : ObjOk P w (upd H a o) h' a o) : HOk P w (upd H a o) h' := fun b u e => by
  have hn := x.fresh hp
  by_cases hb : b = a
  · subst hb; rw [upd_same] at e; cases e; exact new
  · rw [upd_ne hb] at e
    exact (x b u e).stay (fun c v _ q => k c v q) (fun c q => by rw [upd_ne (ne_of_none q hn)]; exact q) fun c xs q => by rw [upd_ne (ne_of_none q hn)]; exact q
end
def Rd (H : Hp) (a : Addr) (u : HO) : Prop := H a = some u ∨ ∃ o, H a = some (.frz o u)
theorem Rd.of {H : Hp} {a : Addr} {u : HO} (h : H a = some u) : Rd H a u := .inl h
theorem Rd.ok {P : Program} {w : World} {H : Hp} {h : Heap} {a : Addr} {u : HO} (r : Rd H a u) (x : HOk P w H h) : ObjOk P w H h a u := by
  rcases r with r | ⟨o, r⟩
  · exact x a u r
  · obtain ⟨_, q⟩ := x a _ r
    exact q
def Mut : Option HO → Prop
  | some (.lst _) => True
  | some (.dK _) => True
  | some (.dT _) => True
  | some (.set _ _) => True
  | some (.ins _ _ _) => True
  | some (.ext _) => True
  | _ => False
section
variable {P : Program} {w : World} {H : Hp} {h h' : Heap} {x e : Addr} {o' : HO}
theorem HOk.write (ok : HOk P w H h) (mu : Mut (H x)) (he : e = x ∨ H e = some (.own x)) (k : ∀ b u, b ≠ e → h.get? b = some u → h'.get? b = some u) (heo : ∃ u, h'.get? e = some u)
    (new : ObjOk P w (upd H x o') h' x o') : HOk P w (upd H x o') h' := fun b u q => by
  have nown : ∀ c y, H c = some (.own y) → c ≠ x := fun c y r z => by subst z; rw [r] at mu; exact mu
  have ntup : ∀ c xs, H c = some (.tup xs) → c ≠ x := fun c xs r z => by subst z; rw [r] at mu; exact mu
  by_cases hb : b = x
  · subst hb; rw [upd_same] at q; cases q; exact new
  · rw [upd_ne hb] at q
    by_cases hbe : b = e
    · have q' : H b = some (.own x) := by
        rcases he with z | z
        · exact absurd (hbe.trans z) hb
        · rw [hbe]; exact z
      rw [q] at q'; cases q'
      obtain ⟨v, hv⟩ := heo
      exact ⟨v, by rw [hbe]; exact hv⟩
    · refine (ok b u q).stay (fun c v hc r => k c v ?_ r) (fun c r => by rw [upd_ne (nown c b r)]; exact r) fun c xs r => by rw [upd_ne (ntup c xs r)]; exact r
      rcases hc with rfl | hc
      · exact hbe
      · rintro rfl
        rcases he with z | z
        · exact nown c b hc z
        · rw [hc] at z; cases z; exact hb rfl
end
structure Un (fs ex : List Addr) (H H' : Hp) (h h' : Heap) : Prop where
  keep : ∀ b o, h.get? b = some o → H b = none → b ∉ fs → b ∉ ex → h'.get? b = some o
  slot : ∀ b o, h.get? b = some o → H b = none → b ∈ fs → b ∉ ex → ∃ sl, h'.get? b = some { o with slots := sl }
  free : ∀ b o, h.get? b = some o → H b = none → b ∉ ex → H' b = none
  there : ∀ b o, h.get? b = some o → b ∉ ex → ∃ o', h'.get? b = some o'
  tups : ∀ b xs, H b = some (.tup xs) → H' b = some (.tup xs)
  frzs : ∀ b o u, H b = some (.frz o u) → H' b = some (.frz o u)
  tbls : ∀ b ps, H b = some (.tbl ps) → ∃ more, H' b = some (.tbl (ps ++ more))
section
variable {fs fs' ex ex' : List Addr} {H H1 H2 : Hp} {h h1 h2 h' : Heap} {a x e : Addr} {o : HO}
theorem Un.any (u : Un fs ex H H1 h h1) {b : Addr} {ob : Obj} (q : h.get? b = some ob) (n : H b = none) (hx : b ∉ ex) : ∃ sl, h1.get? b = some { ob with slots := sl } := by
  by_cases hb : b ∈ fs
  · exact u.slot b ob q n hb hx
  · exact ⟨ob.slots, u.keep b ob q n hb hx⟩
theorem Un.trans (a : Un fs ex H H1 h h1) (b : Un fs ex H1 H2 h1 h2) : Un fs ex H H2 h h2 where
  keep := fun c ob q n hc hx => b.keep c ob (a.keep c ob q n hc hx) (a.free c ob q n hx) hc hx
  slot := fun c ob q n hc hx => by
    obtain ⟨sl, e1⟩ := a.slot c ob q n hc hx
    obtain ⟨sl', e2⟩ := b.slot c _ e1 (a.free c ob q n hx) hc hx
    exact ⟨sl', e2⟩
  free := fun c ob q n hx => by
    obtain ⟨o', e1⟩ := a.there c ob q hx
    exact b.free c o' e1 (a.free c ob q n hx) hx
  there := fun c ob q hx => by
    obtain ⟨o', e1⟩ := a.there c ob q hx
    exact b.there c o' e1 hx
  tups := fun c xs q => b.tups c xs (a.tups c xs q)
  frzs := fun c ob xs q => b.frzs c ob xs (a.frzs c ob xs q)
  tbls := fun c ps q => by
    obtain ⟨m1, e1⟩ := a.tbls c ps q
    obtain ⟨m2, e2⟩ := b.tbls c _ e1
    exact ⟨m1 ++ m2, by rw [e2, Array.append_assoc]⟩
theorem Un.kept (k : ∀ b u, h.get? b = some u → h'.get? b = some u) : Un fs ex H H h h' :=
  ⟨fun b ob q _ _ _ => k b ob q, fun b ob q _ _ _ => ⟨ob.slots, k b ob q⟩, fun _ _ _ n _ => n, fun b ob q _ => ⟨ob, k b ob q⟩, fun _ _ q => q, fun _ _ _ q => q, fun _ ps q => ⟨#[], by rw [q]; simp⟩⟩
theorem Un.refl : Un fs ex H H h h := Un.kept fun _ _ q => q
theorem Un.laid (k : ∀ b u, h.get? b = some u → h'.get? b = some u) (hp : h.objs.size ≤ a) (hn : H a = none) : Un fs ex H (upd H a o) h h' where
  keep := fun b u q _ _ _ => k b u q
  slot := fun b u q _ _ _ => ⟨u.slots, k b u q⟩
  free := fun b u q n _ => by rw [upd_ne (Nat.ne_of_lt (Nat.lt_of_lt_of_le (Heap.lt_size q) hp))]; exact n
  there := fun b u q _ => ⟨u, k b u q⟩
  tups := fun b xs q => by rw [upd_ne (ne_of_none q hn)]; exact q
  frzs := fun b u xs q => by rw [upd_ne (ne_of_none q hn)]; exact q
  tbls := fun b ps q => ⟨#[], by rw [upd_ne (ne_of_none q hn), q]; simp⟩
theorem Un.write (mu : Mut (H x)) (he : e = x ∨ H e = some (.own x)) (k : ∀ b u, b ≠ e → h.get? b = some u → h'.get? b = some u) (heo : ∃ u, h'.get? e = some u) : Un fs ex H (upd H x o) h h' := by
  have hx : ∀ b, H b = none → b ≠ x := fun b n z => by subst z; rw [n] at mu; exact mu
  have hb : ∀ b, H b = none → b ≠ e := fun b n z => by
    subst z
    rcases he with r | r
    · exact hx b n r
    · rw [n] at r; cases r
  have hm : ∀ b u, H b = some u → ¬ Mut (some u) → b ≠ x := fun b u q nm z => by subst z; rw [q] at mu; exact nm mu
  refine ⟨fun b u q n _ _ => k b u (hb b n) q, fun b u q n _ _ => ⟨u.slots, k b u (hb b n) q⟩, fun b u q n _ => by rw [upd_ne (hx b n)]; exact n, fun b u q _ => ?_,
    fun b xs q => by rw [upd_ne (hm b _ q fun z => z)]; exact q, fun b u xs q => by rw [upd_ne (hm b _ q fun z => z)]; exact q, fun b ps q => ⟨#[], by rw [upd_ne (hm b _ q fun z => z), q]; simp⟩⟩
  by_cases hbe : b = e
  · subst hbe; exact heo
  · exact ⟨u, k b u hbe q⟩
theorem Un.mono (u : Un fs ex H H1 h h1) (hs : ∀ b ∈ fs, b ∈ fs') (hx : ∀ b ∈ ex, b ∈ ex') : Un fs' ex' H H1 h h1 :=
  ⟨fun b ob q n hb he => u.keep b ob q n (fun z => hb (hs b z)) fun z => he (hx b z), fun _ _ q n _ he => u.any q n fun z => he (hx _ z), fun b ob q n he => u.free b ob q n fun z => he (hx b z), fun b ob q he => u.there b ob q fun z => he (hx b z), u.tups, u.frzs, u.tbls⟩
end
def trk (h : Heap) (H : Hp) : List Addr := (List.range h.objs.size).filter fun a => (H a).isSome
def hidT (h : Heap) (H : Hp) : Heap := PySem.W.hideAll h (trk h H)
theorem hidT_size (h : Heap) (H : Hp) : (hidT h H).objs.size = h.objs.size := PySem.W.hideAll_size _ _
theorem hidT_get {h : Heap} {H : Hp} {b : Addr} {o : Obj} (e : h.get? b = some o) (n : H b = none) : (hidT h H).get? b = some o :=
  PySem.W.hideAll_get _ e fun hm => by
    have q : (H b).isSome = true := (List.mem_filter.mp hm).2
    rw [n] at q; simp at q
theorem of_hidT {h : Heap} {H : Hp} {b : Addr} {o : Obj} (e : (hidT h H).get? b = some o) : h.get? b = some o ∧ H b = none := by
  have e' : h.get? b = some o := PySem.W.of_hideAll (trk h H) e
  refine ⟨e', ?_⟩
  cases q : H b with
  | none => rfl
  | some x =>
    have hm : b ∈ trk h H := List.mem_filter.mpr ⟨List.mem_range.mpr (Heap.lt_size e'), by simp [q]⟩
    have z : (hidT h H).get? b = none := PySem.W.hideAll_none (trk h H) hm
    rw [z] at e; cases e
def allNews (g h : Heap) (L : Addr) : List (Addr × Obj) := (List.range h.objs.size).filterMap fun a => if a = L ∨ (g.get? a).isSome = true then none else (h.get? a).map fun o => (a, o)
def rest (g h : Heap) (L d : Addr) : List (Addr × Obj) := (allNews g h L).filter fun p => decide (p.1 ≠ d)
end L2
namespace L2
open PySem PySem.Spec PyProof.Rows
structure Mod (K : PySem.W.Frag) (mg : Str → Option Value) (base : Heap) : Prop where
  kin : K.In base
  glob : base.Ns mainGlobals mg
  blt : ∃ mb, base.Ns builtinsNs mb ∧ ∀ x : Str, x ≠ "__name__" → mb x = bootBuiltins x
  nolimit : base.NoLimit
structure Cx where
  prog : Program
  w : World
  K : PySem.W.Frag
  mg : Str → Option Value
  base : Heap
  A : Around
  N : List Str
  s_0 : Shared
  H_0 : Hp
  env : Env
  outer : List Env
  stack : List Env
  ex : List Addr
  fn : Str → Bool
  calm : Bool
  pn : List (Addr × Obj)
  xe : Value → Shared → Prop
def frs (l : List Env) : List Addr := l.filterMap (·.frame)
abbrev Cx.fs (X : Cx) : List Addr := frs X.outer
def Vis (sc : Scope) (x : Str) : Prop := sc.names.lookup x = some .local ∨ sc.names.lookup x = some .cell ∨ sc.names.lookup x = some .free
def Loc (sc : Scope) (x : Str) : Prop := sc.names.lookup x = some .local ∨ sc.names.lookup x = some .cell
def Look (env : Env) (h : Heap) (m : Str → Option Value) (x : Str) (u : Value) : Prop :=
  (env.kindOf x = some .local ∧ m x = some u) ∨ ((env.kindOf x = some .cell ∨ env.kindOf x = some .free) ∧ ∃ c, env.cells.lookup x = some c ∧ h.IsCell c (some u))
structure Cx.Ok (X : Cx) : Prop where
  mod : Mod X.K X.mg X.base
  kind : X.env.scope.kind = .function
  glob : X.env.globals = mainGlobals
  blt : X.env.builtins = builtinsNs
  above : X.s_0.heap.objs.size ≤ X.env.locals
  inj : ∀ x y c, X.env.cells.lookup x = some c → X.env.cells.lookup y = some c → x = y
  has : ∀ x, (X.env.kindOf x = some .cell ∨ X.env.kindOf x = some .free) → ∃ c, X.env.cells.lookup x = some c
  cab : ∀ x c, X.fn x = true → X.env.cells.lookup x = some c → X.s_0.heap.objs.size ≤ c
  hd : X.calm = true → X.A.handled = none
  frames : X.A.frames = some X.stack
  stk : X.stack = X.outer ∨ (X.stack = X.env :: X.outer ∧ X.env.frame = some X.env.locals)
  exf : ∀ b ∈ X.ex, b ≠ X.env.locals ∧ ∀ x c, X.env.cells.lookup x = some c → c ≠ b
  bs : ∀ b o, X.base.get? b = some o → X.s_0.heap.get? b = some o ∧ X.H_0 b = none
  bsz : X.base.objs.size ≤ X.s_0.heap.objs.size
  noex : ∀ b o, X.base.get? b = some o → b ∉ X.ex
  exfs : ∀ b ∈ X.ex, b ∉ X.fs
  funs : X.s_0.heap.FunFrames X.base X.outer
  frf : ∀ b ∈ X.fs, X.H_0 b = none
structure Inv (X : Cx) (pins : List (Addr × Obj)) (σ : List (Option V)) (H : Hp) (s : Shared) : Prop where
  ok : X.Ok
  os : s.os = X.s_0.os
  bare : AllBare s.gens
  base : Un X.fs X.ex X.H_0 H X.s_0.heap s.heap
  loc : ∃ m, s.heap.Ns X.env.locals m ∧ ∀ (i : Nat) (x : Str) (v : V), X.N[i]? = some x → σ[i]? = some (some v) → Vis X.env.scope x → ∃ u, RelV v u ∧ Look X.env s.heap m x u
  cell : ∀ x c, X.env.cells.lookup x = some c → ∃ v, s.heap.IsCell c v
  free : H X.env.locals = none
  freeC : ∀ x c, X.env.cells.lookup x = some c → H c = none
  pin : ∀ p ∈ X.pn ++ pins, s.heap.get? p.1 = some p.2 ∧ H p.1 = none ∧ p.1 ≠ X.env.locals ∧ p.1 ∉ X.fs ∧ ∀ v, p.2.data ≠ .cell v
  hok : HOk X.prog X.w H s.heap
  len : σ.length = X.N.length
section
variable {X : Cx} {pins : List (Addr × Obj)} {σ : List (Option V)} {H H' : Hp} {s : Shared} {h' : Heap}
theorem Cx.Ok.nofr (ok : X.Ok) {b : Addr} {o : Obj} (e : X.base.get? b = some o) : b ∉ X.fs := fun hb => by
  have := (ok.funs.mem hb).1
  rw [e] at this; cases this
theorem Inv.bs (I : Inv X pins σ H s) : ∀ b o, X.base.get? b = some o → s.heap.get? b = some o ∧ H b = none := fun b o e =>
  ⟨I.base.keep b o (I.ok.bs b o e).1 (I.ok.bs b o e).2 (I.ok.nofr e) (I.ok.noex b o e), I.base.free b o (I.ok.bs b o e).1 (I.ok.bs b o e).2 (I.ok.noex b o e)⟩
theorem Inv.bk (I : Inv X pins σ H s) : ∀ b o, X.base.get? b = some o → s.heap.get? b = some o := fun b o e => (I.bs b o e).1
theorem Inv.mod (I : Inv X pins σ H s) : Mod X.K X.mg X.base := I.ok.mod
theorem Inv.kIn (I : Inv X pins σ H s) : X.K.In s.heap := I.ok.mod.kin.keeps I.bk
theorem Inv.nolimit (I : Inv X pins σ H s) : s.heap.NoLimit := I.ok.mod.nolimit.keeps I.bk
theorem Inv.fr (I : Inv X pins σ H s) : ∃ m, Fr X.base X.env.locals s.heap m :=
  let ⟨m, hn, _⟩ := I.loc
  ⟨m, hn, I.bk, Nat.le_trans I.ok.bsz I.ok.above⟩
theorem Inv.lt (I : Inv X pins σ H s) : X.env.locals < s.heap.objs.size := let ⟨_, hn, _⟩ := I.loc; hn.lt
theorem Inv.sz (I : Inv X pins σ H s) : X.s_0.heap.objs.size ≤ s.heap.objs.size := Nat.le_trans I.ok.above (Nat.le_of_lt I.lt)
theorem Inv.nofs (I : Inv X pins σ H s) {a : Addr} (h : s.heap.objs.size ≤ a) : a ∉ X.fs := fun hb => by
  obtain ⟨_, o, ho, _⟩ := I.ok.funs.mem hb
  exact absurd (Nat.lt_of_lt_of_le (Heap.lt_size ho) (Nat.le_trans I.sz h)) (Nat.lt_irrefl _)
theorem Inv.cne (I : Inv X pins σ H s) : ∀ x c, X.env.cells.lookup x = some c → c ≠ X.env.locals := fun x c e z => by
  obtain ⟨v, o, ho, hd⟩ := I.cell x c e
  obtain ⟨m, ⟨o', es, ep, ho', hd', _⟩, _⟩ := I.loc
  rw [z, ho'] at ho; cases ho; rw [hd'] at hd; cases hd
theorem Inv.funs (I : Inv X pins σ H s) : s.heap.FunFrames X.base X.outer := by
  have all : ∀ (l : List Env), (∀ b ∈ frs l, b ∈ X.fs) → X.s_0.heap.FunFrames X.base l → s.heap.FunFrames X.base l := by
    intro l
    induction l with
    | nil => intro _ _; trivial
    | cons env r ih =>
      intro hs hl
      obtain ⟨hk, ⟨L, o, hf, hn, ho, hd⟩, hr⟩ := hl
      have hL : L ∈ X.fs := hs L (by unfold frs; rw [List.filterMap_cons, hf]; exact List.mem_cons_self)
      obtain ⟨sl, e⟩ := I.base.slot L o ho (I.ok.frf L hL) hL fun z => I.ok.exfs L z hL
      exact ⟨hk, ⟨L, _, hf, hn, e, hd⟩, ih (fun b hb => hs b (by unfold frs; rw [List.filterMap_cons, hf]; exact List.mem_cons_of_mem _ hb)) hr⟩
  exact all X.outer (fun _ hb => hb) I.ok.funs
theorem Inv.stack (I : Inv X pins σ H s) : s.heap.FunFrames X.base X.stack := by
  rcases I.ok.stk with e | ⟨e, hf⟩
  · rw [e]; exact I.funs
  · rw [e]
    obtain ⟨m, hn, _⟩ := I.loc
    refine .cons (by rw [I.ok.kind]; decide) hf hn ?_ I.funs
    exact Heap.get?_none_of_le (Nat.le_trans I.ok.bsz I.ok.above)
theorem Inv.stkSub (I : Inv X pins σ H s) : ∀ b ∈ frs X.stack, b ∈ X.env.locals :: X.fs := fun b hb => by
  rcases I.ok.stk with e | ⟨e, hf⟩
  · rw [e] at hb; exact List.mem_cons_of_mem _ hb
  · rw [e] at hb
    unfold frs at hb
    rw [List.filterMap_cons, hf] at hb
    exact hb
theorem Inv.stkFree (I : Inv X pins σ H s) : ∀ b ∈ frs X.stack, H b = none := fun b hb => by
  rcases List.mem_cons.mp (I.stkSub b hb) with e | hb
  · rw [e]; exact I.free
  · obtain ⟨_, o, ho, _⟩ := I.ok.funs.mem hb
    exact I.base.free b o ho (I.ok.frf b hb) fun z => I.ok.exfs b z hb
theorem Inv.step {g' : Array GenState} {t' : Nat} {d' : Drawn} {ch : List Addr} (I : Inv X pins σ H s)
    (hch : ∀ b ∈ ch, (b ∈ X.ex ∨ X.s_0.heap.objs.size ≤ b) ∧ b ≠ X.env.locals ∧ (∀ x c, X.env.cells.lookup x = some c → c ≠ b) ∧ ∀ p ∈ X.pn ++ pins, p.1 ≠ b)
    (keep : ∀ b o, b ≠ X.env.locals → b ∉ X.fs → b ∉ ch → s.heap.get? b = some o → H b = none → h'.get? b = some o)
    (slot : ∀ b o, b ≠ X.env.locals → b ∈ X.fs → b ∉ ch → s.heap.get? b = some o → H b = none → ∃ sl, h'.get? b = some { o with slots := sl }) (free : ∀ b o, b ∉ ch → s.heap.get? b = some o → H b = none → H' b = none)
    (there : ∀ b o, b ∉ ch → s.heap.get? b = some o → ∃ o', h'.get? b = some o')
    (tups : ∀ b xs, H b = some (.tup xs) → H' b = some (.tup xs)) (frzs : ∀ b o u, H b = some (.frz o u) → H' b = some (.frz o u)) (tbls : ∀ b ps, H b = some (.tbl ps) → ∃ more, H' b = some (.tbl (ps ++ more)))
    (ns : ∀ m, s.heap.Ns X.env.locals m → h'.Ns X.env.locals m) (hok : HOk X.prog X.w H' h') (hg : AllBare g') :
    Inv X pins σ H' { s with heap := h', gens := g', drawn := d', toks := t' } := by
  have neL : ∀ b o, X.s_0.heap.get? b = some o → b ≠ X.env.locals := fun b o e => Nat.ne_of_lt (Nat.lt_of_lt_of_le (Heap.lt_size e) I.ok.above)
  have neC : ∀ b o, X.s_0.heap.get? b = some o → b ∉ X.ex → b ∉ ch := fun b o e hx hb => by
    rcases (hch b hb).1 with z | z
    · exact hx z
    · exact absurd (Nat.lt_of_lt_of_le (Heap.lt_size e) z) (Nat.lt_irrefl _)
  have cellK : ∀ x c, X.env.cells.lookup x = some c → ∀ v, s.heap.IsCell c v → h'.IsCell c v := fun x c e v ⟨o, ho, hd⟩ => by
    have nch : c ∉ ch := fun z => (hch c z).2.2.1 x c e rfl
    by_cases hc : c ∈ X.fs
    · obtain ⟨sl, q⟩ := slot c o (I.cne x c e) hc nch ho (I.freeC x c e)
      exact ⟨_, q, hd⟩
    · exact ⟨o, keep c o (I.cne x c e) hc nch ho (I.freeC x c e), hd⟩
  refine ⟨I.ok, I.os, hg, ⟨fun b o e n hb hx => ?_, fun b o e n hb hx => ?_, fun b o e n hx => ?_, fun b o e hx => ?_, fun b xs e => tups b xs (I.base.tups b xs e), fun b o xs e => frzs b o xs (I.base.frzs b o xs e), fun b ps e => ?_⟩, ?_, fun x c e => ?_, ?_, fun x c e => ?_, fun p hp => ?_, hok, I.len⟩
  · exact keep b o (neL b o e) hb (neC b o e hx) (I.base.keep b o e n hb hx) (I.base.free b o e n hx)
  · obtain ⟨sl, e1⟩ := I.base.slot b o e n hb hx
    obtain ⟨sl', e2⟩ := slot b _ (neL b o e) hb (neC b o e hx) e1 (I.base.free b o e n hx)
    exact ⟨sl', e2⟩
  · obtain ⟨o', e1⟩ := I.base.there b o e hx
    exact free b o' (neC b o e hx) e1 (I.base.free b o e n hx)
  · obtain ⟨o', e1⟩ := I.base.there b o e hx
    exact there b o' (neC b o e hx) e1
  · obtain ⟨m1, e1⟩ := I.base.tbls b ps e
    obtain ⟨m2, e2⟩ := tbls b _ e1
    exact ⟨m1 ++ m2, by rw [e2, Array.append_assoc]⟩
  · obtain ⟨m, hn, hl⟩ := I.loc
    refine ⟨m, ns m hn, fun i x v e1 e2 e3 => ?_⟩
    obtain ⟨u, r, l⟩ := hl i x v e1 e2 e3
    refine ⟨u, r, ?_⟩
    rcases l with l | ⟨k, c, e, z⟩
    · exact .inl l
    · exact .inr ⟨k, c, e, cellK x c e _ z⟩
  · obtain ⟨v, z⟩ := I.cell x c e
    exact ⟨v, cellK x c e v z⟩
  · obtain ⟨m, ⟨o, _, _, ho, _⟩, _⟩ := I.loc
    exact free _ o (fun z => (hch _ z).2.1 rfl) ho I.free
  · obtain ⟨v, o, ho, hd⟩ := I.cell x c e
    exact free c o (fun z => (hch c z).2.2.1 x c e rfl) ho (I.freeC x c e)
  · obtain ⟨e, n, ne, nf, d⟩ := I.pin p hp
    have nch : p.1 ∉ ch := fun z => (hch p.1 z).2.2.2 p hp rfl
    exact ⟨keep p.1 p.2 ne nf nch e n, free p.1 p.2 nch e n, ne, nf, d⟩
theorem Inv.un {t' : Nat} (I : Inv X pins σ H s) (u : Un X.fs [] H H' s.heap h') (hok : HOk X.prog X.w H' h') : Inv X pins σ H' { s with heap := h', toks := t' } := by
  obtain ⟨m, ⟨o, es, ep, ho, r⟩, _⟩ := id I.loc
  obtain ⟨sl, hL⟩ := u.any ho I.free (by simp)
  exact I.step (g' := s.gens) (d' := s.drawn) (ch := []) (fun _ z => nomatch z) (fun b o _ hb _ e n => u.keep b o e n hb (by simp)) (fun b o _ hb _ e n => u.slot b o e n hb (by simp)) (fun b o _ e n => u.free b o e n (by simp)) (fun b o _ e => u.there b o e (by simp)) u.tups u.frzs u.tbls (fun m' hm => by
    obtain ⟨o', es', ep', ho', r'⟩ := hm
    rw [ho] at ho'; cases ho'
    exact ⟨_, es', ep', hL, r'⟩) hok I.bare
theorem Inv.call {g' : Array GenState} {t' : Nat} {d' : Drawn} {ch : List Addr} (I : Inv X pins σ H s) (u : Un (frs X.stack) ch H H' s.heap h') (hok : HOk X.prog X.w H' h') (hg : AllBare g')
    (hch : ∀ b ∈ ch, (b ∈ X.ex ∨ X.s_0.heap.objs.size ≤ b) ∧ b ≠ X.env.locals ∧ (∀ x c, X.env.cells.lookup x = some c → c ≠ b) ∧ ∀ p ∈ X.pn ++ pins, p.1 ≠ b) :
    Inv X pins σ H' { s with heap := h', gens := g', drawn := d', toks := t' } := by
  obtain ⟨m, ⟨o, es, ep, ho, r⟩, _⟩ := id I.loc
  obtain ⟨sl, hL⟩ := u.any ho I.free fun z => (hch _ z).2.1 rfl
  exact I.step (ch := ch) hch (fun b o hL hb hc e n => u.keep b o e n (fun z => (List.mem_cons.mp (I.stkSub b z)).elim hL hb) hc) (fun b o _ _ hc e n => u.any e n hc) (fun b o hc e n => u.free b o e n hc) (fun b o hc e => u.there b o e hc) u.tups u.frzs u.tbls (fun m' hm => by
    obtain ⟨o', es', ep', ho', r'⟩ := hm
    rw [ho] at ho'; cases ho'
    exact ⟨_, es', ep', hL, r'⟩) hok hg
theorem Inv.turned {t' : Nat} {it : Addr} (I : Inv X pins σ H s) (k : ∀ b o, b ≠ it → s.heap.get? b = some o → h'.get? b = some o) (hn : H it = none) (hL : it ≠ X.env.locals)
    (h1 : it ∈ X.ex ∨ X.s_0.heap.objs.size ≤ it) (h2 : ∀ x c, X.env.cells.lookup x = some c → c ≠ it) (h3 : ∀ p ∈ X.pn ++ pins, p.1 ≠ it) : Inv X pins σ H { s with heap := h', toks := t' } := by
  have nit : ∀ b u, H b = some u → b ≠ it := fun b u e z => by rw [z, hn] at e; cases e
  refine I.step (g' := s.gens) (d' := s.drawn) (ch := [it]) (fun b hb => ?_) (fun b o _ _ hc e _ => k b o (fun z => hc (by simp [z])) e) (fun b o _ _ hc e _ => ⟨o.slots, k b o (fun z => hc (by simp [z])) e⟩) (fun _ _ _ _ n => n)
    (fun b o hc e => ⟨o, k b o (fun z => hc (by simp [z])) e⟩) (fun _ _ e => e) (fun _ _ _ e => e) (fun b ps e => ⟨#[], by rw [e]; simp⟩) (fun m hm => ?_) (fun b u e => ?_) I.bare
  · have e : b = it := by simpa using hb
    subst e
    exact ⟨h1, hL, h2, h3⟩
  · obtain ⟨o, es, ep, ho, r⟩ := hm
    exact ⟨o, es, ep, k _ o (Ne.symm hL) ho, r⟩
  · refine (I.hok b u e).stay (fun c v hc q => k c v ?_ q) (fun _ q => q) fun _ _ q => q
    rcases hc with z | z
    · rw [z]; exact nit b u e
    · exact nit c _ z
theorem Inv.tok (I : Inv X pins σ H s) (t : Nat) : Inv X pins σ H { s with toks := t } := I.un (h' := s.heap) (t' := t) Un.refl I.hok
theorem Inv.kept {t' : Nat} (I : Inv X pins σ H s) (k : ∀ b u, s.heap.get? b = some u → h'.get? b = some u) : Inv X pins σ H { s with heap := h', toks := t' } := I.un (Un.kept k) (I.hok.kept k)
theorem Inv.laid {a : Addr} {o : HO} {t' : Nat} (I : Inv X pins σ H s) (k : ∀ b u, s.heap.get? b = some u → h'.get? b = some u) (hp : s.heap.objs.size ≤ a) (new : ObjOk X.prog X.w (upd H a o) h' a o) :
    Inv X pins σ (upd H a o) { s with heap := h', toks := t' } := I.un (Un.laid k hp (I.hok.fresh hp)) (I.hok.laid k hp new)
theorem Inv.write {x e : Addr} {o : HO} {t' : Nat} (I : Inv X pins σ H s) (mu : Mut (H x)) (he : e = x ∨ H e = some (.own x)) (k : ∀ b u, b ≠ e → s.heap.get? b = some u → h'.get? b = some u) (heo : ∃ u, h'.get? e = some u)
    (new : ObjOk X.prog X.w (upd H x o) h' x o) : Inv X pins σ (upd H x o) { s with heap := h', toks := t' } := I.un (Un.write mu he k heo) (I.hok.write mu he k heo new)
theorem Inv.weak {σ' : List (Option V)} (I : Inv X pins σ H s) (hl : σ'.length = σ.length) (w : ∀ (i : Nat) v, σ'[i]? = some (some v) → σ[i]? = some (some v)) : Inv X pins σ' H s :=
  ⟨I.ok, I.os, I.bare, I.base, let ⟨m, hn, hl'⟩ := I.loc; ⟨m, hn, fun i x v e1 e2 e3 => hl' i x v e1 (w i v e2) e3⟩, I.cell, I.free, I.freeC, I.pin, I.hok, hl.trans I.len⟩
theorem Inv.pins_of {pins' : List (Addr × Obj)} (I : Inv X pins σ H s) (h : ∀ p ∈ pins', s.heap.get? p.1 = some p.2 ∧ H p.1 = none ∧ p.1 ≠ X.env.locals ∧ p.1 ∉ X.fs ∧ ∀ v, p.2.data ≠ .cell v) : Inv X pins' σ H s :=
  ⟨I.ok, I.os, I.bare, I.base, I.loc, I.cell, I.free, I.freeC, fun p hp => (List.mem_append.mp hp).elim (fun z => I.pin p (List.mem_append_left _ z)) (h p), I.hok, I.len⟩
theorem nodup_ix {N : List Str} (hN : N.Nodup) {i j : Nat} {x : Str} (a : N[i]? = some x) (b : N[j]? = some x) : i = j := by
  obtain ⟨h1, e1⟩ := List.getElem?_eq_some_iff.mp a
  obtain ⟨h2, e2⟩ := List.getElem?_eq_some_iff.mp b
  exact (List.getElem_inj hN).mp (e1.trans e2.symm)
theorem store_ok2 {M : Model} {A : Around} {E : Value → Shared → Prop} {i : Nat} {x : Str} {v : V} {u : Value} {Q : Unit → Shared → Prop} (I : Inv X pins σ H s) (hN : X.N.Nodup) (hi : X.N[i]? = some x) (hx : Loc X.env.scope x) (r : RelV v u)
    (h : ∀ s', Inv X pins (σ.set i (some v)) H s' → (∃ a, Heap.SameBut a s.heap s'.heap ∧ (a = X.env.locals ∨ X.env.cells.lookup x = some a)) → Q () s') (hf : X.fn x = true ∨ X.env.scope.names.lookup x = some .local := by first | exact .inl rfl | exact .inr rfl | assumption) : wpAny M A (storeName X.env x u) Q E s := by
  obtain ⟨m, hn, hl⟩ := id I.loc
  have hcls : (X.env.scope.kind == .class || (X.env.scope.kind == .module && X.env.locals != X.env.globals)) = false := by rw [I.ok.kind]; rfl
  have hiσ : i < σ.length := by rw [I.len]; exact (List.getElem?_eq_some_iff.mp hi).1
  have cne := I.cne
  have tracked : ∀ {a : Addr} {h' : Heap}, (∃ o, s.heap.get? a = some o ∧ H a = none) → Heap.SameBut a s.heap h' → HOk X.prog X.w H h' := fun {a h'} ha hs b ob e => by
    obtain ⟨_, _, hfree⟩ := ha
    refine (I.hok b ob e).stay (fun c w' hc q => (hs.2 c ?_).trans q) (fun _ q => q) fun _ _ q => q
    rintro rfl
    rcases hc with rfl | hc
    · rw [hfree] at e; cases e
    · rw [hfree] at hc; cases hc
  rcases hx with hk | hk
  · refine wpAny_storeName_local hk hn (fun h' hn' hs => ?_) hcls
    obtain ⟨oL, _, _, hoL, _⟩ := id hn
    refine h _ ⟨I.ok, I.os, I.bare, ⟨fun b o e n hb hx => ?_, fun b o e n hb hx => ?_, I.base.free, fun b o e hx => ?_, I.base.tups, I.base.frzs, I.base.tbls⟩, ⟨_, hn', fun j y v' e1 e2 e3 => ?_⟩, fun y c e => ?_, I.free, I.freeC, fun p hp => ?_, tracked ⟨oL, hoL, I.free⟩ hs, by simpa using I.len⟩ ⟨_, hs, .inl rfl⟩
    · exact (hs.2 b (Nat.ne_of_lt (Nat.lt_of_lt_of_le (Heap.lt_size e) I.ok.above))).trans (I.base.keep b o e n hb hx)
    · obtain ⟨sl, e1⟩ := I.base.slot b o e n hb hx
      exact ⟨sl, (hs.2 b (Nat.ne_of_lt (Nat.lt_of_lt_of_le (Heap.lt_size e) I.ok.above))).trans e1⟩
    · obtain ⟨o', e1⟩ := I.base.there b o e hx
      exact ⟨o', (hs.2 b (Nat.ne_of_lt (Nat.lt_of_lt_of_le (Heap.lt_size e) I.ok.above))).trans e1⟩
    · by_cases hj : j = i
      · subst hj
        rw [hi] at e1; cases e1
        rw [List.getElem?_set_self hiσ] at e2
        cases e2
        exact ⟨u, r, .inl ⟨hk, by simp⟩⟩
      · rw [List.getElem?_set_ne (Ne.symm hj)] at e2
        obtain ⟨u', r', q⟩ := hl j y v' e1 e2 e3
        refine ⟨u', r', ?_⟩
        rcases q with ⟨k, e⟩ | ⟨k, c, e, z⟩
        · refine .inl ⟨k, ?_⟩
          have : y ≠ x := fun e => hj (nodup_ix hN e1 (e ▸ hi))
          simp [this, e]
        · exact .inr ⟨k, c, e, z.sameBut hs (cne y c e)⟩
    · obtain ⟨w', z⟩ := I.cell y c e
      exact ⟨w', z.sameBut hs (cne y c e)⟩
    · obtain ⟨e, n, ne, nf, d⟩ := I.pin p hp
      exact ⟨(hs.2 p.1 ne).trans e, n, ne, nf, d⟩
  · have hfn : X.fn x = true := by
      rcases hf with z | z
      · exact z
      · rw [z] at hk; cases hk
    obtain ⟨c, hc⟩ := I.ok.has x (.inl hk)
    obtain ⟨w', z⟩ := I.cell x c hc
    refine wpAny_storeName_cell I.ok.kind hk hc z (fun h' hc' hs => ?_)
    obtain ⟨oc, hoc, hocd⟩ := id z
    refine h { s with heap := h' } ⟨I.ok, I.os, I.bare, ⟨fun b o e n hb hx => ?_, fun b o e n hb hx => ?_, I.base.free, fun b o e hx => ?_, I.base.tups, I.base.frzs, I.base.tbls⟩, ⟨m, hn.sameBut hs (Ne.symm (cne x c hc)), fun j y v' e1 e2 e3 => ?_⟩, fun y c' e => ?_, I.free, I.freeC, fun p hp => ?_, tracked ⟨oc, hoc, I.freeC x c hc⟩ hs, by simpa using I.len⟩ ⟨c, hs, .inr hc⟩
    · exact (hs.2 b (Nat.ne_of_lt (Nat.lt_of_lt_of_le (Heap.lt_size e) (I.ok.cab x c hfn hc)))).trans (I.base.keep b o e n hb hx)
    · obtain ⟨sl, e1⟩ := I.base.slot b o e n hb hx
      exact ⟨sl, (hs.2 b (Nat.ne_of_lt (Nat.lt_of_lt_of_le (Heap.lt_size e) (I.ok.cab x c hfn hc)))).trans e1⟩
    · obtain ⟨o', e1⟩ := I.base.there b o e hx
      exact ⟨o', (hs.2 b (Nat.ne_of_lt (Nat.lt_of_lt_of_le (Heap.lt_size e) (I.ok.cab x c hfn hc)))).trans e1⟩
    · by_cases hj : j = i
      · subst hj
        rw [hi] at e1; cases e1
        rw [List.getElem?_set_self hiσ] at e2
        cases e2
        exact ⟨u, r, .inr ⟨.inl hk, c, hc, hc'⟩⟩
      · rw [List.getElem?_set_ne (Ne.symm hj)] at e2
        obtain ⟨u', r', q⟩ := hl j y v' e1 e2 e3
        refine ⟨u', r', ?_⟩
        rcases q with q | ⟨k, c', e, z'⟩
        · exact .inl q
        · refine .inr ⟨k, c', e, z'.sameBut hs ?_⟩
          rintro rfl
          exact hj (nodup_ix hN e1 (I.ok.inj _ _ _ e hc ▸ hi))
    · by_cases hcc : c' = c
      · subst hcc; exact ⟨_, hc'⟩
      · obtain ⟨w2, z2⟩ := I.cell y c' e
        exact ⟨w2, z2.sameBut hs hcc⟩
    · obtain ⟨e, n, ne, nf, d⟩ := I.pin p hp
      refine ⟨(hs.2 p.1 ?_).trans e, n, ne, nf, d⟩
      intro q
      rw [q, hoc] at e
      have q' : oc = p.2 := Option.some.inj e
      exact d w' (by rw [← q']; exact hocd)
theorem store_ok {M : Model} {A : Around} {E : Value → Shared → Prop} {i : Nat} {x : Str} {v : V} {u : Value} {Q : Unit → Shared → Prop} (I : Inv X pins σ H s) (hN : X.N.Nodup) (hi : X.N[i]? = some x) (hx : Loc X.env.scope x) (r : RelV v u)
    (h : ∀ s', Inv X pins (σ.set i (some v)) H s' → Q () s') (hf : X.fn x = true ∨ X.env.scope.names.lookup x = some .local := by first | exact .inl rfl | exact .inr rfl | assumption) : wpAny M A (storeName X.env x u) Q E s :=
  store_ok2 I hN hi hx r (fun s' I' _ => h s' I') hf
theorem Inv.call' {s' : Shared} {ch : List Addr} (I : Inv X pins σ H s) (ho : s'.os = s.os) (u : Un (frs X.stack) ch H H' s.heap s'.heap) (hok : HOk X.prog X.w H' s'.heap) (hg : AllBare s'.gens)
    (hch : ∀ b ∈ ch, (b ∈ X.ex ∨ X.s_0.heap.objs.size ≤ b) ∧ b ≠ X.env.locals ∧ (∀ x c, X.env.cells.lookup x = some c → c ≠ b) ∧ ∀ p ∈ X.pn ++ pins, p.1 ≠ b) : Inv X pins σ H' s' := by
  obtain ⟨h', g', d', t', o'⟩ := s'
  have e : o' = s.os := ho
  subst e
  exact I.call (g' := g') (t' := t') (d' := d') u hok hg hch
end
abbrev XK := Value → Option Addr → Hp → Prop
abbrev St := List (Option V)
abbrev VK := V → Hp → Prop
abbrev TE := St → Hp → VK → Prop
abbrev TT := St → Hp → (Bool → Hp → Prop) → Prop
abbrev TA := St → Hp → (List V → Hp → Prop) → Prop
structure Ends where
  nx : St → Hp → Prop
  rt : VK
  bk : St → Hp → Prop := fun _ _ => False
  ct : St → Hp → Prop := fun _ _ => False
abbrev TS := Ends → St → Hp → Prop
def EP (X : Cx) (pins : List (Addr × Obj)) (σ : St) (Q : VK) (u : Value) (s' : Shared) : Prop := ∃ v H', Inv X pins σ H' s' ∧ RelV v u ∧ Q v H'
def TP (X : Cx) (pins : List (Addr × Obj)) (σ : St) (Q : Bool → Hp → Prop) (b : Bool) (s' : Shared) : Prop := ∃ H', Inv X pins σ H' s' ∧ Q b H'
def AP (X : Cx) (pins : List (Addr × Obj)) (σ : St) (Q : List V → Hp → Prop) (us : List Value) (s' : Shared) : Prop := ∃ vs H', Inv X pins σ H' s' ∧ Vals vs us ∧ Q vs H'
def SP (X : Cx) (pins : List (Addr × Obj)) (D : Ends) (f : Flow) (s' : Shared) : Prop :=
  match f with
  | .next => ∃ σ' H', Inv X pins σ' H' s' ∧ D.nx σ' H'
  | .brk => ∃ σ' H', Inv X pins σ' H' s' ∧ D.bk σ' H'
  | .cont => ∃ σ' H', Inv X pins σ' H' s' ∧ D.ct σ' H'
  | .ret u => ∃ v σ' H', Inv X pins σ' H' s' ∧ RelV v u ∧ D.rt v H'
def PE (X : Cx) (e : Expr) (t : TE) : Prop :=
  ∀ (pins : List (Addr × Obj)) (s : Shared) (σ : St) (H : Hp) (Q : VK), Inv X pins σ H s → t σ H Q → wpAny (model X.prog X.w) X.A (eval e X.env) (EP X pins σ Q) X.xe s
def PT (X : Cx) (e : Expr) (t : TT) : Prop :=
  ∀ (pins : List (Addr × Obj)) (s : Shared) (σ : St) (H : Hp) (Q : Bool → Hp → Prop), Inv X pins σ H s → t σ H Q → wpAny (model X.prog X.w) X.A (isTrue e X.env (eval e X.env)) (TP X pins σ Q) X.xe s
def PW (X : Cx) (e : Expr) (t : TT) : Prop :=
  ∀ (whole : Sem Value) (pins : List (Addr × Obj)) (s : Shared) (σ : St) (H : Hp) (Q : Bool → Hp → Prop), Inv X pins σ H s → t σ H Q → wpAny (model X.prog X.w) X.A (isTrue e X.env whole) (TP X pins σ Q) X.xe s
theorem PW.pt {X : Cx} {e : Expr} {t : TT} (h : PW X e t) : PT X e t := h _
def PA (X : Cx) (es : List Expr) (t : TA) : Prop :=
  ∀ (pos : Pos) (pins : List (Addr × Obj)) (s : Shared) (σ : St) (H : Hp) (Q : List V → Hp → Prop), Inv X pins σ H s → t σ H Q → wpAny (model X.prog X.w) X.A (spliced (backTo pos (starEach es X.env))) (AP X pins σ Q) X.xe s
def PS (X : Cx) (st : Stmt) (t : TS) : Prop :=
  ∀ (pins : List (Addr × Obj)) (s : Shared) (σ : St) (H : Hp) (D : Ends), Inv X pins σ H s → t D σ H → wpAny (model X.prog X.w) X.A (exec st X.env) (SP X pins D) X.xe s
def PSs (X : Cx) (st : List Stmt) (t : TS) : Prop :=
  ∀ (pins : List (Addr × Obj)) (s : Shared) (σ : St) (H : Hp) (D : Ends), Inv X pins σ H s → t D σ H → wpAny (model X.prog X.w) X.A (execs st X.env) (SP X pins D) X.xe s
theorem thn {α : Type} {t : Sem α} {Q Q' : α → Shared → Prop} {M : Model} {A : Around} {E : Value → Shared → Prop} {s : Shared} (h : wpAny M A t Q E s) (hQ : ∀ a s, Q a s → Q' a s) : wpAny M A t Q' E s := wpAny_mono h hQ fun _ _ x => x
end L2
namespace L2
open PySem PySem.Spec PyProof.Rows
section
variable {X : Cx}
def tVar (i : Nat) : TE := fun σ H Q => ∃ v, σ[i]? = some (some v) ∧ Q v H
def tC (v : V) : TE := fun _ H Q => Q v H
theorem pe_var {i : Nat} {x : Str} {pos : Pos} (hN : X.N[i]? = some x) (hv : Vis X.env.scope x) (hd : (x == ("__debug__" : Str)) = false := by decide) (hcd : (x == ("__classdict__" : Str)) = false := by decide) : PE X (.Name x pos) (tVar i) := by
  intro pins s σ H Q I h
  obtain ⟨v, e, h⟩ := h
  obtain ⟨m, hn, hl⟩ := I.loc
  obtain ⟨u, r, l⟩ := hl i x v hN e hv
  have fin : EP X pins σ Q u s := ⟨v, H, I, r, h⟩
  rcases l with ⟨hk, hm⟩ | ⟨hk, c, hc, hcell⟩
  · exact wpAny_Name (wpAny_loadName_local I.ok.kind hk hn hm fin) hd
  · rcases hk with hk | hk
    · exact wpAny_Name (wpAny_loadName_cell I.ok.kind hk hc hcell fin) hd
    · exact wpAny_Name (wpAny_loadName_free I.ok.kind hk hc hcell fin hcd) hd
theorem pe_int {i j pos} : PE X (.Constant (.int i) j pos) (tC (.int i)) := fun _ _ _ H _ I h => wpAny_Constant_int ⟨.int i, H, I.tok _, ⟨_, rfl⟩, h⟩
theorem pe_bl {b j pos} : PE X (.Constant (.bool b) j pos) (tC (.bl b)) := fun _ _ _ H _ I h => Constant_bool ⟨.bl b, H, I, rfl, h⟩
theorem pe_non {j pos} : PE X (.Constant .none j pos) (tC .non) := fun _ _ _ H _ I h => Constant_none ⟨.non, H, I, rfl, h⟩
theorem pe_str {x j pos} : PE X (.Constant (.str x) j pos) (tC (.str x)) := fun _ _ _ H _ I h => Calls.Constant_str ⟨.str x, H, I.tok _, ⟨_, rfl⟩, h⟩
def Gl (X : Cx) (x : Str) : Prop := X.env.kindOf x = some .globalImplicit
theorem ld_glob {E : Value → Shared → Prop} {pins : List (Addr × Obj)} {s : Shared} {σ : St} {H : Hp} {x : Str} {u : Value} {pos : Pos} {Q : Value → Shared → Prop} (I : Inv X pins σ H s) (hg : Gl X x) (hm : X.mg x = some u) (h : Q u s)
    (hd : (x == ("__debug__" : Str)) = false := by decide) : wpAny (model X.prog X.w) X.A (eval (.Name x pos) X.env) Q E s :=
  Calls.Name_function_global I.ok.kind hg (Calls.loadGlobal_global (by rw [I.ok.glob]; exact I.mod.glob.keeps I.bk) hm h) hd
theorem ld_blt {E : Value → Shared → Prop} {pins : List (Addr × Obj)} {s : Shared} {σ : St} {H : Hp} {x : Str} {u : Value} {pos : Pos} {Q : Value → Shared → Prop} (I : Inv X pins σ H s) (hg : Gl X x) (hm : X.mg x = none) (hv : bootBuiltins x = some u) (h : Q u s)
    (hn : x ≠ "__name__" := by decide) (hd : (x == ("__debug__" : Str)) = false := by decide) : wpAny (model X.prog X.w) X.A (eval (.Name x pos) X.env) Q E s := by
  obtain ⟨mb, h1, h2⟩ := I.mod.blt
  exact Calls.Name_function_global I.ok.kind hg (Calls.loadGlobal_builtin (by rw [I.ok.glob]; exact I.mod.glob.keeps I.bk) hm (by rw [I.ok.blt]; exact h1.keeps I.bk) ((h2 x hn).trans hv) h) hd
theorem pe_glob {x : Str} {v : V} {u : Value} {pos : Pos} (hg : Gl X x) (hm : X.mg x = some u) (r : RelV v u) (hd : (x == ("__debug__" : Str)) = false := by decide) : PE X (.Name x pos) (tC v) :=
  fun _ _ _ H _ I h => ld_glob I hg hm ⟨v, H, I, r, h⟩ hd
theorem pe_bltn {x : Str} {v : V} {u : Value} {pos : Pos} (hg : Gl X x) (hm : X.mg x = none) (hv : bootBuiltins x = some u) (r : RelV v u) (hn : x ≠ "__name__" := by decide) (hd : (x == ("__debug__" : Str)) = false := by decide) : PE X (.Name x pos) (tC v) :=
  fun _ _ _ H _ I h => ld_blt I hg hm hv ⟨v, H, I, r, h⟩ hn hd
variable {a b : Expr} {ta tb : TE} {pos : Pos}
variable {tA tB' : TT} {rest : List Expr}
def tAnd (t u : TT) : TT := fun σ H Q => t σ H fun c H1 => if c = true then u σ H1 Q else Q false H1
def tOr (t u : TT) : TT := fun σ H Q => t σ H fun c H1 => if c = true then Q true H1 else u σ H1 Q
def tNot (t : TT) : TT := fun σ H Q => t σ H fun c H1 => Q (!c) H1
theorem pw_and1 (ha : PT X a tA) : PW X (.BoolOp .And [a] pos) tA := by
  intro wh pins s σ H Q I h
  refine isTrue_and (thn (ha pins s σ H Q I h) fun c s1 e => ?_)
  cases c with
  | true => exact isTrue_and_nil e
  | false => exact e
theorem pw_or1 (ha : PT X a tA) : PW X (.BoolOp .Or [a] pos) tA := by
  intro wh pins s σ H Q I h
  refine isTrue_or (thn (ha pins s σ H Q I h) fun c s1 e => ?_)
  cases c with
  | false => exact isTrue_or_nil e
  | true => exact e
theorem pw_and (ha : PT X a tA) (hb : PW X (.BoolOp .And (b :: rest) pos) tB') : PW X (.BoolOp .And (a :: b :: rest) pos) (tAnd tA tB') := by
  intro wh pins s σ H Q I h
  refine isTrue_and (thn (ha pins s σ H _ I h) fun c s1 ⟨H1, I1, q1⟩ => ?_)
  cases c with
  | true => exact hb wh pins s1 σ H1 Q I1 q1
  | false => exact ⟨H1, I1, q1⟩
theorem pw_or (ha : PT X a tA) (hb : PW X (.BoolOp .Or (b :: rest) pos) tB') : PW X (.BoolOp .Or (a :: b :: rest) pos) (tOr tA tB') := by
  intro wh pins s σ H Q I h
  refine isTrue_or (thn (ha pins s σ H _ I h) fun c s1 ⟨H1, I1, q1⟩ => ?_)
  cases c with
  | true => exact ⟨H1, I1, q1⟩
  | false => exact hb wh pins s1 σ H1 Q I1 q1
theorem pt_not (ha : PT X a tA) : PT X (.UnaryOp .Not a pos) (tNot tA) := by
  intro pins s σ H Q I h
  exact isTrue_not (ha pins s σ H (fun c H1 => Q (!c) H1) I h)
theorem pe_one {op} {t : TE} (h : PE X a t) : PE X (.BoolOp op [a] pos) t := fun pins s σ H Q I hw => BoolOp_one (h pins s σ H Q I hw)
def tIf (t : TT) (ta tb : TE) : TE := fun σ H Q => t σ H fun c H1 => if c = true then ta σ H1 Q else tb σ H1 Q
theorem pe_ifExp {c : Expr} (hc : PT X c tA) (ha : PE X a ta) (hb : PE X b tb) : PE X (.IfExp c a b pos) (tIf tA ta tb) := by
  intro pins s σ H Q I h
  refine wpAny_IfExp (thn (hc pins s σ H _ I h) fun d s1 ⟨H1, I1, q1⟩ => ?_)
  cases d with
  | true => exact ha pins s1 σ H1 Q I1 q1
  | false => exact hb pins s1 σ H1 Q I1 q1
end
end L2
namespace L2
open PySem PySem.Spec PyProof.Rows
def SqL (K : PySem.W.Frag) (H : Hp) (a : Addr) (xs : List V) : Prop :=
  Rd H a (.lst xs) ∨
    ∃ (o : Obj) (its : Array Value) (n : Nat), K.lookup a = some o ∧ o.cls = .type "list" ∧ o.dict = none ∧ o.data = .seq its n ∧ its.size ≤ sizeLine ∧ Vals xs its.toList
def SqT (K : PySem.W.Frag) (H : Hp) (a : Addr) (xs : List V) : Prop :=
  Rd H a (.tup xs) ∨
    ∃ (o : Obj) (its : Array Value) (n : Nat), K.lookup a = some o ∧ o.cls = .type "tuple" ∧ o.data = .seq its n ∧ its.size ≤ sizeLine ∧ Vals xs its.toList
def absV : Value → Option V
  | .none => some .non
  | .bool b => some (.bl b)
  | .int i _ => some (.int i)
  | .str x _ => some (.str x)
  | .bytes b _ => some (.byt b)
  | .float b _ => some (.flt b)
  | .ref a => some (.ref a)
  | .type n => some (.ty n)
  | _ => none
theorem RelV.abs {x : V} {u : Value} (r : RelV x u) : absV u = some x := by
  cases x with
  | non => cases r; rfl
  | bl _ => cases r; rfl
  | int _ => obtain ⟨t, rfl⟩ := r; rfl
  | str _ => obtain ⟨t, rfl⟩ := r; rfl
  | byt _ => obtain ⟨t, rfl⟩ := r; rfl
  | flt _ => obtain ⟨t, rfl⟩ := r; rfl
  | ref _ => cases r; rfl
  | ty _ => cases r; rfl
theorem RelV.inj {x y : V} {u : Value} (r : RelV x u) (q : RelV y u) : x = y := Option.some.inj (r.abs.symm.trans q.abs)
theorem Vals.inj : ∀ {xs ys : List V} {us : List Value}, Vals xs us → Vals ys us → xs = ys
  | _, _, _, .nil, .nil => rfl
  | _, _, _, .cons r t, .cons r' t' => by rw [r.inj r', Vals.inj t t']
section
variable {X : Cx} {pins : List (Addr × Obj)} {σ : St} {H : Hp} {s : Shared} {a : Addr} {xs ys : List V}
theorem SqL.of {K : PySem.W.Frag} (h : H a = some (.lst xs)) : SqL K H a xs := .inl (.inl h)
theorem SqT.of {K : PySem.W.Frag} (h : H a = some (.tup xs)) : SqT K H a xs := .inl (.inl h)
theorem Inv.list (I : Inv X pins σ H s) (h : SqL X.K H a xs) : ∃ its : List Value, Vals xs its ∧ PlainL s.heap a its.toArray ∧ xs.length ≤ sizeLine := by
  rcases h with h | ⟨o, its, n, hk, hc, hd, hs, hz, r⟩
  · obtain ⟨z, its, n, r, e⟩ := h.ok I.hok
    exact ⟨its, r, ⟨_, n, e, rfl, rfl, rfl⟩, z⟩
  · refine ⟨its.toList, r, ⟨o, n, I.kIn a o hk, hc, hd, by simpa using hs⟩, ?_⟩
    have e := r.length
    simp only [Array.length_toList] at e
    omega
theorem Inv.tuple (I : Inv X pins σ H s) (h : SqT X.K H a xs) : ∃ its : List Value, Vals xs its ∧ IsTup s.heap a its.toArray ∧ xs.length ≤ sizeLine := by
  rcases h with h | ⟨o, its, n, hk, hc, hs, hz, r⟩
  · obtain ⟨z, its, r, p⟩ := h.ok I.hok
    exact ⟨its, r, p, z⟩
  · refine ⟨its.toList, r, ⟨o, I.kIn a o hk, hc, n, by simpa using hs⟩, ?_⟩
    have e := r.length
    simp only [Array.length_toList] at e
    omega
theorem Inv.list_inj (I : Inv X pins σ H s) (h : SqL X.K H a xs) (h' : SqL X.K H a ys) : xs = ys := by
  obtain ⟨its, r, ⟨o, n, e, _, _, d⟩, _⟩ := I.list h
  obtain ⟨its', r', ⟨o', n', e', _, _, d'⟩, _⟩ := I.list h'
  rw [e] at e'; cases e'
  rw [d] at d'
  injection d' with d1 _
  have : its = its' := by simpa using congrArg Array.toList d1
  subst this
  exact r.inj r'
theorem Inv.tuple_inj (I : Inv X pins σ H s) (h : SqT X.K H a xs) (h' : SqT X.K H a ys) : xs = ys := by
  obtain ⟨its, r, ⟨o, e, _, n, d⟩, _⟩ := I.tuple h
  obtain ⟨its', r', ⟨o', e', _, n', d'⟩, _⟩ := I.tuple h'
  rw [e] at e'; cases e'
  rw [d] at d'
  injection d' with d1 _
  have : its = its' := by simpa using congrArg Array.toList d1
  subst this
  exact r.inj r'
end
abbrev Cx.wish (X : Cx) (E : Value → Shared → Prop) : Cx := { X with xe := E }
abbrev Cx.nox (X : Cx) : Cx := X.wish fun _ _ => False
theorem Cx.Ok.wish {X : Cx} (ok : X.Ok) (E : Value → Shared → Prop) : (X.wish E).Ok :=
  ⟨ok.mod, ok.kind, ok.glob, ok.blt, ok.above, ok.inj, ok.has, ok.cab, ok.hd, ok.frames, ok.stk, ok.exf, ok.bs, ok.bsz, ok.noex, ok.exfs, ok.funs, ok.frf⟩
theorem Cx.Ok.unwish {X : Cx} {E : Value → Shared → Prop} (ok : (X.wish E).Ok) : X.Ok :=
  ⟨ok.mod, ok.kind, ok.glob, ok.blt, ok.above, ok.inj, ok.has, ok.cab, ok.hd, ok.frames, ok.stk, ok.exf, ok.bs, ok.bsz, ok.noex, ok.exfs, ok.funs, ok.frf⟩
section
variable {X : Cx} {pins : List (Addr × Obj)} {σ : St} {H : Hp} {s : Shared} {E : Value → Shared → Prop}
theorem Inv.wish (I : Inv X pins σ H s) (E : Value → Shared → Prop) : Inv (X.wish E) pins σ H s := ⟨I.ok.wish E, I.os, I.bare, I.base, I.loc, I.cell, I.free, I.freeC, I.pin, I.hok, I.len⟩
theorem Inv.unwish (I : Inv (X.wish E) pins σ H s) : Inv X pins σ H s := ⟨I.ok.unwish, I.os, I.bare, I.base, I.loc, I.cell, I.free, I.freeC, I.pin, I.hok, I.len⟩
theorem SP.unwish {D : Ends} {f : Flow} {s' : Shared} (h : SP (X.wish E) pins D f s') : SP X pins D f s' := by
  cases f with
  | next => obtain ⟨σ', H', I, q⟩ := h; exact ⟨σ', H', I.unwish, q⟩
  | brk => obtain ⟨σ', H', I, q⟩ := h; exact ⟨σ', H', I.unwish, q⟩
  | cont => obtain ⟨σ', H', I, q⟩ := h; exact ⟨σ', H', I.unwish, q⟩
  | ret u => obtain ⟨v, σ', H', I, r, q⟩ := h; exact ⟨v, σ', H', I.unwish, r, q⟩
theorem PE.nox {e : Expr} {t : TE} (h : PE X.nox e t) : PE X e t := fun pins s σ H Q I hw =>
  wpAny_mono (h pins s σ H Q (I.wish _) hw) (fun _ _ ⟨v, H', I', r, q⟩ => ⟨v, H', I'.unwish, r, q⟩) fun _ _ z => False.elim z
theorem PT.nox {e : Expr} {t : TT} (h : PT X.nox e t) : PT X e t := fun pins s σ H Q I hw =>
  wpAny_mono (h pins s σ H Q (I.wish _) hw) (fun _ _ ⟨H', I', q⟩ => ⟨H', I'.unwish, q⟩) fun _ _ z => False.elim z
theorem PSs.nox {st : List Stmt} {t : TS} (h : PSs X.nox st t) : PSs X st t := fun pins s σ H D I hw =>
  wpAny_mono (h pins s σ H D (I.wish _) hw) (fun _ _ q => q.unwish) fun _ _ z => False.elim z
end
section
variable {X : Cx} {st : Stmt} {rest : List Stmt} {t u : TS} {e : Expr} {te : TE} {pos : Pos}
def tNext : TS := fun D σ H => D.nx σ H
def tSeq (t u : TS) : TS := fun D σ H => t { D with nx := u D } σ H
theorem pss_nil : PSs X [] tNext := fun _ _ σ H _ I h => wpAny_execs_nil ⟨σ, H, I, h⟩
theorem pss_cons (h1 : PS X st t) (h2 : PSs X rest u) : PSs X (st :: rest) (tSeq t u) := by
  intro pins s σ H D I h
  refine wpAny_execs_cons (thn (h1 pins s σ H { D with nx := u D } I h) fun f s1 q => ?_)
  cases f with
  | next =>
    obtain ⟨σ', H', I', q⟩ := q
    exact h2 pins s1 σ' H' D I' q
  | ret v => exact q
  | brk => exact q
  | cont => exact q
theorem pss_one (h1 : PS X st t) : PSs X [st] t := by
  intro pins s σ H D I h
  refine wpAny_execs_cons (thn (h1 pins s σ H D I h) fun f s1 q => ?_)
  cases f with
  | next => exact wpAny_execs_nil q
  | ret v => exact q
  | brk => exact q
  | cont => exact q
theorem Inv.quiet {pins : List (Addr × Obj)} {σ : St} {H : Hp} {s : Shared} (I : Inv X pins σ H s) : interactive X.env = false := by simp [interactive, I.ok.kind]
def tDrop (te : TE) : TS := fun D σ H => te σ H fun _ H1 => D.nx σ H1
theorem ps_expr (he : PE X e te) (hs : swapsWith e none pos.line X.env = pure false := by rfl) : PS X (.Expr e pos) (tDrop te) := by
  intro pins s σ H D I h
  exact wpAny_Expr_any (thn (he pins s σ H _ I h) fun v s1 ⟨x, H1, I1, r1, q1⟩ => ⟨σ, H1, I1, q1⟩) I.quiet hs
def tRet (te : TE) : TS := fun D σ H => te σ H D.rt
theorem ps_ret (he : PE X e te) : PS X (.Return (some e) pos) (tRet te) := by
  intro pins s σ H D I h
  exact wpAny_Return_some (thn (he pins s σ H _ I h) fun v s1 ⟨x, H1, I1, r1, q1⟩ => ⟨x, σ, H1, I1, r1, q1⟩)
def tIfS (c : TT) (t u : TS) : TS := fun D σ H => c σ H fun b H1 => if b = true then t D σ H1 else u D σ H1
theorem ps_if {c : Expr} {a b : List Stmt} {tc : TT} (hc : PT X c tc) (ha : PSs X a t) (hb : PSs X b u) : PS X (.If c a b pos) (tIfS tc t u) := by
  intro pins s σ H D I h
  refine wpAny_If (thn (hc pins s σ H _ I h) fun d s1 ⟨H1, I1, q1⟩ => ?_)
  cases d with
  | true => exact ha pins s1 σ H1 D I1 q1
  | false => exact hb pins s1 σ H1 D I1 q1
def tNever : TS := fun _ _ _ => False
theorem ps_never : PS X st tNever := fun _ _ _ _ _ _ h => h.elim
end
abbrev TG := V → St → Hp → (St → Hp → Prop) → Prop
abbrev TGs := List V → St → Hp → (St → Hp → Prop) → Prop
def PG (X : Cx) (target : Expr) (t : TG) : Prop :=
  ∀ (pins : List (Addr × Obj)) (s : Shared) (σ : St) (H : Hp) (v : V) (u : Value) (Q : St → Hp → Prop), Inv X pins σ H s → RelV v u → t v σ H Q →
    wpAny (model X.prog X.w) X.A (assign target X.env u) (fun _ s' => ∃ σ' H', Inv X pins σ' H' s' ∧ Q σ' H') X.xe s
def PGs (X : Cx) (ts : List Expr) (t : TGs) : Prop :=
  ∀ (pins : List (Addr × Obj)) (s : Shared) (σ : St) (H : Hp) (vs : List V) (us : List Value) (Q : St → Hp → Prop), Inv X pins σ H s → Vals vs us → t vs σ H Q →
    wpAny (model X.prog X.w) X.A (assignInOrder ((assignEach ts X.env).map (·.2)) us) (fun _ s' => ∃ σ' H', Inv X pins σ' H' s' ∧ Q σ' H') X.xe s
abbrev TSet := V → V → V → Hp → (Hp → Prop) → Prop
def PSet (X : Cx) (t : TSet) : Prop :=
  ∀ (pins : List (Addr × Obj)) (s : Shared) (σ : St) (H : Hp) (o i v : V) (ov iv u : Value) (Q : Hp → Prop), Inv X pins σ H s → RelV o ov → RelV i iv → RelV v u → t o i v H Q →
    wpAny (model X.prog X.w) X.A (setItem ov iv u) (fun _ s' => ∃ H', Inv X pins σ H' s' ∧ Q H') X.xe s
section
variable {X : Cx} {pos : Pos}
def gName (i : Nat) : TG := fun v σ H Q => Q (σ.set i (some v)) H
theorem pg_name {i : Nat} {x : Str} (hN : X.N.Nodup) (hi : X.N[i]? = some x) (hx : Loc X.env.scope x) (hf : X.fn x = true ∨ X.env.scope.names.lookup x = some .local := by first | exact .inl rfl | exact .inr rfl | assumption) : PG X (.Name x pos) (gName i) := by
  intro pins s σ H v u Q I r h
  exact wpAny_assign_Name (store_ok I hN hi hx r (fun s' I' => ⟨_, H, I', h⟩) hf)
def gNil : TGs := fun vs σ H Q => vs = [] ∧ Q σ H
def gCons (t : TG) (u : TGs) : TGs := fun vs σ H Q => ∃ v r, vs = v :: r ∧ t v σ H fun σ' H' => u r σ' H' Q
theorem pgs_nil : PGs X [] gNil := by
  intro pins s σ H vs us Q I r h
  obtain ⟨e, h⟩ := h
  subst e
  cases r
  exact assignInOrder_nil ⟨σ, H, I, h⟩
theorem pgs_cons {e : Expr} {es : List Expr} {t : TG} {u : TGs} (h1 : PG X e t) (h2 : PGs X es u)
    (hs : (assignEach (e :: es) X.env).map (·.2) = assign e X.env :: (assignEach es X.env).map (·.2) := by rfl) : PGs X (e :: es) (gCons t u) := by
  intro pins s σ H vs us Q I r h
  obtain ⟨v, vr, e1, h⟩ := h
  subst e1
  cases r with
  | cons r rr =>
    rw [hs]
    refine assignInOrder_cons (thn (h1 pins s σ H _ _ _ I r h) fun _ s1 ⟨σ1, H1, I1, q1⟩ => ?_)
    exact h2 pins s1 σ1 H1 _ _ Q I1 rr q1
def gTup (K : PySem.W.Frag) (n : Nat) (t : TGs) : TG := fun v σ H Q => ∃ a xs, v = .ref a ∧ SqT K H a xs ∧ xs.length = n ∧ t xs σ H Q
theorem pg_tup {es : List Expr} {k : Nat} {t : TGs} {n : Nat} (hc : X.calm = true) (h : PGs X es t)
    (hn : (assignEach es X.env).length = n := by rfl) (hst : (assignEach es X.env).findIdx? (·.1) = none := by rfl) : PG X (.Tuple es k pos) (gTup X.K n t) := by
  intro pins s σ H v u Q I r hw
  obtain ⟨a, xs, e1, hq, hl, hw⟩ := hw
  subst e1
  cases r
  obtain ⟨its, rv, ht, hz⟩ := I.tuple hq
  refine assign_Tuple_tuple (I.ok.hd hc) ht (by simp [hn, ← hl, rv.length]) hst fun h' hx => ?_
  have I1 : Inv X pins σ H { s with heap := h' } := I.kept (t' := s.toks) fun b o e => hx b o (Nat.ne_of_lt (Heap.lt_size e)) e
  exact h pins _ σ H xs _ Q I1 (by simpa using rv) hw
def gSub (to ti : TE) (t : TSet) : TG := fun v σ H Q => to σ H fun o H1 => ti σ H1 fun i H2 => t o i v H2 fun H3 => Q σ H3
theorem pg_sub {o i : Expr} {to ti : TE} {t : TSet} (ho : PE X o to) (hi : PE X i ti) (hs : PSet X t)
    (ha : ∀ v, assign (.Subscript o i pos) X.env v = (do
      let ov ← holding [v] (eval o X.env)
      let iv ← holding [v, ov] (eval i X.env)
      standAt pos
      holding [v, ov, iv] (setItem ov iv v)
      release [v, ov, iv] []) := by intro _; rfl) : PG X (.Subscript o i pos) (gSub to ti t) := by
  intro pins s σ H v u Q I r h
  rw [ha]
  refine wpAny_bind (wpAny_holding (thn (ho pins s σ H _ I h) fun ov s1 ⟨x, H1, I1, r1, q1⟩ => ?_))
  refine wpAny_bind (wpAny_holding (thn (hi pins s1 σ H1 _ I1 q1) fun iv s2 ⟨y, H2, I2, r2, q2⟩ => ?_))
  refine wpAny_bind (wpAny_standAt (wpAny_bind (wpAny_holding (thn (hs pins s2 σ H2 x y v ov iv u _ I2 r1 r2 r q2) fun _ s3 ⟨H3, I3, q3⟩ => ?_))))
  exact wpAny_release ⟨σ, H3, I3, q3⟩
def tAsg (te : TE) (g : TG) : TS := fun D σ H => te σ H fun x H1 => g x σ H1 D.nx
theorem ps_asg {tg e : Expr} {te : TE} {g : TG} (he : PE X e te) (hg : PG X tg g) (hs : swapsWithSole [tg] e pos.line X.env = pure false := by rfl) (hw : swappedStores [tg] e X.env = pure none := by rfl)
    (h1 : (assignEach [tg] X.env).map (·.2) = [assign tg X.env] := by rfl) : PS X (.Assign [tg] e pos) (tAsg te g) := by
  intro pins s σ H D I h
  refine wpAny_Assign_stores (thn (he pins s σ H _ I h) fun v s1 ⟨x, H1, I1, r1, q1⟩ => ?_) hs hw
  rw [h1]
  exact thn (hg pins s1 σ H1 x v _ I1 r1 q1) fun _ s2 q => q
theorem ps_set {i : Nat} {x : Str} {e : Expr} {te : TE} {pos' : Pos} (hN : X.N.Nodup) (hi : X.N[i]? = some x) (hx : Loc X.env.scope x) (he : PE X e te) (hs : swapsWith e (some (.Name x pos')) pos.line X.env = pure false := by rfl) (hf : X.fn x = true ∨ X.env.scope.names.lookup x = some .local := by first | exact .inl rfl | exact .inr rfl | assumption) :
    PS X (.Assign [.Name x pos'] e pos) (tAsg te (gName i)) := by
  intro pins s σ H D I h
  refine wpAny_Assign_Name (thn (he pins s σ H _ I h) fun v s1 ⟨y, H1, I1, r1, q1⟩ => ?_) hs
  exact store_ok I1 hN hi hx r1 (fun s2 I2 => ⟨_, H1, I2, q1⟩) hf
def tPar (i j : Nat) (ta : TA) : TS := fun D σ H => ta σ H fun vs H1 => ∃ v w, vs = [v, w] ∧ D.nx ((σ.set i (some v)).set j (some w)) H1
theorem ps_par {i j : Nat} {x y : Str} {a b : Expr} {ta : TA} {px py pt : Pos} {kt k2 pt2} (hc : X.calm = true) (hN : X.N.Nodup) (hi : X.N[i]? = some x) (hj : X.N[j]? = some y) (hij : i ≠ j)
    (hx : X.env.scope.names.lookup x = some .local) (hy : X.env.scope.names.lookup y = some .local) (ha : PA X [a, b] ta)
    (hw : swappedStores [.Tuple [.Name x px, .Name y py] kt pt] (.Tuple [a, b] k2 pt2) X.env = pure (some [x, y]))
    (hs : swapsWithSole [.Tuple [.Name x px, .Name y py] kt pt] (.Tuple [a, b] k2 pt2) pos.line X.env = pure false := by rfl) :
    PS X (.Assign [.Tuple [.Name x px, .Name y py] kt pt] (.Tuple [a, b] k2 pt2) pos) (tPar i j ta) := by
  intro pins s σ H D I h
  rw [exec_Assign_arm]
  refine wpAny_bind (wpAny_standAt ?_)
  rw [hs]
  refine wpAny_bind (wpAny_pure ?_)
  rw [if_neg (by decide)]
  refine wpAny_bind (Tuple_ (thn (ha _ pins s σ H _ I h) fun us s1 ⟨vs, H1, I1, r1, q1⟩ => ?_))
  obtain ⟨v, w, e1, q1⟩ := q1
  subst e1
  obtain ⟨u1, u2, rfl, rv, rw'⟩ : ∃ u1 u2, us = [u1, u2] ∧ RelV v u1 ∧ RelV w u2 := by
    cases r1 with
    | cons p q =>
      cases q with
      | cons p' q' =>
        cases q'
        exact ⟨_, _, rfl, p, p'⟩
  refine wpAny_newObj_type ?_ (by show 2 ≤ sizeLine; decide)
  have I2 : Inv X pins σ H1 { s1 with heap := s1.heap.push { cls := .type "tuple", data := .seq [u1, u2].toArray } } := I1.kept (t' := s1.toks) fun b o e => Heap.get?_push_of_some _ e
  rw [hw]
  refine wpAny_bind (wpAny_pure ?_)
  show wpAny (model X.prog X.w) X.A (do rule "assign.swapped-stores"; let items ← unpackItems (.ref s1.heap.objs.size) 2 none; assignInOrder [fun v => bindName X.env y v, fun v => bindName X.env x v] items.reverse; pure Flow.next) _ _ _
  refine wpAny_bind (wpAny_rule (wpAny_bind (unpackItems_tuple (items := #[u1, u2]) (I.ok.hd hc) (IsTup.new s1.heap _) fun h' hx' => ?_)))
  have I3 := I2.kept (h' := h') (t' := s1.toks) fun b o e => hx' b o (Nat.ne_of_lt (Heap.lt_size e)) e
  show wpAny _ _ (assignInOrder [fun v => bindName X.env y v, fun v => bindName X.env x v] [u2, u1] >>= fun _ => pure Flow.next) _ _ _
  refine wpAny_bind (assignInOrder_cons (wpAny_bindName (store_ok I3 hN hj (.inl hy) rw' (fun s2 I4 => ?_) (.inr hy))))
  refine assignInOrder_cons (wpAny_bindName (store_ok I4 hN hi (.inl hx) rv (fun s3 I5 => assignInOrder_nil (wpAny_pure ?_)) (.inr hx)))
  rw [List.set_comm _ _ (Ne.symm hij)] at I5
  exact ⟨_, H1, I5, q1⟩
end
section
variable {X : Cx} {pos : Pos}
def tWhile (c : TT) (tb : TS) : TS := fun D σ H => ∃ W : Nat → St → Hp → Prop, (∃ m, W m σ H) ∧ ∀ m σ H, W m σ H →
  c σ H fun b H1 => if b = true then ∃ N : St → Hp → Prop, (∀ σ' H', N σ' H' → ∃ m', m' < m ∧ W m' σ' H') ∧ tb { D with nx := N, ct := N, bk := D.nx } σ H1 else D.nx σ H1
theorem ps_while {c : Expr} {body : List Stmt} {tc : TT} {tb : TS} (hp : PassesOwn (model X.prog X.w) X.A X.env X.xe) (hc : PT X c tc) (hb : PSs X body tb) : PS X (.While c body [] pos) (tWhile tc tb) := by
  intro pins s σ H D I h
  obtain ⟨W, ⟨m0, w0⟩, turn⟩ := h
  refine wpAny_While (codeAny_whileLoop (fun n s' => ∃ σ' H', Inv X pins σ' H' s' ∧ W n σ' H') ?_ m0 ⟨σ, H, I, w0⟩)
  rintro n s1 ⟨σ1, H1, I1, w1⟩
  refine wpAny_passesOwn hp (thn (hc pins s1 σ1 H1 _ I1 (turn n σ1 H1 w1)) fun b s2 ⟨H2, I2, q2⟩ => ?_)
  cases b with
  | true =>
    obtain ⟨N, hN, q2⟩ := q2
    rw [if_pos rfl]
    refine wpAny_passesOwn hp (thn (hb pins s2 σ1 H2 _ I2 q2) fun f s3 q3 => ?_)
    cases f with
    | next =>
      obtain ⟨σ3, H3, I3, n3⟩ := q3
      obtain ⟨m', hm, w3⟩ := hN σ3 H3 n3
      exact ⟨m', hm, σ3, H3, I3, w3⟩
    | cont =>
      obtain ⟨σ3, H3, I3, n3⟩ := q3
      obtain ⟨m', hm, w3⟩ := hN σ3 H3 n3
      exact ⟨m', hm, σ3, H3, I3, w3⟩
    | brk => exact q3
    | ret v => exact q3
  | false =>
    rw [if_neg Bool.false_ne_true]
    exact wpAny_execs_nil ⟨σ1, H2, I2, q2⟩
end
structure It where
  go : Nat → Hp → Prop
  yld : Nat → Hp → V → Hp → Prop
  stop : Nat → Hp → Prop
def FpOk (X : Cx) (pins : List (Addr × Obj)) (H : Hp) (b : Addr) : Prop :=
  H b = none ∧ b ≠ X.env.locals ∧ b ∉ X.fs ∧ (b ∈ X.ex ∨ X.s_0.heap.objs.size ≤ b) ∧ (∀ x c, X.env.cells.lookup x = some c → c ≠ b) ∧ ∀ p ∈ X.pn ++ pins, p.1 ≠ b
theorem Inv.fpOk {X : Cx} {pins : List (Addr × Obj)} {σ : St} {H H' : Hp} {s : Shared} {b : Addr} (I : Inv X pins σ H s) (hb : s.heap.objs.size ≤ b) (hn : H' b = none) : FpOk X pins H' b := by
  refine ⟨hn, Nat.ne_of_gt (Nat.lt_of_lt_of_le I.lt hb), I.nofs hb, .inr (Nat.le_trans I.sz hb), fun x c e z => ?_, fun p hp z => ?_⟩
  · obtain ⟨v, q⟩ := I.cell x c e
    exact absurd (Nat.lt_of_lt_of_le q.lt (by rw [z]; exact hb)) (Nat.lt_irrefl _)
  · exact absurd (Nat.lt_of_lt_of_le (Heap.lt_size (I.pin p hp).1) (by rw [z]; exact hb)) (Nat.lt_irrefl _)
structure Turn (P : Program) (w : World) (K : PySem.W.Frag) (tg : Expr) (J : It) (fp : List Addr) (it : Addr) (tn : Nat → Heap → Prop) : Prop where
  mem : it ∈ fp
  obj : ∀ i h, tn i h → ∀ b ∈ fp, ∃ o, h.get? b = some o ∧ ∀ v, o.data ≠ .cell v
  keep : ∀ i h h', tn i h → (∀ b ∈ fp, ∀ o, h.get? b = some o → h'.get? b = some o) → tn i h'
  item : ∀ (X : Cx), X.prog = P → X.w = w → X.K = K → X.calm = true → ∀ (i : Nat) (pins : List (Addr × Obj)) (s : Shared) (σ : St) (H : Hp) (E : Value → Shared → Prop), Inv X pins σ H s → (∀ b ∈ fp, FpOk X pins H b) → tn i s.heap → J.go i H →
    wpAny (model P w) X.A (pyNext (.ref it)) (fun r s1 => ∃ u, r = some u ∧
      wpAny (model P w) X.A (letOwnedTupleGo tg (.ref it) u) (fun _ s2 => ∃ x H', Inv X pins σ H' s2 ∧ RelV x u ∧ J.yld i H x H' ∧ tn (i + 1) s2.heap ∧ ∀ b ∈ fp, H' b = none) E s1) E s
  done : ∀ (X : Cx), X.prog = P → X.w = w → X.K = K → X.calm = true → ∀ (i : Nat) (pins : List (Addr × Obj)) (s : Shared) (σ : St) (H : Hp) (E : Value → Shared → Prop), Inv X pins σ H s → (∀ b ∈ fp, FpOk X pins H b) → tn i s.heap → J.stop i H →
    wpAny (model P w) X.A (pyNext (.ref it)) (fun r s1 => r = none ∧ Inv X pins σ H s1) E s
  self : ∀ (A : Around) (i : Nat) (s : Shared) (Q : Value → Shared → Prop) (E : Value → Shared → Prop), tn i s.heap → Q (.ref it) s → wpAny (model P w) A (pyIter (.ref it)) Q E s
abbrev TI := St → Hp → (It → Hp → Prop) → Prop
def PIE (X : Cx) (pins : List (Addr × Obj)) (σ : St) (tg : Expr) (R : It → Hp → Prop) (itv : Value) (s2 : Shared) : Prop :=
  ∃ (it : Addr) (fp : List Addr) (tn : Nat → Heap → Prop) (J : It) (H' : Hp), itv = .ref it ∧ Inv X pins σ H' s2 ∧ Turn X.prog X.w X.K tg J fp it tn ∧ tn 0 s2.heap ∧ (∀ b ∈ fp, FpOk X pins H' b) ∧ R J H'
def PI (X : Cx) (tg iter : Expr) (wi : TI) : Prop :=
  ∀ (pins : List (Addr × Obj)) (s : Shared) (σ : St) (H : Hp) (R : It → Hp → Prop), Inv X pins σ H s → wi σ H R →
    wpAny (model X.prog X.w) X.A (eval iter X.env) (fun v s1 => wpAny (model X.prog X.w) X.A (pyIter v) (PIE X pins σ tg R) X.xe s1) X.xe s
theorem go_of {M : Model} {A : Around} {E : Value → Shared → Prop} {s : Shared} {tg : Expr} {it : Addr} {u : Value} {o : Obj} {n : String} {vs : Array Value} {Q : Unit → Shared → Prop} (ho : s.heap.get? it = some o) (hc : o.cls = .type n) (hd : o.data = .fields vs)
    (hn : ["enumerate", "zip", "dict_itemiterator", "dict_reverseitemiterator", "odict_iterator", "itertools.zip_longest", "itertools.pairwise"].contains n = false) (hQ : Q () s) : wpAny M A (letOwnedTupleGo tg (.ref it) u) Q E s := by
  unfold letOwnedTupleGo
  cases tg <;> first
    | exact wpAny_pure hQ
    | (cases u <;> first
        | exact wpAny_pure hQ
        | (refine wpAny_bind (wpAny_load ho ?_)
           rw [hc, hd]
           show wpAny M A (if (["enumerate", "zip", "dict_itemiterator", "dict_reverseitemiterator", "odict_iterator", "itertools.zip_longest", "itertools.pairwise"].contains n && vs[0]? == some (rawInt _)) = true then _ else _) Q E s
           rw [if_neg (by intro h; rw [hn, Bool.false_and] at h; cases h)]
           exact wpAny_pure hQ))
def Itl (K : PySem.W.Frag) (a : Addr) : It :=
  ⟨fun i H => ∃ xs x, SqL K H a xs ∧ xs[i]? = some x, fun i H x H' => H' = H ∧ ∀ xs, SqL K H a xs → xs[i]? = some x, fun i H => ∃ xs, SqL K H a xs ∧ xs.length ≤ i⟩
def Itt (K : PySem.W.Frag) (a : Addr) : It :=
  ⟨fun i H => ∃ xs x, SqT K H a xs ∧ xs[i]? = some x, fun i H x H' => H' = H ∧ ∀ xs, SqT K H a xs → xs[i]? = some x, fun i H => ∃ xs, SqT K H a xs ∧ xs.length ≤ i⟩
def Itr (lo : Int) (n : Nat) : It := ⟨fun i _ => i < n, fun i H x H' => H' = H ∧ x = .int (lo + i), fun i _ => n ≤ i⟩
theorem turn_list {P : Program} {w : World} {K : PySem.W.Frag} {tg : Expr} (a it : Addr) : Turn P w K tg (Itl K a) [it] it (fun i h => h.IsListIter it a i) where
  mem := by simp
  obj := fun i h st b hb => by
    have e : b = it := by simpa using hb
    subst e
    obtain ⟨o, e, c, d⟩ := st
    exact ⟨o, e, fun v z => by rw [d] at z; cases z⟩
  keep := fun i h h' st k => st.at fun o e => k it (by simp) o e
  item := by
    intro X hP hw hK hc i pins s σ H E I hf st hg
    subst hP hw hK
    obtain ⟨xs, x, hq, hx⟩ := hg
    obtain ⟨its, rv, p, hz⟩ := I.list hq
    obtain ⟨u, hu, ru⟩ := rv.get hx
    obtain ⟨f0, f1, f2, f3, f4, f5⟩ := hf it (by simp)
    refine wpAny_pyNext_list_item st p.isList (x := u) (by simpa using hu) fun h' st' sb => ?_
    have I1 : Inv X pins σ H { s with heap := h' } := I.turned (t' := s.toks) (fun b o hb e => (sb.2 b hb).trans e) f0 f1 f3 f4 f5
    obtain ⟨o, e, c, d⟩ := id st'
    exact ⟨u, rfl, go_of (s := { s with heap := h' }) e c d (by decide) ⟨x, H, I1, ru, ⟨rfl, fun ys hy => by rw [I.list_inj hy hq]; exact hx⟩, st', fun b hb => (hf b hb).1⟩⟩
  done := by
    intro X hP hw hK hc i pins s σ H E I hf st hg
    subst hP hw hK
    obtain ⟨xs, hq, hx⟩ := hg
    obtain ⟨its, rv, p, hz⟩ := I.list hq
    obtain ⟨f0, f1, f2, f3, f4, f5⟩ := hf it (by simp)
    have hl := rv.length
    exact wpAny_pyNext_list_end (I.ok.hd hc) st p.isList (by simp; omega) fun h' eb => ⟨rfl, I.turned (t' := s.toks) (fun b o hb e => eb b o hb e) f0 f1 f3 f4 f5⟩
  self := fun _ _ _ _ _ st h => wpAny_pyIter_listiter st h
theorem turn_tuple {P : Program} {w : World} {K : PySem.W.Frag} {tg : Expr} (a it : Addr) : Turn P w K tg (Itt K a) [it] it (fun i h => h.IsTupleIter it a i) where
  mem := by simp
  obj := fun i h st b hb => by
    have e : b = it := by simpa using hb
    subst e
    obtain ⟨o, e, c, d⟩ := st
    exact ⟨o, e, fun v z => by rw [d] at z; cases z⟩
  keep := fun i h h' st k => st.at fun o e => k it (by simp) o e
  item := by
    intro X hP hw hK hc i pins s σ H E I hf st hg
    subst hP hw hK
    obtain ⟨xs, x, hq, hx⟩ := hg
    obtain ⟨its, rv, p, hz⟩ := I.tuple hq
    obtain ⟨u, hu, ru⟩ := rv.get hx
    obtain ⟨f0, f1, f2, f3, f4, f5⟩ := hf it (by simp)
    refine wpAny_pyNext_tuple_item st (show s.heap.IsTuple a its.toArray from p) (x := u) (by simpa using hu) fun h' st' sb => ?_
    have I1 : Inv X pins σ H { s with heap := h' } := I.turned (t' := s.toks) (fun b o hb e => (sb.2 b hb).trans e) f0 f1 f3 f4 f5
    obtain ⟨o, e, c, d⟩ := id st'
    exact ⟨u, rfl, go_of (s := { s with heap := h' }) e c d (by decide) ⟨x, H, I1, ru, ⟨rfl, fun ys hy => by rw [I.tuple_inj hy hq]; exact hx⟩, st', fun b hb => (hf b hb).1⟩⟩
  done := by
    intro X hP hw hK hc i pins s σ H E I hf st hg
    subst hP hw hK
    obtain ⟨xs, hq, hx⟩ := hg
    obtain ⟨its, rv, p, hz⟩ := I.tuple hq
    obtain ⟨f0, f1, f2, f3, f4, f5⟩ := hf it (by simp)
    have hl := rv.length
    exact wpAny_pyNext_tuple_end (I.ok.hd hc) st (show s.heap.IsTuple a its.toArray from p) (by simp; omega) fun h' eb => ⟨rfl, I.turned (t' := s.toks) (fun b o hb e => eb b o hb e) f0 f1 f3 f4 f5⟩
  self := fun _ _ _ _ _ st h => wpAny_pyIter_tupleiter st h
theorem turn_range {P : Program} {w : World} {K : PySem.W.Frag} {tg : Expr} (it : Addr) (lo : Int) (n : Nat) : Turn P w K tg (Itr lo n) [it] it (fun i h => IsRangeIter h it (lo + (i : Nat) * 1) ((n : Int) - (i : Nat)) 1) where
  mem := by simp
  obj := fun i h st b hb => by
    have e : b = it := by simpa using hb
    subst e
    exact ⟨_, st, fun v z => by
      have z' : Data.fields _ = Data.cell v := z
      cases z'⟩
  keep := fun i h h' st k => k it (by simp) _ st
  item := by
    intro X hP hw hK hc i pins s σ H E I hf st hg
    subst hP hw hK
    obtain ⟨f0, f1, f2, f3, f4, f5⟩ := hf it (by simp)
    have W := Walks.range (prog := X.prog) (w := X.w) (I.ok.hd hc) it lo 1 n
    refine W.item i s _ _ hg st fun v h' tk hv st' kk => ?_
    obtain ⟨t, rfl⟩ := hv
    have I1 : Inv X pins σ H { s with heap := h', toks := tk } := I.turned (fun b o hb e => kk b o (by simpa using hb) e) f0 f1 f3 f4 f5
    refine ⟨_, rfl, go_of (s := { s with heap := h', toks := tk }) (n := "range_iterator") st' rfl rfl (by decide) ⟨.int (lo + i), H, I1, ⟨t, ?_⟩, ⟨rfl, rfl⟩, st', fun b hb => (hf b hb).1⟩⟩
    rw [Int.mul_one]
  done := by
    intro X hP hw hK hc i pins s σ H E I hf st hg
    subst hP hw hK
    obtain ⟨f0, f1, f2, f3, f4, f5⟩ := hf it (by simp)
    exact wpAny_pyNext_range_end (I.ok.hd hc) st (by have : n ≤ i := hg; omega) fun h' eb => ⟨rfl, I.turned (t' := s.toks) (fun b o hb e => eb b o hb e) f0 f1 f3 f4 f5⟩
  self := fun _ _ _ _ _ st h => wpAny_pyIter_rangeiter st h
end L2
namespace L2
open PySem PySem.Spec PyProof.Rows
section
variable {X : Cx} {tg : Expr}
def iList (K : PySem.W.Frag) (tl : TE) : TI := fun σ H R => tl σ H fun x H1 => ∃ a, x = .ref a ∧ (∃ xs, SqL K H1 a xs) ∧ R (Itl K a) H1
def iTup (K : PySem.W.Frag) (tl : TE) : TI := fun σ H R => tl σ H fun x H1 => ∃ a, x = .ref a ∧ (∃ xs, SqT K H1 a xs) ∧ R (Itt K a) H1
theorem pi_list {l : Expr} {tl : TE} (hl : PE X l tl) : PI X tg l (iList X.K tl) := by
  intro pins s σ H R I h
  refine thn (hl pins s σ H _ I h) fun v s1 ⟨x, H1, I1, r1, q1⟩ => ?_
  obtain ⟨a, e, ⟨xs, hq⟩, q⟩ := q1
  subst e
  cases r1
  obtain ⟨its, rv, p, hz⟩ := I1.list hq
  refine wpAny_pyIter_list p.isList ?_
  refine ⟨s1.heap.objs.size, [s1.heap.objs.size], _, _, H1, rfl, I1.kept (t' := s1.toks) fun b o e => Heap.get?_push_of_some _ e, turn_list a _, ⟨_, Heap.get?_push_size _ rfl, rfl, rfl⟩, fun b hb => ?_, q⟩
  have e : b = s1.heap.objs.size := by simpa using hb
  subst e
  exact I1.fpOk (Nat.le_refl _) (I1.hok.fresh (Nat.le_refl _))
theorem pi_tup {l : Expr} {tl : TE} (hl : PE X l tl) : PI X tg l (iTup X.K tl) := by
  intro pins s σ H R I h
  refine thn (hl pins s σ H _ I h) fun v s1 ⟨x, H1, I1, r1, q1⟩ => ?_
  obtain ⟨a, e, ⟨xs, hq⟩, q⟩ := q1
  subst e
  cases r1
  obtain ⟨its, rv, p, hz⟩ := I1.tuple hq
  refine wpAny_pyIter_tuple (show s1.heap.IsTuple a its.toArray from p) ?_
  refine ⟨s1.heap.objs.size, [s1.heap.objs.size], _, _, H1, rfl, I1.kept (t' := s1.toks) fun b o e => Heap.get?_push_of_some _ e, turn_tuple a _, ⟨_, Heap.get?_push_size _ rfl, rfl, rfl⟩, fun b hb => ?_, q⟩
  have e : b = s1.heap.objs.size := by simpa using hb
  subst e
  exact I1.fpOk (Nat.le_refl _) (I1.hok.fresh (Nat.le_refl _))
theorem range_it {pins : List (Addr × Obj)} {σ : St} {H : Hp} {s : Shared} {R : It → Hp → Prop} {E : Value → Shared → Prop} {lo hi : Int} {t u v : Tok} {tk : Nat} (I : Inv X pins σ H s) (h1 : -(2 ^ 62) ≤ lo) (h2 : lo < 2 ^ 62) (h3 : -(2 ^ 62) ≤ hi) (h4 : hi < 2 ^ 62)
    (q : R (Itr lo (hi - lo).toNat) H) : wpAny (model X.prog X.w) X.A (pyIter (.ref s.heap.objs.size)) (PIE X pins σ tg R) E { s with heap := s.heap.push { cls := .type "range", data := .fields #[.int lo t, .int hi u, .int 1 v] }, toks := tk } := by
  refine wpAny_pyIter_range (IsRange.new ..) (small_one h1 h2 h3 h4) ?_
  have I1 : Inv X pins σ H { s with heap := s.heap.push { cls := .type "range", data := .fields #[.int lo t, .int hi u, .int 1 v] }, toks := tk } := I.kept fun b o e => Heap.get?_push_of_some _ e
  refine ⟨(s.heap.push { cls := .type "range", data := .fields #[.int lo t, .int hi u, .int 1 v] }).objs.size, [(s.heap.push { cls := .type "range", data := .fields #[.int lo t, .int hi u, .int 1 v] }).objs.size], _, _, H, rfl,
    I1.kept (t' := tk) fun b o e => Heap.get?_push_of_some _ e, turn_range _ lo (hi - lo).toNat, ?_, fun b hb => ?_, q⟩
  · have e1 : lo + ((0 : Nat) : Int) * 1 = lo := by simp
    have e2 : (((hi - lo).toNat : Nat) : Int) - ((0 : Nat) : Int) = Builtin.Range.rangeSize lo hi 1 := by rw [rangeSize_one]; split <;> omega
    show IsRangeIter _ _ (lo + ((0 : Nat) : Int) * 1) ((((hi - lo).toNat : Nat) : Int) - ((0 : Nat) : Int)) 1
    rw [e1, e2]
    exact Heap.get?_push_size _ rfl
  · have e : b = (s.heap.push { cls := .type "range", data := .fields #[.int lo t, .int hi u, .int 1 v] }).objs.size := by simpa using hb
    subst e
    exact I1.fpOk (Nat.le_refl _) (I1.hok.fresh (Nat.le_refl _))
def iRng1 (ta : TA) : TI := fun σ H R => ta σ H fun vs H1 => ∃ j : Int, vs = [.int j] ∧ -(2 ^ 62) ≤ j ∧ j < 2 ^ 62 ∧ R (Itr 0 j.toNat) H1
theorem pi_range1 {a : Expr} {ta : TA} {p pos : Pos} (hg : Gl X "range") (hm : X.mg "range" = none) (ha : PA X [a] ta) (hs : starEach [a] X.env = [(false, eval a X.env)] := by rfl) : PI X tg (.Call (.Name "range" p) [a] [] pos) (iRng1 ta) := by
  intro pins s σ H R I h
  refine Call_ (ld_blt I hg hm boot_range (PyProof.Rows.callWith_type1 (thn (ha pos pins s σ H _ I h) fun us s1 ⟨vs, H1, I1, r1, q1⟩ => ?_) hs rfl))
  obtain ⟨j, e, q1, q2, q⟩ := q1
  subst e
  cases r1 with
  | cons r rr =>
    cases rr
    obtain ⟨t, rfl⟩ := r
    exact call_range_1 (range_it I1 (by omega) (by omega) q1 q2 (by simpa using q))
def tFor (wi : TI) (g : TG) (tb : TS) : TS := fun D σ H => wi σ H fun J H1 => ∃ W : Nat → Nat → St → Hp → Prop, (∃ m, W 0 m σ H1) ∧ ∀ i m σ H, W i m σ H →
  (J.stop i H ∧ D.nx σ H) ∨ (J.go i H ∧ ∃ N : St → Hp → Prop, (∀ σ' H', N σ' H' → ∃ m', m' < m ∧ W (i + 1) m' σ' H') ∧ ∀ x H', J.yld i H x H' → g x σ H' fun σ2 H2 => tb { D with nx := N, ct := N, bk := D.nx } σ2 H2)
def pinsAt (fp : List Addr) (h : Heap) : List (Addr × Obj) := fp.filterMap fun b => (h.get? b).map fun o => (b, o)
theorem mem_pinsAt {fp : List Addr} {h : Heap} {b : Addr} {o : Obj} (hb : b ∈ fp) (e : h.get? b = some o) : (b, o) ∈ pinsAt fp h := List.mem_filterMap.mpr ⟨b, hb, by rw [e]; rfl⟩
theorem of_pinsAt {fp : List Addr} {h : Heap} {p : Addr × Obj} (hp : p ∈ pinsAt fp h) : p.1 ∈ fp ∧ h.get? p.1 = some p.2 := by
  obtain ⟨b, hb, e⟩ := List.mem_filterMap.mp hp
  cases q : h.get? b with
  | none => rw [q] at e; cases e
  | some o =>
    rw [q] at e
    have e' : (b, o) = p := Option.some.inj e
    subst e'
    exact ⟨hb, q⟩
theorem Inv.pinned {pins : List (Addr × Obj)} {σ : St} {H : Hp} {s : Shared} {fp : List Addr} (I : Inv X pins σ H s) (hf : ∀ b ∈ fp, FpOk X pins H b) (ho : ∀ b ∈ fp, ∃ o, s.heap.get? b = some o ∧ ∀ v, o.data ≠ .cell v) : Inv X (pins ++ pinsAt fp s.heap) σ H s :=
  I.pins_of fun p hp => (List.mem_append.mp hp).elim (fun z => I.pin p (List.mem_append_right _ z)) fun z => by
    obtain ⟨hb, e⟩ := of_pinsAt z
    obtain ⟨f0, f1, f2, _⟩ := hf p.1 hb
    obtain ⟨o, e', d⟩ := ho p.1 hb
    rw [e] at e'; cases e'
    exact ⟨e, f0, f1, f2, d⟩
theorem Inv.unpinned {pins pl : List (Addr × Obj)} {σ : St} {H : Hp} {s : Shared} (I : Inv X (pins ++ pl) σ H s) : Inv X pins σ H s := I.pins_of fun p hp => I.pin p (List.mem_append_right _ (List.mem_append_left _ hp))
theorem ps_for {iter : Expr} {body : List Stmt} {wi : TI} {g : TG} {tb : TS} {pos : Pos} (hp : PassesOwn (model X.prog X.w) X.A X.env X.xe) (hc : X.calm = true) (hi : PI X tg iter wi) (hg : PG X tg g) (hb : PSs X body tb)
    (hs : ∀ x, foldedSetIterable iter X.env x = pure x := by intro _; rfl) : PS X (.For tg iter body [] pos) (tFor wi g tb) := by
  intro pins s σ H D I h
  refine wpAny_For (thn (hi pins s σ H _ I h) fun v s1 h1 => thn h1 fun itv s2 h2 => ?_) hs
  obtain ⟨it, fp, tn, J, H2, e, I2, T, st2, f2, W, ⟨m0, w0⟩, turn⟩ := h2
  subst e
  have stat : ∀ {H' : Hp}, (∀ b ∈ fp, H' b = none) → ∀ b ∈ fp, FpOk X pins H' b := fun hn b hb => ⟨hn b hb, (f2 b hb).2⟩
  refine codeAny_forLoop_any (fun n s' => ∃ i σ' H', Inv X pins σ' H' s' ∧ tn i s'.heap ∧ (∀ b ∈ fp, H' b = none) ∧ W i n σ' H') ?_ m0 ⟨0, σ, H2, I2, st2, fun b hb => (f2 b hb).1, w0⟩
  rintro n s3 ⟨i, σ3, H3, I3, st3, fr3, w3⟩
  rcases turn i n σ3 H3 w3 with ⟨stop, qn⟩ | ⟨go, N, hN, step⟩
  · refine wpAny_passesOwn hp (thn (T.done X rfl rfl rfl hc i pins s3 σ3 H3 X.xe I3 (stat fr3) st3 stop) fun r s4 ⟨hr, I4⟩ => ?_)
    subst hr
    exact wpAny_execs_nil ⟨σ3, H3, I4, qn⟩
  · refine wpAny_passesOwn hp (thn (T.item X rfl rfl rfl hc i pins s3 σ3 H3 X.xe I3 (stat fr3) st3 go) fun r s4 ⟨u, hr, h4⟩ => ?_)
    subst hr
    refine wpAny_passesOwn hp (thn h4 fun _ s5 ⟨x, H5, I5, r5, y5, st5, fr5⟩ => ?_)
    have I5' := I5.pinned (stat fr5) (T.obj _ _ st5)
    refine wpAny_passesOwn hp (thn (hg _ s5 σ3 H5 x u _ I5' r5 (step x H5 y5)) fun _ s6 ⟨σ6, H6, I6, q6⟩ => ?_)
    refine wpAny_passesOwn hp (thn (hb _ s6 σ6 H6 _ I6 q6) fun f s7 q7 => ?_)
    have again : ∀ {σ7 : St} {H7 : Hp}, Inv X (pins ++ pinsAt fp s5.heap) σ7 H7 s7 → N σ7 H7 → ∃ m, m < n ∧ ∃ i σ' H', Inv X pins σ' H' s7 ∧ tn i s7.heap ∧ (∀ b ∈ fp, H' b = none) ∧ W i m σ' H' := fun {σ7 H7} I7 n7 => by
      obtain ⟨m', hm, w7⟩ := hN σ7 H7 n7
      refine ⟨m', hm, i + 1, σ7, H7, I7.unpinned, T.keep _ _ _ st5 fun b hb o e => (I7.pin (b, o) (List.mem_append_right _ (List.mem_append_right _ (mem_pinsAt hb e)))).1, fun b hb => ?_, w7⟩
      obtain ⟨o, e, d⟩ := T.obj _ _ st5 b hb
      exact (I7.pin (b, o) (List.mem_append_right _ (List.mem_append_right _ (mem_pinsAt hb e)))).2.1
    cases f with
    | next => obtain ⟨σ7, H7, I7, n7⟩ := q7; exact again I7 n7
    | cont => obtain ⟨σ7, H7, I7, n7⟩ := q7; exact again I7 n7
    | brk => obtain ⟨σ7, H7, I7, q7⟩ := q7; exact ⟨σ7, H7, I7.unpinned, q7⟩
    | ret v => obtain ⟨x7, σ7, H7, I7, r7, q7⟩ := q7; exact ⟨x7, σ7, H7, I7.unpinned, r7, q7⟩
end
theorem for_list {K : PySem.W.Frag} {a : Addr} {xs : List V} {g : TG} {tb : TS} {D : Ends} {σ : St} {H : Hp} (Pv : Nat → St → Hp → Prop) (h0 : Pv 0 σ H) (hl : ∀ i σ H, i ≤ xs.length → Pv i σ H → SqL K H a xs)
    (hs : ∀ i x σ H, xs[i]? = some x → Pv i σ H → g x σ H fun σ2 H2 => tb { D with nx := Pv (i + 1), ct := Pv (i + 1), bk := D.nx } σ2 H2) (hd : ∀ σ H, Pv xs.length σ H → D.nx σ H) :
    ∃ W : Nat → Nat → St → Hp → Prop, (∃ m, W 0 m σ H) ∧ ∀ i m σ H, W i m σ H →
      ((Itl K a).stop i H ∧ D.nx σ H) ∨ ((Itl K a).go i H ∧ ∃ N : St → Hp → Prop, (∀ σ' H', N σ' H' → ∃ m', m' < m ∧ W (i + 1) m' σ' H') ∧ ∀ x H', (Itl K a).yld i H x H' → g x σ H' fun σ2 H2 => tb { D with nx := N, ct := N, bk := D.nx } σ2 H2) := by
  refine ⟨fun i m σ H => m = xs.length - i ∧ i ≤ xs.length ∧ Pv i σ H, ⟨xs.length, by simp, Nat.zero_le _, h0⟩, ?_⟩
  rintro i m σ H ⟨rfl, hi, p⟩
  have q := hl i σ H hi p
  by_cases hlt : i < xs.length
  · refine .inr ⟨⟨xs, xs[i], q, by simp [hlt]⟩, Pv (i + 1), fun σ' H' p' => ⟨xs.length - (i + 1), by omega, rfl, hlt, p'⟩, fun x H' y => ?_⟩
    obtain ⟨e, y⟩ := y
    subst e
    exact hs i x σ _ (y xs q) p
  · have e : i = xs.length := by omega
    subst e
    exact .inl ⟨⟨xs, q, Nat.le_refl _⟩, hd σ H p⟩
theorem for_tup {K : PySem.W.Frag} {a : Addr} {xs : List V} {g : TG} {tb : TS} {D : Ends} {σ : St} {H : Hp} (Pv : Nat → St → Hp → Prop) (h0 : Pv 0 σ H) (hl : ∀ i σ H, i ≤ xs.length → Pv i σ H → SqT K H a xs)
    (hs : ∀ i x σ H, xs[i]? = some x → Pv i σ H → g x σ H fun σ2 H2 => tb { D with nx := Pv (i + 1), ct := Pv (i + 1), bk := D.nx } σ2 H2) (hd : ∀ σ H, Pv xs.length σ H → D.nx σ H) :
    ∃ W : Nat → Nat → St → Hp → Prop, (∃ m, W 0 m σ H) ∧ ∀ i m σ H, W i m σ H →
      ((Itt K a).stop i H ∧ D.nx σ H) ∨ ((Itt K a).go i H ∧ ∃ N : St → Hp → Prop, (∀ σ' H', N σ' H' → ∃ m', m' < m ∧ W (i + 1) m' σ' H') ∧ ∀ x H', (Itt K a).yld i H x H' → g x σ H' fun σ2 H2 => tb { D with nx := N, ct := N, bk := D.nx } σ2 H2) := by
  refine ⟨fun i m σ H => m = xs.length - i ∧ i ≤ xs.length ∧ Pv i σ H, ⟨xs.length, by simp, Nat.zero_le _, h0⟩, ?_⟩
  rintro i m σ H ⟨rfl, hi, p⟩
  have q := hl i σ H hi p
  by_cases hlt : i < xs.length
  · refine .inr ⟨⟨xs, xs[i], q, by simp [hlt]⟩, Pv (i + 1), fun σ' H' p' => ⟨xs.length - (i + 1), by omega, rfl, hlt, p'⟩, fun x H' y => ?_⟩
    obtain ⟨e, y⟩ := y
    subst e
    exact hs i x σ _ (y xs q) p
  · have e : i = xs.length := by omega
    subst e
    exact .inl ⟨⟨xs, q, Nat.le_refl _⟩, hd σ H p⟩
theorem for_range {lo : Int} {n : Nat} {g : TG} {tb : TS} {D : Ends} {σ : St} {H : Hp} (Pv : Nat → St → Hp → Prop) (h0 : Pv 0 σ H)
    (hs : ∀ i σ H, i < n → Pv i σ H → g (.int (lo + i)) σ H fun σ2 H2 => tb { D with nx := Pv (i + 1), ct := Pv (i + 1), bk := D.nx } σ2 H2) (hd : ∀ σ H, Pv n σ H → D.nx σ H) :
    ∃ W : Nat → Nat → St → Hp → Prop, (∃ m, W 0 m σ H) ∧ ∀ i m σ H, W i m σ H →
      ((Itr lo n).stop i H ∧ D.nx σ H) ∨ ((Itr lo n).go i H ∧ ∃ N : St → Hp → Prop, (∀ σ' H', N σ' H' → ∃ m', m' < m ∧ W (i + 1) m' σ' H') ∧ ∀ x H', (Itr lo n).yld i H x H' → g x σ H' fun σ2 H2 => tb { D with nx := N, ct := N, bk := D.nx } σ2 H2) := by
  refine ⟨fun i m σ H => m = n - i ∧ i ≤ n ∧ Pv i σ H, ⟨n, by simp, Nat.zero_le _, h0⟩, ?_⟩
  rintro i m σ H ⟨rfl, hi, p⟩
  by_cases hlt : i < n
  · refine .inr ⟨hlt, Pv (i + 1), fun σ' H' p' => ⟨n - (i + 1), by omega, rfl, hlt, p'⟩, fun x H' y => ?_⟩
    obtain ⟨e, y⟩ := y
    subst e y
    exact hs i σ _ hlt p
  · have e : i = n := by omega
    subst e
    exact .inl ⟨Nat.le_refl _, hd σ H p⟩
end L2
namespace L2
open PySem PySem.Spec PyProof.Rows
abbrev R2 := V → V → Hp → VK → Prop
def OpR (X : Cx) (f : Value → Value → Sem Value) (r : R2) : Prop :=
  ∀ (pins : List (Addr × Obj)) (s : Shared) (σ : St) (H : Hp) (x y : V) (v u : Value) (Q : VK), Inv X pins σ H s → RelV x v → RelV y u → r x y H Q →
    wpAny (model X.prog X.w) X.A (f v u) (EP X pins σ Q) X.xe s
def UnR (X : Cx) (f : Value → Sem Value) (r : V → Hp → VK → Prop) : Prop :=
  ∀ (pins : List (Addr × Obj)) (s : Shared) (σ : St) (H : Hp) (x : V) (v : Value) (Q : VK), Inv X pins σ H s → RelV x v → r x H Q →
    wpAny (model X.prog X.w) X.A (f v) (EP X pins σ Q) X.xe s
def CallR (X : Cx) (f : Value) (r : List V → Hp → VK → Prop) : Prop :=
  ∀ (pins : List (Addr × Obj)) (s : Shared) (σ : St) (H : Hp) (xs : List V) (us : List Value) (Q : VK), Inv X pins σ H s → Vals xs us → r xs H Q →
    wpAny (model X.prog X.w) X.A (call f us) (EP X pins σ Q) X.xe s
def TruR (X : Cx) (r : V → Hp → (Bool → Hp → Prop) → Prop) : Prop :=
  ∀ (pins : List (Addr × Obj)) (s : Shared) (σ : St) (H : Hp) (x : V) (v : Value) (Q : Bool → Hp → Prop), Inv X pins σ H s → RelV x v → r x H Q →
    wpAny (model X.prog X.w) X.A (truthy v) (TP X pins σ Q) X.xe s
def tOp (r : R2) (ta tb : TE) : TE := fun σ H Q => ta σ H fun x H1 => tb σ H1 fun y H2 => r x y H2 Q
def tUn (r : V → Hp → VK → Prop) (ta : TE) : TE := fun σ H Q => ta σ H fun x H1 => r x H1 Q
def rI (C : Int → Int → Prop) (g : Int → Int → V) : R2 := fun x y H Q => ∃ i j, x = .int i ∧ y = .int j ∧ C i j ∧ Q (g i j) H
def rI0 (g : Int → Int → V) : R2 := fun x y H Q => ∃ i j, x = .int i ∧ y = .int j ∧ Q (g i j) H
def rU (g : Int → V) : V → Hp → VK → Prop := fun x H Q => ∃ i, x = .int i ∧ Q (g i) H
section
variable {X : Cx} {a b c : Expr} {ta tb tc : TE} {pos : Pos}
theorem binT (ha : PE X a ta) (hb : PE X b tb) {pins : List (Addr × Obj)} {s : Shared} {σ : St} {H : Hp} {R : V → V → Hp → Prop} (I : Inv X pins σ H s)
    (h : ta σ H fun x H1 => tb σ H1 fun y H2 => R x y H2) {Q : Value → Shared → Prop} {f : Value → Value → Sem Value}
    (hf : ∀ v u s2 x y H2, Inv X pins σ H2 s2 → RelV x v → RelV y u → R x y H2 → wpAny (model X.prog X.w) X.A (f v u) Q X.xe s2) :
    wpAny (model X.prog X.w) X.A (eval a X.env) (fun v s₁ => wpAny (model X.prog X.w) X.A (eval b X.env) (fun u s₂ => wpAny (model X.prog X.w) X.A (f v u) Q X.xe s₂) X.xe s₁) X.xe s := by
  refine thn (ha pins s σ H _ I h) fun v s1 ⟨x, H1, I1, r1, q1⟩ => ?_
  refine thn (hb pins s1 σ H1 _ I1 q1) fun u s2 ⟨y, H2, I2, r2, q2⟩ => ?_
  exact hf v u s2 x y H2 I2 r1 r2 q2
theorem pe_op {op : Operator} {r : R2} (ho : OpR X (binaryOp op) r) (ha : PE X a ta) (hb : PE X b tb) : PE X (.BinOp a op b pos) (tOp r ta tb) := by
  intro pins s σ H Q I h
  exact wpAny_BinOp (binT ha hb I h fun v u s2 x y H2 I2 rx ry q => ho pins s2 σ H2 x y v u Q I2 rx ry q)
theorem pe_un {op : UnaryOp} {r : V → Hp → VK → Prop} (ho : UnR X (unaryOp op) r) (ha : PE X a ta) : PE X (.UnaryOp op a pos) (tUn r ta) := by
  intro pins s σ H Q I h
  exact UnaryOp_ (thn (ha pins s σ H _ I h) fun v s1 ⟨x, H1, I1, r1, q1⟩ => ho pins s1 σ H1 x v Q I1 r1 q1)
theorem opI {f : Value → Value → Sem Value} {C : Int → Int → Prop} {g : Int → Int → Int}
    (rule : ∀ (i j : Int) (t u : Tok) (s : Shared) (Q : Value → Shared → Prop) (E : Value → Shared → Prop), C i j → Q (.int (g i j) s.toks) { s with toks := s.toks + 1 } → wpAny (model X.prog X.w) X.A (f (.int i t) (.int j u)) Q E s) :
    OpR X f (rI C fun i j => .int (g i j)) := by
  intro pins s σ H x y v u Q I rx ry h
  obtain ⟨i, j, rfl, rfl, hc, q⟩ := h
  obtain ⟨t, rfl⟩ := rx
  obtain ⟨t', rfl⟩ := ry
  exact rule i j t t' s _ _ hc ⟨.int (g i j), H, I.tok _, ⟨_, rfl⟩, q⟩
theorem opI0 {f : Value → Value → Sem Value} {g : Int → Int → Int}
    (rule : ∀ (i j : Int) (t u : Tok) (s : Shared) (Q : Value → Shared → Prop) (E : Value → Shared → Prop), Q (.int (g i j) s.toks) { s with toks := s.toks + 1 } → wpAny (model X.prog X.w) X.A (f (.int i t) (.int j u)) Q E s) :
    OpR X f (rI0 fun i j => .int (g i j)) := by
  intro pins s σ H x y v u Q I rx ry h
  obtain ⟨i, j, rfl, rfl, q⟩ := h
  obtain ⟨t, rfl⟩ := rx
  obtain ⟨t', rfl⟩ := ry
  exact rule i j t t' s _ _ ⟨.int (g i j), H, I.tok _, ⟨_, rfl⟩, q⟩
theorem opB0 {f : Value → Value → Sem Value} {g : Int → Int → Bool}
    (rule : ∀ (i j : Int) (t u : Tok) (s : Shared) (Q : Value → Shared → Prop) (E : Value → Shared → Prop), Q (.bool (g i j)) s → wpAny (model X.prog X.w) X.A (f (.int i t) (.int j u)) Q E s) :
    OpR X f (rI0 fun i j => .bl (g i j)) := by
  intro pins s σ H x y v u Q I rx ry h
  obtain ⟨i, j, rfl, rfl, q⟩ := h
  obtain ⟨t, rfl⟩ := rx
  obtain ⟨t', rfl⟩ := ry
  exact rule i j t t' s _ _ ⟨.bl (g i j), H, I, rfl, q⟩
def CDiv (i j : Int) : Prop := 0 < j ∧ j < 1073741824
def CPow (i j : Int) : Prop := 0 ≤ j ∧ j ≤ 1000000 ∧ i.natAbs < 2 ^ 64
def CMul (i j : Int) : Prop := (-(2 ^ 64) < i ∧ i < 2 ^ 64) ∨ (-(2 ^ 64) < j ∧ j < 2 ^ 64)
theorem CMul.ok {i j : Int} (h : CMul i j) : IntMulOk i j := by
  rcases h with ⟨h1, h2⟩ | ⟨h1, h2⟩
  · exact .of_left (intBits_le_64 h1 h2)
  · exact .of_right (intBits_le_64 h1 h2)
theorem op_add : OpR X (binaryOp .Add) (rI0 fun i j => .int (i + j)) := opI0 fun _ _ _ _ _ _ _ q => add_int q
theorem op_sub : OpR X (binaryOp .Sub) (rI0 fun i j => .int (i - j)) := opI0 fun _ _ _ _ _ _ _ q => sub_int q
theorem op_fdiv : OpR X (binaryOp .FloorDiv) (rI CDiv fun i j => .int (i / j)) := opI fun i j _ _ _ _ _ hc q => by
  have h1 : (0 : Int) < j := hc.1
  have h2 : j < 1073741824 := hc.2
  exact floordiv_int (by omega) (by rw [Int.fdiv_eq_ediv_of_nonneg i (by omega)]; exact q) (.inl (PyProof.noPylong_small (by omega)))
theorem op_mod : OpR X (binaryOp .Mod) (rI (fun _ j => 0 < j) fun i j => .int (i % j)) := opI fun i j _ _ _ _ _ hc q => by
  have h1 : (0 : Int) < j := hc
  exact mod_int' (by omega) (by rw [Int.fmod_eq_emod_of_nonneg i (by omega)]; exact q)
theorem op_pow : OpR X (binaryOp .Pow) (rI CPow fun i j => .int (i ^ j.toNat)) := opI fun _ _ _ _ _ _ _ hc q => pow_int_small hc.1 hc.2.1 hc.2.2 q
theorem unI {f : Value → Sem Value} {g : Int → Int}
    (rule : ∀ (i : Int) (t : Tok) (s : Shared) (Q : Value → Shared → Prop) (E : Value → Shared → Prop), Q (.int (g i) s.toks) { s with toks := s.toks + 1 } → wpAny (model X.prog X.w) X.A (f (.int i t)) Q E s) :
    UnR X f (rU fun i => .int (g i)) := by
  intro pins s σ H x v Q I rx h
  obtain ⟨i, rfl, q⟩ := h
  obtain ⟨t, rfl⟩ := rx
  exact rule i t s _ _ ⟨.int (g i), H, I.tok _, ⟨_, rfl⟩, q⟩
theorem un_neg : UnR X (unaryOp .USub) (rU fun i => .int (-i)) := unI fun _ _ _ _ _ q => neg_int q
end
def scal : V → V → Bool
  | .non, .non => true | .non, .int _ => true | .int _, .non => true | .non, .bl _ => true | .bl _, .non => true | .non, .str _ => true | .str _, .non => true
  | .int _, .int _ => true | .bl _, .bl _ => true | .str _, .str _ => true | .byt _, .byt _ => true
  | .int _, .str _ => true | .str _, .int _ => true | .bl _, .str _ => true | .str _, .bl _ => true
  | _, _ => false
def rEq : R2 := fun x y H Q => scal x y = true ∧ Q (.bl (decide (x = y))) H
def rNe : R2 := fun x y H Q => scal x y = true ∧ Q (.bl (!decide (x = y))) H
theorem dec_int {i j : Int} : decide (V.int i = V.int j) = (i == j) := by
  rw [Bool.eq_iff_iff]
  simp
theorem dec_bl {i j : Bool} : decide (V.bl i = V.bl j) = (i == j) := by
  rw [Bool.eq_iff_iff]
  simp
theorem dec_str {i j : Str} : decide (V.str i = V.str j) = (i == j) := by
  rw [Bool.eq_iff_iff]
  simp
theorem dec_byt {i j : Array UInt8} : decide (V.byt i = V.byt j) = (i.toList == j.toList) := by
  rw [Bool.eq_iff_iff]
  cases i
  cases j
  simp
section
variable {X : Cx} {a b c : Expr} {ta tb tc : TE} {pos : Pos}
theorem fin_bl {pins : List (Addr × Obj)} {σ : St} {H : Hp} {s : Shared} {Q : VK} {k k' : Bool} (I : Inv X pins σ H s) (q : Q (.bl k) H) (e : k = k') : EP X pins σ Q (.bool k') s := by
  subst e
  exact ⟨.bl k, H, I, rfl, q⟩
theorem op_eq : OpR X (compareOp .Eq) rEq := by
  intro pins s σ H x y v u Q I rx ry h
  obtain ⟨hs, q⟩ := h
  cases x with
  | non =>
    cases rx
    cases y with
    | non => cases ry; exact PySem.EqNone.eq_none_none (fin_bl I q (by simp))
    | bl j => cases ry; exact PySem.EqNone.eq_none_bool (fin_bl I q (by simp))
    | int j => obtain ⟨t', rfl⟩ := ry; exact PySem.EqNone.eq_none_int (fin_bl I q (by simp))
    | str j => obtain ⟨t', rfl⟩ := ry; exact PySem.EqNone.eq_none_str (fin_bl I q (by simp))
    | _ => exact absurd (show false = true from hs) Bool.false_ne_true
  | bl i =>
    cases rx
    cases y with
    | non => cases ry; exact PySem.EqNone.eq_bool_none (fin_bl I q (by simp))
    | bl j => cases ry; exact eq_bool (fin_bl I q dec_bl)
    | str j => obtain ⟨t', rfl⟩ := ry; exact PySem.EqMixed.eq_bool_str (fin_bl I q (by simp))
    | _ => exact absurd (show false = true from hs) Bool.false_ne_true
  | int i =>
    obtain ⟨t, rfl⟩ := rx
    cases y with
    | non => cases ry; exact PySem.EqNone.eq_int_none (fin_bl I q (by simp))
    | int j => obtain ⟨t', rfl⟩ := ry; exact eq_int (fin_bl I q dec_int)
    | str j => obtain ⟨t', rfl⟩ := ry; exact PySem.EqMixed.eq_int_str (fin_bl I q (by simp))
    | _ => exact absurd (show false = true from hs) Bool.false_ne_true
  | str i =>
    obtain ⟨t, rfl⟩ := rx
    cases y with
    | non => cases ry; exact PySem.EqNone.eq_str_none (fin_bl I q (by simp))
    | bl j => cases ry; exact PySem.EqMixed.eq_str_bool (fin_bl I q (by simp))
    | int j => obtain ⟨t', rfl⟩ := ry; exact PySem.EqMixed.eq_str_int (fin_bl I q (by simp))
    | str j => obtain ⟨t', rfl⟩ := ry; exact eq_str (fin_bl I q dec_str)
    | _ => exact absurd (show false = true from hs) Bool.false_ne_true
  | byt i =>
    obtain ⟨t, rfl⟩ := rx
    cases y with
    | byt j => obtain ⟨t', rfl⟩ := ry; exact PySem.W.eq_bytes (fin_bl I q dec_byt)
    | _ => exact absurd (show false = true from hs) Bool.false_ne_true
  | _ => cases y <;> exact absurd (show false = true from hs) Bool.false_ne_true
theorem op_ne : OpR X (compareOp .NotEq) rNe := by
  intro pins s σ H x y v u Q I rx ry h
  obtain ⟨hs, q⟩ := h
  cases x with
  | non =>
    cases rx
    cases y with
    | non => cases ry; exact PySem.EqNone.ne_none_none (fin_bl I q (by simp))
    | bl j => cases ry; exact PySem.EqNone.ne_none_bool (fin_bl I q (by simp))
    | int j => obtain ⟨t', rfl⟩ := ry; exact PySem.EqNone.ne_none_int (fin_bl I q (by simp))
    | str j => obtain ⟨t', rfl⟩ := ry; exact PySem.EqNone.ne_none_str (fin_bl I q (by simp))
    | _ => exact absurd (show false = true from hs) Bool.false_ne_true
  | bl i =>
    cases rx
    cases y with
    | non => cases ry; exact PySem.EqNone.ne_bool_none (fin_bl I q (by simp))
    | bl j => cases ry; exact ne_bool (fin_bl I q (congrArg not dec_bl))
    | str j => obtain ⟨t', rfl⟩ := ry; exact PySem.EqMixed.ne_bool_str (fin_bl I q (by simp))
    | _ => exact absurd (show false = true from hs) Bool.false_ne_true
  | int i =>
    obtain ⟨t, rfl⟩ := rx
    cases y with
    | non => cases ry; exact PySem.EqNone.ne_int_none (fin_bl I q (by simp))
    | int j => obtain ⟨t', rfl⟩ := ry; exact ne_int (fin_bl I q (congrArg not dec_int))
    | str j => obtain ⟨t', rfl⟩ := ry; exact PySem.EqMixed.ne_int_str (fin_bl I q (by simp))
    | _ => exact absurd (show false = true from hs) Bool.false_ne_true
  | str i =>
    obtain ⟨t, rfl⟩ := rx
    cases y with
    | non => cases ry; exact PySem.EqNone.ne_str_none (fin_bl I q (by simp))
    | bl j => cases ry; exact PySem.EqMixed.ne_str_bool (fin_bl I q (by simp))
    | int j => obtain ⟨t', rfl⟩ := ry; exact PySem.EqMixed.ne_str_int (fin_bl I q (by simp))
    | str j => obtain ⟨t', rfl⟩ := ry; exact ne_str (fin_bl I q (congrArg not dec_str))
    | _ => exact absurd (show false = true from hs) Bool.false_ne_true
  | byt i =>
    obtain ⟨t, rfl⟩ := rx
    cases y with
    | byt j => obtain ⟨t', rfl⟩ := ry; exact PySem.W.ne_bytes (fin_bl I q (congrArg not dec_byt))
    | _ => exact absurd (show false = true from hs) Bool.false_ne_true
  | _ => cases y <;> exact absurd (show false = true from hs) Bool.false_ne_true
theorem op_lt : OpR X (compareOp .Lt) (rI0 fun i j => .bl (decide (i < j))) := opB0 fun _ _ _ _ _ _ _ q => lt_int q
theorem op_le : OpR X (compareOp .LtE) (rI0 fun i j => .bl (decide (i ≤ j))) := opB0 fun _ _ _ _ _ _ _ q => le_int q
theorem op_gt : OpR X (compareOp .Gt) (rI0 fun i j => .bl (decide (j < i))) := opB0 fun _ _ _ _ _ _ _ q => gt_int q
theorem op_ge : OpR X (compareOp .GtE) (rI0 fun i j => .bl (decide (j ≤ i))) := opB0 fun _ _ _ _ _ _ _ q => ge_int q
theorem op_notN : OpR X (compareOp .IsNot) (fun x y H Q => y = .non ∧ Q (.bl (!decide (x = .non))) H) := by
  intro pins s σ H x y v u Q I rx ry h
  obtain ⟨rfl, q⟩ := h
  cases ry
  refine isnot_none_gen (fin_bl I q ?_)
  cases x <;> first
    | (cases rx; rfl)
    | (obtain ⟨t, rfl⟩ := rx; rfl)
theorem OpR.or {f : Value → Value → Sem Value} {r r' : R2} (h : OpR X f r) (h' : OpR X f r') : OpR X f (fun x y H Q => r x y H Q ∨ r' x y H Q) := by
  intro pins s σ H x y v u Q I rx ry q
  rcases q with q | q
  · exact h pins s σ H x y v u Q I rx ry q
  · exact h' pins s σ H x y v u Q I rx ry q
theorem nomark (b : Expr) {op : CmpOp} (h : op ≠ .In := by decide) (h2 : op ≠ .NotIn := by decide) : behindInMarks op b = false := by
  have e1 : (op == CmpOp.In) = false := by cases op <;> first | rfl | exact absurd rfl h
  have e2 : (op == CmpOp.NotIn) = false := by cases op <;> first | rfl | exact absurd rfl h2
  cases b <;> simp [behindInMarks, e1, e2]
theorem pe_cmpR {op : CmpOp} {r : R2} (ho : OpR X (compareOp op) r) (ha : PE X a ta) (hb : PE X b tb) (hm : behindInMarks op b = false) : PE X (.Compare a [op] [b] pos) (tOp r ta tb) := by
  intro pins s σ H Q I h
  exact wpAny_Compare1 (binT ha hb I h fun v u s2 x y H2 I2 rx ry q => ho pins s2 σ H2 x y v u Q I2 rx ry q) hm
def TruV (K : PySem.W.Frag) (x : V) (H : Hp) (k : Bool) : Prop :=
  match x with
  | .non => k = false
  | .bl b => k = b
  | .int i => k = (i != 0)
  | .str y => y.length ≤ sizeLine ∧ k = ((y.length : Int) != 0)
  | .byt y => y.size ≤ sizeLine ∧ k = ((y.size : Int) != 0)
  | .ref p => (∃ xs, SqL K H p xs ∧ k = !xs.isEmpty) ∨ (∃ xs, SqT K H p xs ∧ k = !xs.isEmpty) ∨ ∃ kvs, H p = some (.dK kvs) ∧ k = !kvs.isEmpty
  | _ => False
theorem isEmpty_kv {κ : Type} {kvs : List (κ × V)} {vs : List (κ × Value)} (r : KV kvs vs) : (!vs.isEmpty) = !kvs.isEmpty := by
  cases r <;> rfl
theorem isEmpty_of {xs : List V} {its : List Value} (r : Vals xs its) : (!its.toArray.isEmpty) = !xs.isEmpty := by
  cases r <;> simp
theorem line63 : (sizeLine : Nat) < 2 ^ 63 := by rw [sizeLine_eq]; decide
theorem tru_ok : TruR X (fun x H Q => ∃ k, TruV X.K x H k ∧ Q k H) := by
  intro pins s σ H x v Q I rx h
  obtain ⟨k, e, q⟩ := h
  have hl := line63
  have hs : sizeLine = 16777216 := sizeLine_eq
  cases x with
  | non =>
    cases rx
    have e' : k = false := e
    subst e'
    exact truthy_none ⟨H, I, q⟩
  | bl b =>
    cases rx
    have e' : k = b := e
    subst e'
    exact wpAny_truthy_bool ⟨H, I, q⟩
  | int i =>
    obtain ⟨t, rfl⟩ := rx
    have e' : k = (i != 0) := e
    subst e'
    exact PySem.P.truthy_int ⟨H, I, q⟩
  | str y =>
    obtain ⟨t, rfl⟩ := rx
    obtain ⟨hy, e'⟩ : y.length ≤ sizeLine ∧ k = ((y.length : Int) != 0) := e
    subst e'
    exact PySem.P.truthy_str (by omega) ⟨H, I.tok _, q⟩
  | byt y =>
    obtain ⟨t, rfl⟩ := rx
    obtain ⟨hy, e'⟩ : y.size ≤ sizeLine ∧ k = ((y.size : Int) != 0) := e
    subst e'
    exact PySem.W.truthy_bytes (by omega) ⟨H, I.tok _, q⟩
  | ref p =>
    cases rx
    have e' : (∃ xs, SqL X.K H p xs ∧ k = !xs.isEmpty) ∨ (∃ xs, SqT X.K H p xs ∧ k = !xs.isEmpty) ∨ ∃ kvs, H p = some (.dK kvs) ∧ k = !kvs.isEmpty := e
    rcases e' with ⟨xs, hx, e'⟩ | ⟨xs, hx, e'⟩ | ⟨kvs, hx, e'⟩
    · subst e'
      obtain ⟨its, r, pl, hz⟩ := I.list hx
      have hlen := r.length
      exact wpAny_truthy_list pl.isList (by simp only [List.size_toArray]; omega) ⟨H, I.tok _, by rw [isEmpty_of r]; exact q⟩
    · subst e'
      obtain ⟨its, r, pl, hz⟩ := I.tuple hx
      have hlen := r.length
      exact truthy_tuple pl (by simp only [List.size_toArray]; omega) ⟨H, I.tok _, by rw [isEmpty_of r]; exact q⟩
    · subst e'
      obtain ⟨hz, hS, vs, r, m⟩ : kvs.length ≤ sizeLine ∧ (p == sysModules) = false ∧ ∃ vs, KV kvs vs ∧ s.heap.DictOf (mixKind X.prog X.w) p vs := I.hok p _ hx
      have hlen : kvs.length = vs.length := Paired.length r
      exact wpAny_truthy_dict hS m (by omega) ⟨H, I.tok _, by rw [isEmpty_kv r]; exact q⟩
  | _ => exact (show False from e).elim
theorem op_add_str : OpR X (binaryOp .Add) (fun x y H Q => ∃ i j, x = .str i ∧ y = .str j ∧ i.length + j.length ≤ sizeLine ∧ Q (.str (i ++ j)) H) := by
  intro pins s σ H x y v u Q I rx ry h
  obtain ⟨i, j, rfl, rfl, hz, q⟩ := h
  obtain ⟨t, rfl⟩ := rx
  obtain ⟨t', rfl⟩ := ry
  exact add_str (fun t' tk => ⟨.str (i ++ j), H, I.tok _, ⟨_, rfl⟩, q⟩) hz
theorem vals1 {x : V} {us : List Value} (r : Vals [x] us) : ∃ u, us = [u] ∧ RelV x u := by
  cases r with
  | cons r1 r2 => cases r2; exact ⟨_, rfl, r1⟩
theorem vals2 {x y : V} {us : List Value} (r : Vals [x, y] us) : ∃ u w', us = [u, w'] ∧ RelV x u ∧ RelV y w' := by
  cases r with
  | cons r1 r2 =>
    cases r2 with
    | cons r3 r4 => cases r4; exact ⟨_, _, rfl, r1, r3⟩
theorem call_max2 (hc : X.calm = true) : CallR X (.builtin "max") (fun xs H Q => ∃ i j, xs = [.int i, .int j] ∧ Q (.int (if j > i then j else i)) H) := by
  intro pins s σ H xs us Q I r h
  obtain ⟨i, j, rfl, q⟩ := h
  obtain ⟨u, w', rfl, ⟨t, rfl⟩, ⟨t', rfl⟩⟩ := vals2 r
  refine max_two_ints (I.ok.hd hc) fun h' tk k => ⟨_, H, I.kept k, ?_, q⟩
  by_cases hj : j > i
  · rw [if_pos hj, if_pos hj]; exact ⟨_, rfl⟩
  · rw [if_neg hj, if_neg hj]; exact ⟨_, rfl⟩
theorem call_int1 : CallR X (.type "int") (fun xs H Q => (∃ i, xs = [.int i] ∧ Q (.int i) H) ∨ ∃ k, xs = [.bl k] ∧ Q (.int (if k then 1 else 0)) H) := by
  intro pins s σ H xs us Q I r h
  rcases h with ⟨i, rfl, q⟩ | ⟨k, rfl, q⟩
  · obtain ⟨u, rfl, t, rfl⟩ := vals1 r
    exact call_int_int ⟨.int i, H, I, ⟨_, rfl⟩, q⟩
  · obtain ⟨u, rfl, r1⟩ := vals1 r
    cases r1
    exact call_int_bool ⟨.int (if k then 1 else 0), H, I.tok _, ⟨_, rfl⟩, q⟩
end
end L2
namespace L2
open PySem PySem.Spec PyProof.Rows
structure ObjM (h : Heap) (x dx C : Addr) (mA : Str → Option Value) : Prop where
  obj : h.get? x = some (PySem.W.instObj C dx)
  ns : h.Ns1 dx mA
  ne : dx ≠ x
theorem lookIn_ns {h : Heap} {dx : Addr} {mA : Str → Option Value} (n : h.Ns1 dx mA) : ∃ od, h.get? dx = some od ∧ ∀ name, PySem.W.lookIn name od = some (mA name) := by
  obtain ⟨o, es, ep, ho, hd, hk, _, hm⟩ := n
  refine ⟨o, ho, fun name => ?_⟩
  have e := hm name
  unfold nsFind findBy at e
  rw [← Array.find?_toList] at e
  unfold PySem.W.lookIn
  rw [hd]
  dsimp only
  split
  · rename_i y q
    rw [q] at e
    exact congrArg some e
  · rename_i q
    rw [q] at e
    have a : es.toList.any (·.refKey) = false := by
      rw [List.any_eq_false]
      intro y hy
      obtain ⟨z, t, hkey⟩ := hk y (Array.mem_toList_iff.mp hy)
      simp [DictEntry.refKey, hkey]
    have a' : ¬ es.toList.any (·.refKey) = true := by rw [a]; exact Bool.false_ne_true
    rw [if_neg a']
    exact congrArg some e
theorem ObjM.look {h : Heap} {x dx C : Addr} {mA : Str → Option Value} (I : ObjM h x dx C mA) : ∃ od, PySem.W.InstAt h x (PySem.W.instObj C dx) C (some od) ∧ ∀ name, PySem.W.lookIn name od = some (mA name) :=
  let ⟨od, ho, hl⟩ := lookIn_ns I.ns
  ⟨od, ⟨I.obj, rfl, rfl, ho⟩, hl⟩
section
variable {prog : Program} {w : World} {A : Around} {E : Value → Shared → Prop} {s : Shared} {K : PySem.W.Frag} {x dx C f : Addr} {mA : Str → Option Value} {name : Str} {v : Value}
end
theorem RelO.some_of {v : V} {o : Option Value} (r : RelO (some v) o) : ∃ u, o = some u ∧ RelV v u := by
  cases o with
  | none => exact (show False from r).elim
  | some u => exact ⟨u, rfl, r⟩
theorem RelO.none_of {o : Option Value} (r : RelO none o) : o = none := by
  cases o with
  | none => rfl
  | some u => exact (show False from r).elim
section
variable {P : Program} {w : World} {H H' : Hp} {h h' : Heap} {a C dx : Addr} {fs fs' : List (Str × V)}
theorem ins_get (hok : HOk P w H h) (e : H a = some (.ins C dx fs)) : ∃ mA, ObjM h a dx C mA ∧ (∀ f, RelO (fs.lookup f) (mA f)) ∧ PySem.Within mA (fs.map (·.1)) ∧ fs.length ≤ 1000 ∧ H dx = some (.own a) := by
  obtain ⟨d, z, ne, ob, mA, n, r, q⟩ := (show ObjOk P w H h a (.ins C dx fs) from hok a _ e)
  exact ⟨mA, ⟨ob, n, ne⟩, r, q, z, d⟩
end
structure Cls (K : PySem.W.Frag) (C : Addr) : Prop where
  pg : PySem.W.plainGet K C Str.empty = true
  hd : PySem.W.hasDictIn K C = true
  po : PySem.W.plainOver K C = true
  sa : PySem.W.findIn K (.ref C) "__setattr__" = some (some (.builtin "object.__setattr__"))
theorem Cls.get {K : PySem.W.Frag} {C : Addr} (c : Cls K C) (f : Str) : PySem.W.plainGet K C f = true := c.pg
structure Con (K : PySem.W.Frag) (C : Addr) (f : Str) (v : V) (u : Value) : Prop where
  at_ : PySem.W.findIn K (.ref C) f = some (some u)
  rel : RelV v u
  get : PySem.W.specialIn K u "__get__" = some none
  cp : PySem.W.copiedNames.contains f = false
structure Meth (K : PySem.W.Frag) (C : Addr) (m : Str) (f : Addr) : Prop where
  at_ : PySem.W.findIn K (.ref C) m = some (some (.ref f))
  fn : PySem.W.isFn K (.ref f) = true
  kp : PySem.W.keepIn K (.ref f) = true
section
variable {X : Cx} {pins : List (Addr × Obj)} {σ : St} {H : Hp} {s : Shared} {a C dx : Addr} {fs : List (Str × V)} {f : Str} {v : V} {A : Around} {E : Value → Shared → Prop}
theorem Inv.made (I : Inv X pins σ H s) : Inv X pins σ (upd (upd H s.heap.objs.size (.own (s.heap.objs.size + 1))) (s.heap.objs.size + 1) (.ins C s.heap.objs.size []))
    { s with heap := (s.heap.push PySem.W.emptyDict).push (PySem.W.instObj C s.heap.objs.size) } := by
  have e1 : (s.heap.push PySem.W.emptyDict).get? s.heap.objs.size = some PySem.W.emptyDict := Heap.get?_push_size s.heap rfl
  have e2 : ((s.heap.push PySem.W.emptyDict).push (PySem.W.instObj C s.heap.objs.size)).get? (s.heap.objs.size + 1) = some (PySem.W.instObj C s.heap.objs.size) := by
    have := Heap.get?_push_size (s.heap.push PySem.W.emptyDict) (o := PySem.W.instObj C s.heap.objs.size) rfl
    rwa [Heap.size_push] at this
  have e3 : (s.heap.push PySem.W.emptyDict).Ns s.heap.objs.size (fun _ => none) := ⟨PySem.W.emptyDict, #[], _, e1, rfl, (fun e he => absurd he (by simp)), fun _ => rfl⟩
  have I1 := I.laid (a := s.heap.objs.size) (o := .own (s.heap.objs.size + 1)) (h' := s.heap.push PySem.W.emptyDict) (t' := s.toks) (fun b u q => Heap.get?_push_of_some _ q) (Nat.le_refl _) ⟨_, e1⟩
  refine I1.laid (a := s.heap.objs.size + 1) (o := .ins C s.heap.objs.size []) (t' := s.toks) (fun b u q => Heap.get?_push_of_some _ q) (Nat.le_of_eq (Heap.size_push _ _)) ?_
  have ne : s.heap.objs.size ≠ s.heap.objs.size + 1 := Nat.ne_of_lt (Nat.lt_succ_self _)
  refine ⟨by rw [upd_ne ne, upd_same], Nat.zero_le _, ne, e2, fun _ => none, (Heap.Ns1.of_empty e3).at fun o q => Heap.get?_push_of_some _ q, fun _ => True.intro, fun y hy => absurd rfl hy⟩
end
section
variable {X : Cx} {o e value : Expr} {f : Str} {pos pos' tpos : Pos} {ta tv : TE}
end
section
variable {X : Cx} {pins : List (Addr × Obj)} {σ : St} {H : Hp} {s : Shared} {A : Around} {E : Value → Shared → Prop} {Q : Value → Shared → Prop} {c : Value} {b : Bool}
inductive TyOf (K : PySem.W.Frag) (H : Hp) : V → Value → Prop where
  | non : TyOf K H .non (.type "NoneType")
  | bl (x : Bool) : TyOf K H (.bl x) (.type "bool")
  | int (i : Int) : TyOf K H (.int i) (.type "int")
  | str (x : Str) : TyOf K H (.str x) (.type "str")
  | flt (x : UInt64) : TyOf K H (.flt x) (.type "float")
  | lst {a : Addr} {xs : List V} (e : H a = some (.lst xs)) : TyOf K H (.ref a) (.type "list")
  | frz {a : Addr} {o : Obj} {xs : List V} (e : H a = some (.frz o (.lst xs))) : TyOf K H (.ref a) (.type "list")
  | tup {a : Addr} {xs : List V} (e : H a = some (.tup xs)) : TyOf K H (.ref a) (.type "tuple")
  | dK {a : Addr} {kvs : List (Key × V)} (e : H a = some (.dK kvs)) : TyOf K H (.ref a) (.type "dict")
  | dT {a : Addr} {kvs : List (List Key × V)} (e : H a = some (.dT kvs)) : TyOf K H (.ref a) (.type "dict")
  | ins {a C dx : Addr} {fs : List (Str × V)} (e : H a = some (.ins C dx fs)) (cl : Cls K C) (ha : PySem.W.findIn K (.ref C) "__class__" = some (some (.builtin "object.__class__")))
      (hn : PySem.W.specialIn K (.builtin "object.__class__") "__get__" = some (some (.builtin "getset_descriptor.__get__"))) (htk : PySem.W.takesIn K (.builtin "object.__class__") = some true)
      (hm : PySem.W.mroIn K C (.type "object") = some true) : TyOf K H (.ref a) (.ref C)
theorem isinst_ok {x : V} {u t : Value} (I : Inv X pins σ H s) (rx : RelV x u) (ty : TyOf X.K H x t) (e : PySem.W.kitOne X.K t c = some b) (h : ∀ tk, Q (.bool b) { s with toks := tk }) :
    wpAny (model X.prog X.w) A (call (.builtin "isinstance") [u, c]) Q E s := by
  cases ty with
  | non => cases (show u = Value.none from rx); exact PySem.W.kia_one PySem.W.kitx_none I.kIn True.intro e (fun z => nomatch z) h
  | bl y => cases (show u = Value.bool y from rx); exact PySem.W.kia_one PySem.W.kitx_bool I.kIn True.intro e (fun z => nomatch z) h
  | int i => obtain ⟨t, q⟩ := (show ∃ t, u = Value.int i t from rx); cases q; exact PySem.W.kia_one PySem.W.kitx_int I.kIn True.intro e (fun z => nomatch z) h
  | str y => obtain ⟨t, q⟩ := (show ∃ t, u = Value.str y t from rx); cases q; exact PySem.W.kia_one PySem.W.kitx_str I.kIn True.intro e (fun z => nomatch z) h
  | flt y => obtain ⟨t, q⟩ := (show ∃ t, u = Value.float y t from rx); cases q; exact PySem.W.kia_one PySem.W.kitx_float I.kIn True.intro e (fun z => nomatch z) h
  | @lst a xs ea =>
    cases (show u = Value.ref a from rx)
    obtain ⟨_, _, n, _, h1⟩ := (show ObjOk X.prog X.w H s.heap a (.lst xs) from I.hok a _ ea)
    exact PySem.W.kia_one PySem.W.kitx_list I.kIn ⟨_, h1, rfl⟩ e (fun z => nomatch z) h
  | @frz a ob xs ea =>
    cases (show u = Value.ref a from rx)
    obtain ⟨_, _, _, n, _, h1⟩ := (show ObjOk X.prog X.w H s.heap a (.frz ob (.lst xs)) from I.hok a _ ea)
    exact PySem.W.kia_one PySem.W.kitx_list I.kIn ⟨_, h1, rfl⟩ e (fun z => nomatch z) h
  | @tup a xs ea =>
    cases (show u = Value.ref a from rx)
    obtain ⟨_, _, _, p⟩ := (show ObjOk X.prog X.w H s.heap a (.tup xs) from I.hok a _ ea)
    obtain ⟨o, h1, h2, _⟩ := p
    exact PySem.W.kia_one PySem.W.kitx_tuple I.kIn ⟨o, h1, h2⟩ e (fun z => nomatch z) h
  | @dK a kvs ea =>
    cases (show u = Value.ref a from rx)
    obtain ⟨_, _, vs, _, p⟩ := (show ObjOk X.prog X.w H s.heap a (.dK kvs) from I.hok a _ ea)
    obtain ⟨o, es, ep, h1, h2, _⟩ := p
    exact PySem.W.kia_one PySem.W.kitx_dict I.kIn ⟨o, h1, h2.1⟩ e (fun z => nomatch z) h
  | @dT a kvs ea =>
    cases (show u = Value.ref a from rx)
    obtain ⟨_, _, xs, _, o, es, ep, h1, h2, _⟩ := (show ObjOk X.prog X.w H s.heap a (.dT kvs) from I.hok a _ ea)
    exact PySem.W.kia_one PySem.W.kitx_dict I.kIn ⟨o, h1, h2.1⟩ e (fun z => nomatch z) h
  | @ins a C dx fs ea cl ha hn htk hm =>
    cases (show u = Value.ref a from rx)
    obtain ⟨mA, O, _⟩ := ins_get I.hok ea
    obtain ⟨od, J, _⟩ := O.look
    exact PySem.W.kia_one (PySem.W.kitx_own (cl.get _) cl.hd ha hn htk hm) I.kIn J e (fun z => nomatch z) h
end
end L2
namespace L2
open PySem PySem.Spec PyProof.Rows
structure Room (k : Nat) (A : Around) : Prop where
  hd : A.handled = none
  dp : A.depth + 3 * k + 5 < recursionLimit
  un : A.units + 16 * k + 200 < cLine
  gd : A.guards = some []
theorem Room.mono {j k : Nat} {A : Around} (r : Room k A) (h : j ≤ k) : Room j A := ⟨r.hd, by have := r.dp; omega, by have := r.un; omega, r.gd⟩
theorem Room.deeper {k : Nat} {A : Around} (r : Room (k + 1) A) (env : Env) : Room k (A.deeper env) :=
  ⟨r.hd, by have := r.dp; show A.depth + 1 + 3 * k + 5 < _; omega, by have := r.un; show A.units + 3 + 16 * k + 200 < _; omega, r.gd⟩
theorem Room.in1 {k : Nat} {A : Around} (r : Room (k + 1) A) : Room k A.in1 :=
  ⟨r.hd, by have := r.dp; show A.depth + 3 * k + 5 < _; omega, by have := r.un; show A.units + 1 + 16 * k + 200 < _; omega, r.gd⟩
theorem make_depth {A : Around} {C : Addr} {us : List Value} {kw : List (Str × Value)} : (A.under (.builtin "type.__call__" ⟨.ref C :: us, kw⟩)).depth = A.depth + 1 := by
  first | rfl | simp [Around.under, Code.weight, Code.isCreation, Code.isGuard, Code.isCaller, Code.frames, Code.isFrame, guardIds]
theorem make_units {A : Around} {C : Addr} {us : List Value} {kw : List (Str × Value)} : (A.under (.builtin "type.__call__" ⟨.ref C :: us, kw⟩)).units = A.units + 1 := by
  first | rfl | simp [Around.under, Code.cUnits, Code.frames, Code.isFrame]
theorem Room.make {k : Nat} {A : Around} (r : Room (k + 1) A) (C : Addr) (us : List Value) (kw : List (Str × Value)) : Room k (A.under (.builtin "type.__call__" ⟨.ref C :: us, kw⟩)) :=
  ⟨r.hd, by have := r.dp; rw [make_depth]; omega, by have := r.un; rw [make_units]; omega, by rw [show (A.under (.builtin "type.__call__" ⟨.ref C :: us, kw⟩)).guards = pushGuards (Code.guards (.builtin "type.__call__" ⟨.ref C :: us, kw⟩)) A.guards from rfl, r.gd]; first | rfl | simp [Code.guards, Code.isGuard, pushGuards, guardIds]⟩
theorem Room.depth {k : Nat} {A : Around} (r : Room k A) : A.depth < recursionLimit := by have := r.dp; omega
theorem Room.units {k : Nat} {A : Around} (r : Room k A) : A.units + 64 < cLine := by have := r.un; omega
def tNil : TA := fun _ H Q => Q [] H
def tCons (ta : TE) (tr : TA) : TA := fun σ H Q => ta σ H fun x H1 => tr σ H1 fun xs H2 => Q (x :: xs) H2
section
variable {X : Cx} {e : Expr} {es : List Expr} {te : TE} {t : TA} {pos : Pos}
theorem pa_nil : PA X [] tNil := fun _ _ _ _ H Q I h => Calls.spliced_nil ⟨[], H, I, .nil, h⟩
theorem pa_cons (ha : PE X e te) (hr : PA X es t) (hs : starEach (e :: es) X.env = (false, eval e X.env) :: starEach es X.env := by rfl) : PA X (e :: es) (tCons te t) := by
  intro pos pins s σ H Q I h
  rw [hs]
  show wpAny _ _ (spliced ((false, eval e X.env) :: backTo pos (starEach es X.env))) _ _ s
  refine Calls.spliced_cons (thn (ha pins s σ H _ I h) fun u s1 ⟨x, H1, I1, r1, q1⟩ => ?_)
  exact thn (hr pos pins s1 σ H1 _ I1 q1) fun us s2 ⟨xs, H2, I2, r2, q2⟩ => ⟨x :: xs, H2, I2, .cons r1 r2, q2⟩
def tTup (t : TA) : TE := fun σ H Q => t σ H fun xs H1 => xs.length ≤ sizeLine ∧ ∀ p, H1 p = none → Q (.ref p) (upd H1 p (.tup xs))
def tLst (t : TA) : TE := fun σ H Q => t σ H fun xs H1 => xs.length ≤ sizeLine ∧ ∀ p, H1 p = none → Q (.ref p) (upd H1 p (.lst xs))
theorem pe_tup {x1} (h : PA X es t) : PE X (.Tuple es x1 pos) (tTup t) := by
  intro pins s σ H Q I hq
  refine wpAny_Tuple_spliced (thn (h pos pins s σ H _ I hq) fun us s1 ⟨xs, H1, I1, r, z, q⟩ => ⟨by rw [← r.length]; exact z, ?_⟩)
  have hf : H1 s1.heap.objs.size = none := I1.hok.fresh (Nat.le_refl _)
  refine ⟨.ref s1.heap.objs.size, upd H1 s1.heap.objs.size (.tup xs), I1.laid (t' := s1.toks) (fun b u e => Heap.get?_push_of_some _ e) (Nat.le_refl _) ?_, rfl, q _ hf⟩
  exact ⟨z, us, r, ⟨_, Heap.get?_push_size _ rfl, rfl, _, rfl⟩⟩
theorem pe_lst (h : PA X es t) : PE X (.List es pos) (tLst t) := by
  intro pins s σ H Q I hq
  refine wpAny_List_spliced (thn (h pos pins s σ H _ I hq) fun us s1 ⟨xs, H1, I1, r, z, q⟩ => ⟨by rw [← r.length]; exact z, ?_⟩)
  have hf : H1 s1.heap.objs.size = none := I1.hok.fresh (Nat.le_refl _)
  refine ⟨.ref s1.heap.objs.size, upd H1 s1.heap.objs.size (.lst xs), I1.laid (t' := s1.toks) (fun b u e => Heap.get?_push_of_some _ e) (Nat.le_refl _) ?_, rfl, q _ hf⟩
  exact ⟨z, us, 0, r, Heap.get?_push_size _ rfl⟩
end
abbrev Sp := List V → Hp → VK → XK → Prop
abbrev CXT := List Env → Hp → Shared → XK → Value → Shared → Prop
structure Env0 (P : Program) (w : World) (K : PySem.W.Frag) (mg : Str → Option Value) (base : Heap) (A : Around) (outer : List Env) (s : Shared) (H : Hp) : Prop where
  frames : A.frames = some outer
  mod : Mod K mg base
  bs : ∀ b o, base.get? b = some o → s.heap.get? b = some o ∧ H b = none
  bsz : base.objs.size ≤ s.heap.objs.size
  funs : s.heap.FunFrames base outer
  frf : ∀ b ∈ frs outer, H b = none
  hok : HOk P w H s.heap
  bare : AllBare s.gens
def CE (outer : List Env) (P : Program) (w : World) (H : Hp) (s : Shared) (Q : VK) (u : Value) (s' : Shared) : Prop :=
  ∃ v H', s'.os = s.os ∧ AllBare s'.gens ∧ Un (frs outer) [] H H' s.heap s'.heap ∧ HOk P w H' s'.heap ∧ RelV v u ∧ Q v H'
def CR (CX : CXT) (outer : List Env) (P : Program) (w : World) (H : Hp) (s : Shared) (Q : VK) (E : XK) (r : Result) (s' : Shared) : Prop :=
  match r with
  | .ok (.ret u) => CE outer P w H s Q u s'
  | .ok _ => False
  | .error e => CX outer H s E e s'
structure FnOk (P : Program) (w : World) (K : PySem.W.Frag) (mg : Str → Option Value) (base : Heap) (CX : CXT) (k : Nat) (f : Addr) (fd : FuncData) (ps : List Str) (sp : Sp) : Prop where
  len : ∀ vs H Q E, sp vs H Q E → vs.length = ps.length
  run : ∀ (A : Around) (outer : List Env) (s : Shared) (H : Hp) (args : Args) (us : List Value) (vs : List V) (Q : VK) (E : XK), Room k A → Env0 P w K mg base A outer s H → BindsTo s fd args (ps.zip us) → Vals vs us → sp vs H Q E →
    codeAny (model P w) A (.call (.ref f) args) (CR CX outer P w H s Q E) s
theorem FnOk.mono {P : Program} {w : World} {K : PySem.W.Frag} {mg : Str → Option Value} {base : Heap} {CX : CXT} {j k : Nat} {f : Addr} {fd : FuncData} {ps : List Str} {sp : Sp} (F : FnOk P w K mg base CX j f fd ps sp) (h : j ≤ k) :
    FnOk P w K mg base CX k f fd ps sp := ⟨F.len, fun A outer s H args us vs Q E hr => F.run A outer s H args us vs Q E (hr.mono h)⟩
theorem FnOk.imp {P : Program} {w : World} {K : PySem.W.Frag} {mg : Str → Option Value} {base : Heap} {CX : CXT} {k : Nat} {f : Addr} {fd : FuncData} {ps : List Str} {sp sp' : Sp} (F : FnOk P w K mg base CX k f fd ps sp)
    (h : ∀ vs H Q E, sp' vs H Q E → sp vs H Q E) : FnOk P w K mg base CX k f fd ps sp' :=
  ⟨fun vs H Q E q => F.len vs H Q E (h _ _ _ _ q), fun A outer s H args us vs Q E hr he hb hv hs => F.run A outer s H args us vs Q E hr he hb hv (h _ _ _ _ hs)⟩
theorem Env0.make {P : Program} {w : World} {K : PySem.W.Frag} {mg : Str → Option Value} {base : Heap} {A : Around} {outer : List Env} {s : Shared} {H : Hp} (e : Env0 P w K mg base A outer s H) (C : Addr) (us : List Value) (kw : List (Str × Value)) :
    Env0 P w K mg base (A.under (.builtin "type.__call__" ⟨.ref C :: us, kw⟩)) outer s H := ⟨by first | exact e.frames | (simpa [Around.under, Code.envs, Code.isFrame, pushEnvs] using e.frames), e.mod, e.bs, e.bsz, e.funs, e.frf, e.hok, e.bare⟩
theorem Env0.in1 {P : Program} {w : World} {K : PySem.W.Frag} {mg : Str → Option Value} {base : Heap} {A : Around} {outer : List Env} {s : Shared} {H : Hp} (e : Env0 P w K mg base A outer s H) :
    Env0 P w K mg base A.in1 outer s H := ⟨e.frames, e.mod, e.bs, e.bsz, e.funs, e.frf, e.hok, e.bare⟩
section
variable {X : Cx} {pins : List (Addr × Obj)} {σ : St} {H : Hp} {s s' : Shared}
theorem Inv.env0 (I : Inv X pins σ H s) : Env0 X.prog X.w X.K X.mg X.base X.A X.stack s H :=
  ⟨I.ok.frames, I.ok.mod, I.bs, Nat.le_trans I.ok.bsz I.sz, I.stack, I.stkFree, I.hok, I.bare⟩
theorem Inv.after {Q : VK} {u : Value} (I : Inv X pins σ H s) (h : CE X.stack X.prog X.w H s Q u s') : EP X pins σ Q u s' := by
  obtain ⟨v, H', os, bare, un, hok, r, q⟩ := h
  obtain ⟨hh, g, d, t, os'⟩ := s'
  obtain rfl : os' = s.os := os
  exact ⟨v, H', I.call (h' := hh) (g' := g) (d' := d) (t' := t) (ch := []) un hok bare (fun b z => absurd z (by simp)), r, q⟩
end
def tCall (sp : Sp) (dvs : List V) (E : XK) (t : TA) : TE := fun σ H Q => t σ H fun vs H1 => sp (vs ++ dvs) H1 Q E
def Binds (K : PySem.W.Frag) (fd : FuncData) (ps : List Str) (ds : List Value) : Prop :=
  ∀ (s : Shared) (us : List Value), K.In s.heap → (us ++ ds).length = ps.length → BindsTo s fd ⟨us, []⟩ (ps.zip (us ++ ds))
theorem Binds.all {K : PySem.W.Frag} {fd : FuncData} {ps : List Str} (h : ∀ us : List Value, us.length = ps.length → bindArgs fd ⟨us, []⟩ = pure (ps.zip us)) : Binds K fd ps [] := fun s us _ hl => by
  rw [List.append_nil] at hl ⊢
  exact .of_eq (h us hl)
def Passes (CX : CXT) (X : Cx) (E : XK) : Prop := ∀ (pins : List (Addr × Obj)) (σ : St) (H : Hp) (s : Shared) (e : Value) (s' : Shared), Inv X pins σ H s → CX X.stack H s E e s' → X.xe e s'
section
variable {X : Cx} {CX : CXT} {k : Nat} {f C : Addr} {fd : FuncData} {ps : List Str} {sp : Sp} {dvs : List V} {ds : List Value} {E : XK} {x m : Str} {p pos apos : Pos} {e o : Expr} {es : List Expr} {ta : TE} {t : TA}
theorem run_fn {pins : List (Addr × Obj)} {σ : St} {H : Hp} {s : Shared} {Q : VK} {us : List Value} {vs : List V} (F : FnOk X.prog X.w X.K X.mg X.base CX k f fd ps sp) (hr : Room k X.A) (hb : Binds X.K fd ps ds) (hd : Vals dvs ds) (hx : Passes CX X E)
    (I : Inv X pins σ H s) (r : Vals vs us) (h : sp (vs ++ dvs) H Q E) : wpAny (model X.prog X.w) X.A (call (.ref f) us) (EP X pins σ Q) X.xe s := by
  have r2 : Vals (vs ++ dvs) (us ++ ds) := r.append hd
  have hl : (us ++ ds).length = ps.length := by rw [← r2.length]; exact F.len _ _ _ _ h
  refine wpAny_call (codeAny_mono (F.run X.A X.stack s H ⟨us, []⟩ (us ++ ds) (vs ++ dvs) Q E hr I.env0 (hb s us I.kIn hl) r2 h) fun r s' hq => ?_)
  cases r with
  | error e => exact hx pins σ H s e s' I hq
  | ok fl =>
    cases fl with
    | ret u => exact I.after hq
    | next => exact False.elim hq
    | brk => exact False.elim hq
    | cont => exact False.elim hq
theorem pe_call (F : FnOk X.prog X.w X.K X.mg X.base CX k f fd ps sp) (hr : Room k X.A) (hg : Gl X x) (hm : X.mg x = some (.ref f)) (hk : PySem.W.keepIn X.K (.ref f) = true) (hb : Binds X.K fd ps ds) (hd : Vals dvs ds) (hx : Passes CX X E)
    (ha : PA X (e :: es) t) (hdb : (x == ("__debug__" : Str)) = false := by decide) (he : starEach (e :: es) X.env = (false, eval e X.env) :: starEach es X.env := by rfl) (hpl : (backTo pos (starEach es X.env)).any (·.1) = false := by rfl) :
    PE X (.Call (.Name x p) (e :: es) [] pos) (tCall sp dvs E t) := by
  intro pins s σ H Q I h
  refine wpAny_Call_Name_kw (ld_glob I hg hm ?_ hdb)
  refine PySem.W.callWith_K (h₀ := X.base) I.ok.mod.kin hk (thn (ha pos pins s σ H _ I h) fun us s1 ⟨vs, H1, I1, r, q⟩ => ⟨I1.kIn, ?_⟩) he hpl
  exact run_fn F hr hb hd hx I1 r q
structure Mk (K : PySem.W.Frag) (C f : Addr) : Prop where
  makes : PySem.W.makesIn K C = true
  init : PySem.W.findIn K (.ref C) "__init__" = some (some (.ref f))
  fn : PySem.W.isFn K (.ref f) = true
  kp : PySem.W.keepIn K (.ref C) = true
end
section
variable {X : Cx} {CX : CXT} {k : Nat} {f C : Addr} {fd : FuncData} {ps ks : List Str} {sp : Sp} {E : XK} {x m : Str} {p pos apos kpos : Pos} {e o : Expr} {es : List Expr} {kws : List Keyword} {te ta : TE} {t tk : TA} {nm : Option Str}
structure KBinds (K : PySem.W.Frag) (fd : FuncData) (ps ks : List Str) (g : List Value → List Value → List Value) (gV : List V → List V → List V) : Prop where
  to : ∀ (s : Shared) (us ws : List Value), K.In s.heap → (g us ws).length = ps.length → BindsTo s fd ⟨us, ks.zip ws⟩ (ps.zip (g us ws))
  rel : ∀ {vs : List V} {us : List Value} {zs : List V} {ws : List Value}, Vals vs us → Vals zs ws → Vals (gV vs zs) (g us ws)
variable {g : List Value → List Value → List Value} {gV : List V → List V → List V}
end
structure FnScope (N P : List Str) (sc : Scope) : Prop where
  kind : sc.kind = .function
  co : sc.isCoroutine = false
  gen : sc.isGenerator = false
  nd : N.Nodup
  pre : N.take P.length = P
  par : ∀ x ∈ P, sc.names.lookup x = some .local ∨ sc.names.lookup x = some .cell
  nofree : ∀ y ∈ sc.names, y.2 ≠ .free
theorem bindL_out {kindOf : Str → Option NameKind} {x : Str} : ∀ {binds : List (Str × Value)} {m : Str → Option Value}, (∀ v, (x, v) ∉ binds) → bindL kindOf binds m x = m x
  | [], _, _ => rfl
  | (n, v) :: r, m, h => by
    unfold bindL
    rw [bindL_out fun w hw => h w (List.mem_cons_of_mem _ hw)]
    split
    · have : x ≠ n := by rintro rfl; exact h v List.mem_cons_self
      simp [this]
    · rfl
theorem bindC_out {kindOf : Str → Option NameKind} {x : Str} : ∀ {binds : List (Str × Value)} {m : Str → Option Value}, (∀ v, (x, v) ∉ binds) → bindC kindOf binds m x = m x
  | [], _, _ => rfl
  | (n, v) :: r, m, h => by
    unfold bindC
    rw [bindC_out fun w hw => h w (List.mem_cons_of_mem _ hw)]
    split
    · rfl
    · have : x ≠ n := by rintro rfl; exact h v List.mem_cons_self
      simp [this]
theorem bindL_get {kindOf : Str → Option NameKind} {x : Str} {v : Value} : ∀ {P : List Str} {vs : List Value} {i : Nat} {m : Str → Option Value}, P.Nodup → P[i]? = some x → vs[i]? = some v → kindOf x = some .local →
    bindL kindOf (P.zip vs) m x = some v
  | [], _, _, _, _, h, _, _ => by simp at h
  | _ :: _, [], _, _, _, _, h, _ => by simp at h
  | p :: P, w :: vs, 0, m, nd, h1, h2, hk => by
    simp at h1 h2; subst h1; subst h2
    show bindL kindOf ((p, w) :: P.zip vs) m p = _
    unfold bindL
    rw [bindL_out fun v hv => (List.nodup_cons.mp nd).1 (List.of_mem_zip hv).1, if_pos hk]
    simp
  | p :: P, w :: vs, i + 1, m, nd, h1, h2, hk => by
    show bindL kindOf ((p, w) :: P.zip vs) m x = _
    unfold bindL
    exact bindL_get (i := i) (List.nodup_cons.mp nd).2 (by simpa using h1) (by simpa using h2) hk
theorem bindC_get {kindOf : Str → Option NameKind} {x : Str} {v : Value} : ∀ {P : List Str} {vs : List Value} {i : Nat} {m : Str → Option Value}, P.Nodup → P[i]? = some x → vs[i]? = some v → kindOf x ≠ some .local →
    bindC kindOf (P.zip vs) m x = some v
  | [], _, _, _, _, h, _, _ => by simp at h
  | _ :: _, [], _, _, _, _, h, _ => by simp at h
  | p :: P, w :: vs, 0, m, nd, h1, h2, hk => by
    simp at h1 h2; subst h1; subst h2
    show bindC kindOf ((p, w) :: P.zip vs) m p = _
    unfold bindC
    rw [bindC_out fun v hv => (List.nodup_cons.mp nd).1 (List.of_mem_zip hv).1, if_neg hk]
    simp
  | p :: P, w :: vs, i + 1, m, nd, h1, h2, hk => by
    show bindC kindOf ((p, w) :: P.zip vs) m x = _
    unfold bindC
    exact bindC_get (i := i) (List.nodup_cons.mp nd).2 (by simpa using h1) (by simpa using h2) hk
def start (N : List Str) (vs : List V) : St := vs.map some ++ List.replicate (N.length - vs.length) none
def cxOf (CX : CXT) (P : Program) (w : World) (K : PySem.W.Frag) (mg : Str → Option Value) (base : Heap) (N : List Str) (qual : Str) (scope : Scope) (f : Addr) (cd : Value) (A : Around) (outer : List Env) (s : Shared) (H : Hp) (E : XK) : Cx where
  prog := P
  w := w
  K := K
  mg := mg
  base := base
  A := A.deeper (envOfC qual scope s.heap.objs.size f cd)
  N := N
  s_0 := s
  H_0 := H
  env := envOfC qual scope s.heap.objs.size f cd
  outer := outer
  stack := envOfC qual scope s.heap.objs.size f cd :: outer
  ex := []
  calm := true
  fn := fun _ => true
  pn := []
  xe := fun e s' => wpAny (model P w) (A.deeper (envOfC qual scope s.heap.objs.size f cd)) (leaving (envOfC qual scope s.heap.objs.size f cd) e) (fun _ s'' => CX outer H s E e s'') (fun e' s'' => CX outer H s E e' s'') s'
theorem cell_has {sc : Scope} {n : Nat} {x : Str} (h : sc.names.lookup x = some .cell) : ∃ c, (cellsFrom n sc.names []).lookup x = some c := by
  have q := PySem.W.cellsFrom_some sc.names n [] (.inl h)
  exact Option.isSome_iff_exists.mp q
theorem inv_start {CX : CXT} {P : Program} {w : World} {K : PySem.W.Frag} {mg : Str → Option Value} {base : Heap} {N ps : List Str} {qual : Str} {scope : Scope} {f : Addr} {cd : Value} {A : Around} {outer : List Env} {s s1 : Shared} {H : Hp} {E : XK} {us : List Value} {vs : List V}
    (S : FnScope N ps scope) (hd : A.handled = none) (e0 : Env0 P w K mg base A outer s H) (hl : vs.length = ps.length) (r : Vals vs us)
    (x : InCallC s s.heap.objs.size (bindL (envOfC qual scope s.heap.objs.size f cd).kindOf (ps.zip us) fun _ => none) (cellsFrom (s.heap.objs.size + 1) scope.names []) (bindC (envOfC qual scope s.heap.objs.size f cd).kindOf (ps.zip us) fun _ => none) s1) :
    Inv (cxOf CX P w K mg base N qual scope f cd A outer s H E) [] (start N vs) H s1 := by
  have hpl : ps.length ≤ N.length := by have := congrArg List.length S.pre; rw [List.length_take] at this; omega
  obtain ⟨h1, tk, rfl, hk⟩ := x.done
  have noA : ∀ b : Addr, b ∉ (cxOf CX P w K mg base N qual scope f cd A outer s H E).ex := fun b z => absurd (show b ∈ ([] : List Addr) from z) (by simp)
  refine ⟨⟨e0.mod, S.kind, rfl, rfl, Nat.le_refl _, fun y z c h1 h2 => ?_, fun y hy => ?_, fun y c _ h => ?_, fun _ => hd, Around.frames_deeper e0.frames, .inr ⟨rfl, rfl⟩, fun b z => absurd z (noA b), e0.bs, e0.bsz, fun b _ _ => noA b, fun b z => absurd z (noA b), e0.funs, e0.frf⟩,
    rfl, e0.bare, Un.kept hk, ⟨_, x.toInCall.ns, fun i y v h1 h2 h3 => ?_⟩, fun y c h => ⟨_, x.cell y c h⟩, e0.hok.fresh (Nat.le_refl _), fun y c h => ?_, fun p hp => absurd (show p ∈ ([] : List (Addr × Obj)) from hp) (by simp), e0.hok.kept hk, ?_⟩
  · exact name_of_addr x.apart (PySem.mem_of_lookup h1) (PySem.mem_of_lookup h2)
  · have hy : scope.names.lookup y = some .cell ∨ scope.names.lookup y = some .free := hy
    rcases hy with hy | hy
    · exact cell_has hy
    · exact absurd rfl (S.nofree _ (PySem.mem_of_lookup hy))
  · exact Nat.le_of_lt (x.above y c (PySem.mem_of_lookup h))
  · have hi : i < vs.length := by
      unfold start at h2
      by_cases hi : i < vs.length
      · exact hi
      · rw [List.getElem?_append_right (by simpa using hi)] at h2
        rw [List.getElem?_replicate] at h2
        split at h2 <;> cases h2
    have ha : vs[i]? = some v := by
      unfold start at h2
      rw [List.getElem?_append_left (by simpa using hi), List.getElem?_map] at h2
      cases e : vs[i]? with
      | none => rw [e] at h2; cases h2
      | some a => rw [e] at h2; cases h2; rfl
    obtain ⟨u, hu, rv⟩ := r.get ha
    have hp : ps[i]? = some y := by
      rw [← S.pre, List.getElem?_take_of_lt (by omega)]; exact h1
    have ndP : ps.Nodup := by rw [← S.pre]; exact S.nd.sublist (List.take_sublist _ _)
    refine ⟨u, rv, ?_⟩
    rcases S.par y (List.mem_of_getElem? hp) with k | k
    · exact .inl ⟨k, bindL_get ndP hp hu k⟩
    · obtain ⟨c, e⟩ := cell_has (n := s.heap.objs.size + 1) k
      refine .inr ⟨.inl k, c, e, ?_⟩
      have q := x.cell y c e
      rw [bindC_get ndP hp hu (by show scope.names.lookup y ≠ _; rw [k]; decide)] at q
      exact q
  · exact e0.hok.fresh (Nat.le_of_lt (x.above y c (PySem.mem_of_lookup h)))
  · unfold start
    show _ = N.length
    rw [List.length_append, List.length_map, List.length_replicate]
    omega
theorem fn_of {CX : CXT} {P : Program} {w : World} {K : PySem.W.Frag} {mg : Str → Option Value} {base : Heap} {k : Nat} {f : Addr} {name qual : Str} {params : Arguments} {body : List Stmt} {scope : Scope} {dV kV doc pm cdv ct oc : Value} {an od : Option Addr}
    {osl : Array (Option Value)} {N ps : List Str} {sp : Sp} (lk : K.lookup f = some ⟨oc, od, .func (PySem.W.fnOf name qual params body scope dV kV doc pm an cdv ct), osl⟩) (hcd : PySem.W.codeIn K cdv qual = true) (S : FnScope N ps scope)
    (len : ∀ vs H Q E, sp vs H Q E → vs.length = ps.length)
    (hbody : ∀ (A : Around) (outer : List Env) (s : Shared) (H : Hp) (vs : List V) (Q : VK) (E : XK), Room k (A.deeper (envOfC qual scope s.heap.objs.size f cdv)) → sp vs H Q E →
      ∃ t, PSs (cxOf CX P w K mg base N qual scope f cdv A outer s H E) body t ∧ t { nx := fun _ H' => Q .non H', rt := Q } (start N vs) H) :
    FnOk P w K mg base CX (k + 1) f (PySem.W.fnOf name qual params body scope dV kV doc pm an cdv ct) ps sp := by
  refine ⟨len, fun A outer s H args us vs Q E hr e0 hb r hsp => ?_⟩
  have hl := len _ _ _ _ hsp
  have KX : K.In s.heap := e0.mod.kin.keeps fun b o e => (e0.bs b o e).1
  have lim : s.heap.NoLimit := e0.mod.nolimit.keeps fun b o e => (e0.bs b o e).1
  have hkind : ∀ y ∈ ps.zip us, scope.names.lookup y.1 = some .local ∨ (scope.names.lookup y.1 = some .cell ∧ ((cellsFrom (s.heap.objs.size + 1) scope.names []).lookup y.1).isSome = true) := fun ⟨n, v⟩ hy => by
    rcases S.par n (List.of_mem_zip hy).1 with q | q
    · exact .inl q
    · exact .inr ⟨q, PySem.W.cellsFrom_some _ _ _ (.inl q)⟩
  refine codeAny_call_function hr.depth (KX _ _ lk) rfl S.co S.gen rfl (PySem.W.codeRec_of KX hcd) (hb _ _ _ _ ?_)
  refine wpAny_newFunctionEnv_cells S.kind hkind fun env he s1 x => ?_
  subst he
  refine ⟨lim.keeps x.toInCall.keep, codeAny_func ?_⟩
  obtain ⟨t, ht, hq⟩ := hbody A outer s H vs Q E (hr.deeper _) hsp
  have I : Inv (cxOf CX P w K mg base N qual scope f cdv A outer s H E) [] (start N vs) H s1 := inv_start S hr.hd e0 hl r x
  refine wpAny_mono (ht [] s1 (start N vs) H _ I hq) (fun fl s' hs => ?_) fun e s' hs => hs
  have fin : ∀ {σ' : St} {H' : Hp} {v : V} {u : Value}, Inv (cxOf CX P w K mg base N qual scope f cdv A outer s H E) [] σ' H' s' → RelV v u → Q v H' → CE outer P w H s Q u s' :=
    fun {σ' H' v u} J rv q => ⟨v, H', J.os, J.bare, J.base, J.hok, rv, q⟩
  cases fl with
  | ret u =>
    obtain ⟨v, σ', H', J, rv, q⟩ := hs
    exact fin J rv q
  | next =>
    obtain ⟨σ', H', J, q⟩ := hs
    exact fin (v := V.non) (u := Value.none) J rfl q
  | brk =>
    obtain ⟨_, _, _, q⟩ := hs
    exact False.elim q
  | cont =>
    obtain ⟨_, _, _, q⟩ := hs
    exact False.elim q
end L2
namespace L2
open PySem PySem.Spec PyProof.Rows
section
variable {X : Cx} {x : Str} {p pos : Pos} {e : Expr} {es : List Expr} {t : TA} {id T : String} {r : List V → Hp → VK → Prop}
def tCB (r : List V → Hp → VK → Prop) (t : TA) : TE := fun σ H Q => t σ H fun vs H1 => r vs H1 Q
theorem pe_callB (hc : CallR X (.builtin id) r) (hg : Gl X x) (hm : X.mg x = none) (hv : bootBuiltins x = some (.builtin id)) (ha : PA X (e :: es) t) (hn : x ≠ "__name__" := by decide) (hdb : (x == ("__debug__" : Str)) = false := by decide)
    (he : starEach (e :: es) X.env = (false, eval e X.env) :: starEach es X.env := by rfl) (hpl : (backTo pos (starEach es X.env)).any (·.1) = false := by rfl) : PE X (.Call (.Name x p) (e :: es) [] pos) (tCB r t) := by
  intro pins s σ H Q I h
  refine wpAny_Call_Name_kw (ld_blt I hg hm hv ?_ hn hdb)
  exact PyProof.Rows.callWith_builtin1 (thn (ha pos pins s σ H _ I h) fun us s1 ⟨vs, H1, I1, r1, q1⟩ => hc pins s1 σ H1 vs us Q I1 r1 q1) he hpl
theorem pe_callTy (hc : CallR X (.type T) r) (hg : Gl X x) (hm : X.mg x = none) (hv : bootBuiltins x = some (.type T)) (ha : PA X (e :: es) t) (hn : x ≠ "__name__" := by decide) (hdb : (x == ("__debug__" : Str)) = false := by decide)
    (he : starEach (e :: es) X.env = (false, eval e X.env) :: starEach es X.env := by rfl) (hpl : (backTo pos (starEach es X.env)).any (·.1) = false := by rfl) : PE X (.Call (.Name x p) (e :: es) [] pos) (tCB r t) := by
  intro pins s σ H Q I h
  refine wpAny_Call_Name_kw (ld_blt I hg hm hv ?_ hn hdb)
  exact PyProof.Rows.callWith_type1 (thn (ha pos pins s σ H _ I h) fun us s1 ⟨vs, H1, I1, r1, q1⟩ => hc pins s1 σ H1 vs us Q I1 r1 q1) he hpl
end
end L2
namespace HT
open PySem PyProof.Rows
section
open PySem.SeqAt
open PySem.AutoSeq1 (wpAny_loadPart')
open PySem.MeetsSeq PySem.MeetsSeq2 PySem.MeetsSeq3
end
section
variable {prog : Program} {w : World} {A : Around} {E : Value → Shared → Prop} {s : Shared}
theorem cat_tup {t b : Addr} {vs ws : List Value} {Q : Value → Shared → Prop} (ht : IsTup s.heap t vs.toArray) (hb : IsTup s.heap b ws.toArray) (hv : vs ≠ [])
    (h1 : ws = [] → Q (.ref t) s) (h2 : ws ≠ [] → Q (.ref s.heap.objs.size) { s with heap := s.heap.push { cls := .type "tuple", data := .seq (vs ++ ws).toArray } })
    (hsz : vs.length + ws.length ≤ sizeLine) : wpAny (model prog w) A (binaryOp .Add (.ref t) (.ref b)) Q E s := by
  obtain ⟨⟨cls, dd, data, sl⟩, ho, hc, n, hd⟩ := id ht
  obtain ⟨⟨cls2, dd2, data2, sl2⟩, ho2, hc2, n2, hd2⟩ := id hb
  simp only at hc hd hc2 hd2
  subst hc hd hc2 hd2
  have e : vs.toArray ++ ws.toArray = (vs ++ ws).toArray := by simp
  by_cases hw : ws = []
  · exact concat_meets ⟨_, ho, rfl⟩ ⟨_, ho2, rfl⟩ noFill_tuple_add seq_tuple_add PySem.F.slot_tuple_add PySem.F.entry_tuple_add (PySem.F.args_tuple_add_2 _ _)
      (tuple_addW1 t b vs.toArray ws.toArray n n2 dd dd2 sl sl2 (by simpa using hv) (by simp [hw])) ⟨ho, ho2, h1 hw⟩
  · refine concat_meets ⟨_, ho, rfl⟩ ⟨_, ho2, rfl⟩ noFill_tuple_add seq_tuple_add PySem.F.slot_tuple_add PySem.F.entry_tuple_add (PySem.F.args_tuple_add_2 _ _)
      (tuple_addW2 t b vs.toArray ws.toArray n n2 dd dd2 sl sl2 (by simpa using hv) (by simpa using hw) (by rw [List.size_toArray, List.size_toArray]; exact hsz)) ⟨ho, ho2, ?_⟩
    rw [e]
    exact h2 hw
def sIx (n d : Nat) : Option Int → Nat
  | none => d
  | some v => if v < 0 then (v + (n : Int)).toNat else min v.toNat n
theorem sIx_le (n d : Nat) (hd : d ≤ n) (o : Option Int) : sIx n d o ≤ n := by
  cases o with
  | none => exact hd
  | some v =>
    show (if v < 0 then (v + (n : Int)).toNat else min v.toNat n) ≤ n
    by_cases hv : v < 0
    · rw [if_pos hv]; omega
    · rw [if_neg hv]; exact Nat.min_le_right _ _
theorem clip_eq (v : Int) (n d : Nat) : (if v < 0 then max (v + (n : Int)) 0 else min v (n : Int)) = ((sIx n d (some v) : Nat) : Int) := by
  show (if v < 0 then max (v + (n : Int)) 0 else min v (n : Int)) = (((if v < 0 then (v + (n : Int)).toNat else min v.toNat n) : Nat) : Int)
  by_cases hv : v < 0
  · simp only [if_pos hv]; omega
  · simp only [if_neg hv]; omega
theorem adjust_gen (lo hi : Option Int) (n : Nat) : Builtin.Slice.sliceAdjust lo hi 1 (n : Int) = (((sIx n 0 lo : Nat) : Int), ((sIx n n hi : Nat) : Int)) := by
  have h1 : ¬ ((1 : Int) < 0) := by omega
  unfold Builtin.Slice.sliceAdjust
  simp only [h1, if_false]
  refine Prod.ext ?_ ?_
  · cases lo with
    | none => rfl
    | some v => exact clip_eq v n 0
  · cases hi with
    | none => rfl
    | some v => exact clip_eq v n n
theorem places_gen (i j : Nat) : Builtin.Slice.slicePlaces (i : Int) (j : Int) 1 = j - i := by
  unfold Builtin.Slice.slicePlaces
  have h1 : (1 : Int) > 0 := by omega
  simp only [h1, if_true, Int.ediv_one]
  split <;> omega
theorem slicePart_ {v : Value} {o : Option Int} {Q : Option Int → Shared → Prop} (p : IsPart v o) (h : Q o s) : wpAny (model prog w) A (Builtin.Slice.slicePartIndex v) Q E s := by
  cases p with
  | none => exact slicePart_none h
  | int i t => exact slicePart_int h
theorem sliceApplied_gen {sl : Addr} {vl vu : Value} {lo hi : Option Int} {n : Nat} {Q : Int × Int × Nat → Shared → Prop} (hs : s.heap.IsSliceOf sl vl vu .none) (pl : IsPart vl lo) (pu : IsPart vu hi)
    (h : Q (((sIx n 0 lo : Nat) : Int), 1, sIx n n hi - sIx n 0 lo) s) : wpAny (model prog w) A (Builtin.Slice.sliceApplied (.ref sl) (pure (n : Int))) Q E s := by
  obtain ⟨os, hos, hcs, hds⟩ := id hs
  unfold Builtin.Slice.sliceApplied Builtin.Slice.sliceFields
  refine wpAny_bind (wpAny_bind (wpAny_field hos hds (x := vl) rfl (wpAny_bind (wpAny_field hos hds (x := vu) rfl (wpAny_bind (wpAny_field hos hds (x := .none) rfl (wpAny_pure ?_)))))))
  refine wpAny_bind (slicePart_none ?_)
  show wpAny _ _ (if ((1 : Int) == 0) = true then _ else _) _ _ s
  rw [if_neg (by decide)]
  refine wpAny_bind (slicePart_ pl (wpAny_bind (slicePart_ pu (wpAny_bind (wpAny_pure ?_)))))
  show wpAny _ _ (match Builtin.Slice.sliceAdjust lo hi 1 (n : Int) with | (lo, hi) => pure (lo, (1 : Int), Builtin.Slice.slicePlaces lo hi 1)) _ _ s
  rw [adjust_gen lo hi n]
  show wpAny _ _ (pure (((sIx n 0 lo : Nat) : Int), (1 : Int), Builtin.Slice.slicePlaces ((sIx n 0 lo : Nat) : Int) ((sIx n n hi : Nat) : Int) 1)) _ _ s
  rw [places_gen]
  exact wpAny_pure h
theorem pick_gen (xs : Array Value) (i k : Nat) : ((List.range k).filterMap fun (m : Nat) => xs[((i : Int) + (m : Int) * 1).toNat]?).toArray = ((xs.toList.drop i).take k).toArray := by
  have e : (fun (m : Nat) => xs[((i : Int) + (m : Int) * 1).toNat]?) = fun m => xs[i + m]? := by
    funext m
    have : ((i : Int) + (m : Int) * 1).toNat = i + m := by omega
    rw [this]
  rw [e]
  have := pick_run xs i k
  rw [List.filterMap_map] at this
  have e2 : ((fun x => xs[x]?) ∘ fun x => i + x) = fun m => xs[i + m]? := rfl
  rw [e2] at this
  rw [this]
theorem getItem_tuple_cut {t sl : Addr} {items : Array Value} {vl vu : Value} {lo hi : Option Int} {Q : Value → Shared → Prop} (ht : IsTup s.heap t items) (hs : s.heap.IsSliceOf sl vl vu .none) (pl : IsPart vl lo) (pu : IsPart vu hi)
    (hw : ¬ (sIx items.size 0 lo = 0 ∧ sIx items.size items.size hi = items.size))
    (h : Q (.ref s.heap.objs.size) { s with heap := s.heap.push { cls := .type "tuple", data := .seq ((items.toList.drop (sIx items.size 0 lo)).take (sIx items.size items.size hi - sIx items.size 0 lo)).toArray } })
    (hsz : items.size ≤ sizeLine) : wpAny (model prog w) A (getItem (.ref t) (.ref sl)) Q E s := by
  have htake : sizeOk (.seq ((items.toList.drop (sIx items.size 0 lo)).take (sIx items.size items.size hi - sIx items.size 0 lo)).toArray) := by
    show ((items.toList.drop (sIx items.size 0 lo)).take (sIx items.size items.size hi - sIx items.size 0 lo)).toArray.size ≤ sizeLine
    rw [List.size_toArray, List.length_take, List.length_drop, Array.length_toList]
    omega
  have hj : sIx items.size items.size hi ≤ items.size := sIx_le _ _ (Nat.le_refl _) hi
  obtain ⟨os, hos, hcs, hds⟩ := id hs
  have hTs : s.TypeIs (.ref sl) "slice" := ⟨os, hos, hcs⟩
  unfold getItem
  try with_reducible refine wpAny_holding ?_
  first | refine wpAny_bind (wpAny_pure ?_) | skip
  refine wpAny_bind (wpAny_sequenceKey ht.typeIs (by decide) ?_)
  refine wpAny_bind (wpAny_callSpecial?_slot (name := Str.ofString "__getitem__") ht.typeIs PyProof.Rows.slot_tuple_getitem
    (wpAny_call_entry PyProof.Rows.slot_tuple_getitem ht.typeIs entry_tuple_getitem ?_ (args_tuple_getitem _ _)))
  show wpAny _ _ (Builtin.Tuple.tupleItemsOf (.ref t) >>= _) _ _ s
  refine wpAny_bind (tupleItemsOf_ ht ?_)
  refine wpAny_bind (wpAny_typeOf hTs ?_)
  rw [if_pos (by decide)]
  refine wpAny_bind (sliceApplied_gen hs pl pu ?_)
  have hno : ¬ ((((sIx items.size 0 lo : Nat) : Int) == 0 && (1 : Int) == 1 && (sIx items.size items.size hi - sIx items.size 0 lo) == items.size) = true) := by
    intro q
    rw [Bool.and_eq_true, Bool.and_eq_true] at q
    have q1 : ((sIx items.size 0 lo : Nat) : Int) = 0 := eq_of_beq q.1.1
    have q2 : sIx items.size items.size hi - sIx items.size 0 lo = items.size := eq_of_beq q.2
    exact hw ⟨by omega, by omega⟩
  show wpAny _ _ (if (((sIx items.size 0 lo : Nat) : Int) == 0 && (1 : Int) == 1 && (sIx items.size items.size hi - sIx items.size 0 lo) == items.size) = true then _ else _) _ _ s
  rw [if_neg hno, pick_gen]
  first
    | exact wpAny_bind (m := Builtin.Tuple.tupleExact _) (wpAny_newObj_type (wpAny_pure ⟨_, rfl, wpAny_pure h⟩) htake)
    | exact wpAny_bind (m := Builtin.Tuple.tupleExact _) (wpAny_newObj_type (wpAny_bind (wpAny_pure (wpAny_pure ⟨_, rfl, wpAny_pure h⟩))) htake)
    | exact wpAny_bind (wpAny_bind (m := Builtin.Tuple.tupleExact _) (wpAny_newObj_type (wpAny_pure (wpAny_pure ⟨_, rfl, wpAny_pure h⟩)) htake))
    | exact wpAny_bind (wpAny_bind (m := Builtin.Tuple.tupleExact _) (wpAny_newObj_type (wpAny_pure ⟨_, rfl, wpAny_pure h⟩) htake))
end
end HT
namespace L2
open PySem PySem.Spec PyProof.Rows
abbrev TO := St → Hp → (Option Int → Hp → Prop) → Prop
def PO (X : Cx) (e : Option Expr) (t : TO) : Prop :=
  ∀ (pins : List (Addr × Obj)) (s : Shared) (σ : St) (H : Hp) (Q : Option Int → Hp → Prop), Inv X pins σ H s → t σ H Q →
    wpAny (model X.prog X.w) X.A (evalPart e X.env) (fun u s' => ∃ o H', Inv X pins σ H' s' ∧ IsPart u o ∧ Q o H') X.xe s
def tNoPart : TO := fun _ H Q => Q none H
section
variable {X : Cx} {e : Expr} {te : TE} {lo hi : Option Expr} {tl th : TO} {pos p2 : Pos}
theorem po_none : PO X none tNoPart := by
  intro pins s σ H Q I h
  rw [evalPart_none]
  exact wpAny_pure ⟨none, H, I, .none, h⟩
def SlR (X : Cx) (r : V → Option Int → Option Int → Hp → VK → Prop) : Prop :=
  ∀ (pins : List (Addr × Obj)) (s : Shared) (σ : St) (H : Hp) (x : V) (v vl vu : Value) (lo hi : Option Int) (sl : Addr) (Q : VK), Inv X pins σ H s → RelV x v → s.heap.IsSliceOf sl vl vu .none → IsPart vl lo → IsPart vu hi → r x lo hi H Q →
    ∃ T id, typeLookup (.type T) "__getitem__" = pure (some (.builtin id)) ∧ s.TypeIs v T ∧ wpAny (model X.prog X.w) X.A (getItem v (.ref sl)) (EP X pins σ Q) X.xe s
theorem SlR.or {r r' : V → Option Int → Option Int → Hp → VK → Prop} (h : SlR X r) (h' : SlR X r') : SlR X (fun x lo hi H Q => r x lo hi H Q ∨ r' x lo hi H Q) := by
  intro pins s σ H x v vl vu lo hi sl Q I rx hs pl pu q
  rcases q with q | q
  · exact h pins s σ H x v vl vu lo hi sl Q I rx hs pl pu q
  · exact h' pins s σ H x v vl vu lo hi sl Q I rx hs pl pu q
def tSl (r : V → Option Int → Option Int → Hp → VK → Prop) (te : TE) (tl th : TO) : TE := fun σ H Q => te σ H fun x H1 => tl σ H1 fun l H2 => th σ H2 fun u H3 => r x l u H3 Q
theorem pe_slice {r : V → Option Int → Option Int → Hp → VK → Prop} (hr : SlR X r) (he : PE X e te) (hl : PO X lo tl) (hu : PO X hi th) : PE X (.Subscript e (.Slice lo hi none p2) pos) (tSl r te tl th) := by
  intro pins s σ H Q I h
  refine Subscript_ (thn (he pins s σ H _ I h) fun v s1 ⟨x, H1, I1, r1, q1⟩ => ?_)
  refine wpAny_Slice (thn (hl pins s1 σ H1 _ I1 q1) fun vl s2 ⟨l, H2, I2, pl, q2⟩ => thn (hu pins s2 σ H2 _ I2 q2) fun vu s3 ⟨u, H3, I3, pu, q3⟩ => ?_)
  rw [evalPart_none]
  refine wpAny_pure ?_
  have I4 : Inv X pins σ H3 { s3 with heap := s3.heap.push { cls := .type "slice", data := .fields #[vl, vu, .none] } } := I3.kept (t' := s3.toks) fun b ob q => Heap.get?_push_of_some _ q
  obtain ⟨T, id, hT, ht, hg⟩ := hr pins { s3 with heap := s3.heap.push { cls := .type "slice", data := .fields #[vl, vu, .none] } } σ H3 x v vl vu l u s3.heap.objs.size Q I4 r1 (Heap.IsSliceOf.new ..) pl pu q3
  show wpAny (model X.prog X.w) X.A (subscriptTail e (.Slice lo hi none p2) v (.ref s3.heap.objs.size)) (EP X pins σ Q) X.xe { s3 with heap := s3.heap.push { cls := .type "slice", data := .fields #[vl, vu, .none] } }
  exact tail_any (ops := [.ref s3.heap.objs.size, v]) ht hT hg (by with_unfolding_all rfl)
def cutV (xs : List V) (lo hi : Option Int) : List V := (xs.drop (HT.sIx xs.length 0 lo)).take (HT.sIx xs.length xs.length hi - HT.sIx xs.length 0 lo)
theorem cutV_length (xs : List V) (lo hi : Option Int) : (cutV xs lo hi).length ≤ xs.length := by
  unfold cutV
  rw [List.length_take, List.length_drop]
  omega
def rSlT (K : PySem.W.Frag) : V → Option Int → Option Int → Hp → VK → Prop := fun x lo hi H Q => ∃ a xs, x = .ref a ∧ SqT K H a xs ∧
  ¬ (HT.sIx xs.length 0 lo = 0 ∧ HT.sIx xs.length xs.length hi = xs.length) ∧ ∀ p, H p = none → Q (.ref p) (upd H p (.tup (cutV xs lo hi)))
theorem sl_tup : SlR X (rSlT X.K) := by
  intro pins s σ H x v vl vu lo hi sl Q I rx hs pl pu h
  obtain ⟨a, xs, rfl, hx, hw, q⟩ := h
  cases rx
  obtain ⟨its, r, ht, hz⟩ := I.tuple hx
  have hlen : its.toArray.size = xs.length := by rw [List.size_toArray]; exact r.length.symm
  refine ⟨"tuple", _, PyProof.Rows.slot_tuple_getitem.lookup, ht.typeIs, ?_⟩
  refine HT.getItem_tuple_cut ht hs pl pu (by rw [hlen]; exact hw) ?_ (by rw [hlen]; exact hz)
  rw [hlen]
  refine ⟨.ref s.heap.objs.size, _, I.laid (t' := s.toks) (o := .tup (cutV xs lo hi)) (fun b ob q => Heap.get?_push_of_some _ q) (Nat.le_refl _) ?_, rfl, q _ (I.hok.fresh (Nat.le_refl _))⟩
  exact ⟨Nat.le_trans (cutV_length xs lo hi) hz, _, (r.drop (HT.sIx xs.length 0 lo)).take (HT.sIx xs.length xs.length hi - HT.sIx xs.length 0 lo), IsTup.new _ _⟩
def rCatT (K : PySem.W.Frag) : R2 := fun x y H Q => ∃ a b xs ys, x = .ref a ∧ y = .ref b ∧ SqT K H a xs ∧ SqT K H b ys ∧ xs ≠ [] ∧ xs.length + ys.length ≤ sizeLine ∧
  (ys = [] → Q (.ref a) H) ∧ (ys ≠ [] → ∀ p, H p = none → Q (.ref p) (upd H p (.tup (xs ++ ys))))
theorem Vals.nil_iff {xs : List V} {us : List Value} (r : Vals xs us) : us = [] ↔ xs = [] := by
  cases r with
  | nil => simp
  | cons _ _ => simp
theorem op_catT : OpR X (binaryOp .Add) (rCatT X.K) := by
  intro pins s σ H x y v u Q I rx ry h
  obtain ⟨a, b, xs, ys, rfl, rfl, ha, hb, hx, hz, q1, q2⟩ := h
  cases rx
  cases ry
  obtain ⟨its, r1, p1, _⟩ := I.tuple ha
  obtain ⟨its2, r2, p2, _⟩ := I.tuple hb
  refine HT.cat_tup p1 p2 (fun z => hx (r1.nil_iff.mp z)) (fun z => ⟨.ref a, H, I, rfl, q1 (r2.nil_iff.mp z)⟩) (fun z => ?_) (by rw [← r1.length, ← r2.length]; exact hz)
  refine ⟨.ref s.heap.objs.size, _, I.laid (t' := s.toks) (o := .tup (xs ++ ys)) (fun b ob q => Heap.get?_push_of_some _ q) (Nat.le_refl _) ?_, rfl, q2 (fun w => z (r2.nil_iff.mpr w)) _ (I.hok.fresh (Nat.le_refl _))⟩
  exact ⟨by rw [List.length_append]; exact hz, _, r1.append r2, IsTup.new _ _⟩
end
end L2
namespace L2
open PySem PySem.Spec PyProof.Rows
def ixN (n : Nat) (i : Int) : Option Nat := if 0 ≤ i then (if i < n then some i.toNat else none) else if -(n : Int) ≤ i then some (i + n).toNat else none
def atI {α : Type} (xs : List α) (i : Int) : Option α := (ixN xs.length i).bind fun j => xs[j]?
theorem ixN_seq {n : Nat} {i : Int} {j : Nat} (h : ixN n i = some j) : seqIndex? i n = some j ∧ j < n ∧ -(n : Int) ≤ i ∧ i < n := by
  unfold ixN at h
  by_cases h0 : 0 ≤ i
  · rw [if_pos h0] at h
    by_cases h1 : i < n
    · rw [if_pos h1] at h
      have e : i.toNat = j := Option.some.inj h
      exact ⟨by rw [seqIndex_of h0 h1, e], by omega, by omega, h1⟩
    · rw [if_neg h1] at h; cases h
  · rw [if_neg h0] at h
    by_cases h1 : -(n : Int) ≤ i
    · rw [if_pos h1] at h
      have e : (i + n).toNat = j := Option.some.inj h
      exact ⟨by rw [seqIndex_neg (by omega) h1, e], by omega, h1, by omega⟩
    · rw [if_neg h1] at h; cases h
theorem atI_get {α : Type} {xs : List α} {i : Int} {v : α} (h : atI xs i = some v) : ∃ j, seqIndex? i xs.length = some j ∧ xs[j]? = some v ∧ j < xs.length ∧ -(xs.length : Int) ≤ i ∧ i < xs.length := by
  unfold atI at h
  cases e : ixN xs.length i with
  | none => rw [e] at h; cases h
  | some j =>
    rw [e] at h
    obtain ⟨h1, h2, h3, h4⟩ := ixN_seq e
    exact ⟨j, h1, h, h2, h3, h4⟩
theorem atI_nat {α : Type} {xs : List α} {j : Nat} {v : α} (h : xs[j]? = some v) : atI xs (j : Int) = some v := by
  have hj : j < xs.length := (List.getElem?_eq_some_iff.mp h).1
  have e : ixN xs.length (j : Int) = some j := by
    unfold ixN
    rw [if_pos (by omega), if_pos (by omega)]; simp
  unfold atI; rw [e]; exact h
theorem atI_last {α : Type} (xs : List α) (v : α) : atI (xs ++ [v]) (-1) = some v := by
  have hl : (xs ++ [v]).length = xs.length + 1 := by simp
  have e : ixN (xs ++ [v]).length (-1) = some xs.length := by
    unfold ixN
    rw [hl, if_neg (by decide), if_pos (by omega)]
    congr 1
    omega
  unfold atI
  rw [e]
  show (xs ++ [v])[xs.length]? = some v
  simp
def PlainIx (b : Expr) : Prop := ∀ o i, subscripted b false o i = operate [o, i] (getItem o i)
def IxR (X : Cx) (r : R2) : Prop :=
  ∀ (value slice : Expr) (pins : List (Addr × Obj)) (s : Shared) (σ : St) (H : Hp) (x y : V) (v u : Value) (Q : VK), Inv X pins σ H s → RelV x v → RelV y u → r x y H Q →
    subscripted slice false v u = operate [v, u] (getItem v u) → wpAny (model X.prog X.w) X.A (subscriptTail value slice v u) (EP X pins σ Q) X.xe s
def MtR (X : Cx) (id : String) (r : V → List V → Hp → VK → Prop) : Prop :=
  ∀ (pins : List (Addr × Obj)) (s : Shared) (σ : St) (H : Hp) (x : V) (xs : List V) (v : Value) (us : List Value) (Q : VK), Inv X pins σ H s → RelV x v → Vals xs us → r x xs H Q →
    wpAny (model X.prog X.w) X.A (call (.builtin id) (v :: us)) (EP X pins σ Q) X.xe s
section
variable {X : Cx} {a b : Expr} {ta tb : TE} {pos : Pos}
theorem IxR.or {r r' : R2} (h : IxR X r) (h' : IxR X r') : IxR X (fun x y H Q => r x y H Q ∨ r' x y H Q) := by
  intro value slice pins s σ H x y v u Q I rx ry q hs
  rcases q with q | q
  · exact h value slice pins s σ H x y v u Q I rx ry q hs
  · exact h' value slice pins s σ H x y v u Q I rx ry q hs
theorem MtR.or {id : String} {r r' : V → List V → Hp → VK → Prop} (h : MtR X id r) (h' : MtR X id r') : MtR X id (fun x xs H Q => r x xs H Q ∨ r' x xs H Q) := by
  intro pins s σ H x xs v us Q I rx rs q
  rcases q with q | q
  · exact h pins s σ H x xs v us Q I rx rs q
  · exact h' pins s σ H x xs v us Q I rx rs q
theorem pe_ix {r : R2} (hr : IxR X r) (ha : PE X a ta) (hb : PE X b tb) (hs : PlainIx b) : PE X (.Subscript a b pos) (tOp r ta tb) := by
  intro pins s σ H Q I h
  exact Subscript_ (binT ha hb I h fun v u s2 x y H2 I2 rx ry q => hr a b pins s2 σ H2 x y v u Q I2 rx ry q (hs _ _))
def rIxL (K : PySem.W.Frag) : R2 := fun x y H Q => ∃ p xs i v, x = .ref p ∧ y = .int i ∧ SqL K H p xs ∧ atI xs i = some v ∧ Q v H
def rIxT (K : PySem.W.Frag) : R2 := fun x y H Q => ∃ p xs i v, x = .ref p ∧ y = .int i ∧ SqT K H p xs ∧ atI xs i = some v ∧ Q v H
def rIxS : R2 := fun x y H Q => ∃ z i c, x = .str z ∧ y = .int i ∧ z.length ≤ sizeLine ∧ atI z.cps.toList i = some c ∧ Q (.str ⟨#[c]⟩) H
theorem ix_list : IxR X (rIxL X.K) := by
  intro value slice pins s σ H x y v u Q I rx ry h hs
  obtain ⟨p, xs, i, z, rfl, rfl, hq, he, q⟩ := h
  cases rx
  obtain ⟨t, rfl⟩ := ry
  obtain ⟨its, r, pl, hz⟩ := I.list hq
  obtain ⟨j, h1, h2, h3, h4, h5⟩ := atI_get he
  obtain ⟨w, ew, rw'⟩ := r.get h2
  have hl := r.length
  have hn := line63
  have fin : EP X pins σ Q w s := ⟨z, H, I, rw', q⟩
  by_cases h0 : 0 ≤ i
  · have hj : i.toNat = j := by
      rw [seqIndex_of h0 h5] at h1
      exact Option.some.inj h1
    exact item_listR pl.isList h0 (by omega) (by rw [hj]; simpa using ew) fin hs
  · have hj : (i + (its.toArray.size : Int)).toNat = j := by
      rw [seqIndex_neg (by omega) h4] at h1
      rw [List.size_toArray, ← hl]
      exact Option.some.inj h1
    exact subscriptTail_builtinR (x := w) pl.isList.typeIs slot_list_getitem.lookup
      (wpAny_getItem_list_neg (Q := fun r s' => r = w ∧ EP X pins σ Q r s') pl.isList (by omega) (by rw [List.size_toArray] <;> omega) (by omega) (by rw [hj]; simpa using ew) ⟨rfl, fin⟩) hs
theorem ix_tup : IxR X (rIxT X.K) := by
  intro value slice pins s σ H x y v u Q I rx ry h hs
  obtain ⟨p, xs, i, z, rfl, rfl, hq, he, q⟩ := h
  cases rx
  obtain ⟨t, rfl⟩ := ry
  obtain ⟨its, r, pl, hz⟩ := I.tuple hq
  obtain ⟨j, h1, h2, h3, h4, h5⟩ := atI_get he
  obtain ⟨w, ew, rw'⟩ := r.get h2
  have hl := r.length
  have hn := line63
  have fin : EP X pins σ Q w s := ⟨z, H, I, rw', q⟩
  exact subscriptTail_builtinR (x := w) pl.typeIs slot_tuple_getitem.lookup
    (getItem_tuple (j := j) (Q := fun r s' => r = w ∧ EP X pins σ Q r s') pl (by omega) (by omega) (by rw [List.size_toArray, ← hl]; exact h1) (by simpa using ew) ⟨rfl, fin⟩) hs
theorem ix_str : IxR X rIxS := by
  intro value slice pins s σ H x y v u Q I rx ry h hs
  obtain ⟨z, i, c, rfl, rfl, hz, he, q⟩ := h
  obtain ⟨t, rfl⟩ := rx
  obtain ⟨t', rfl⟩ := ry
  obtain ⟨j, h1, h2, h3, h4, h5⟩ := atI_get he
  have hl : z.cps.toList.length = z.length := by simp [Str.length]
  rw [hl] at h1 h4 h5
  have hn := line63
  exact tail_any (typeIs_str s z t) slot_str_getitem.lookup (getItem_str (c := c) (by
    have e1 : decide (i < -(2 ^ 63 : Int)) = false := decide_eq_false (by omega)
    have e2 : decide (i ≥ 2 ^ 63) = false := decide_eq_false (by omega)
    rw [e1, e2, Bool.or_false]) (by rw [h1]; simpa using h2) ⟨.str ⟨#[c]⟩, H, I.tok _, ⟨_, rfl⟩, q⟩) hs
def rIx (K : PySem.W.Frag) : R2 := fun x y H Q => rIxL K x y H Q ∨ rIxT K x y H Q ∨ rIxS x y H Q
theorem ix_seq : IxR X (rIx X.K) := ix_list.or (ix_tup.or ix_str)
theorem mapSeq_set (its : List Value) (n j : Nat) (u : Value) : Obj.mapSeq (·.setIfInBounds j u) { cls := .type "list", data := .seq its.toArray n } = { cls := .type "list", data := .seq (its.set j u).toArray n } := by
  simp [Obj.mapSeq]
theorem Inv.lst {pins : List (Addr × Obj)} {σ : St} {H : Hp} {s : Shared} {p : Addr} {xs : List V} (I : Inv X pins σ H s) (h : H p = some (.lst xs)) :
    ∃ (its : List Value) (n : Nat), Vals xs its ∧ s.heap.get? p = some { cls := .type "list", data := .seq its.toArray n } ∧ xs.length ≤ sizeLine := by
  obtain ⟨z, its, n, r, e⟩ := I.hok p _ h
  exact ⟨its, n, r, e, z⟩
theorem Inv.lstUpd {pins : List (Addr × Obj)} {σ : St} {H : Hp} {s : Shared} {p : Addr} {xs ys : List V} {its its' : List Value} {n n' : Nat} {f : Obj → Obj} (I : Inv X pins σ H s) (h : H p = some (.lst xs))
    (ho : s.heap.get? p = some { cls := .type "list", data := .seq its.toArray n }) (hf : f { cls := .type "list", data := .seq its.toArray n } = { cls := .type "list", data := .seq its'.toArray n' }) (r : Vals ys its') (hz : ys.length ≤ sizeLine) (t : Nat) :
    Inv X pins σ (upd H p (.lst ys)) { s with heap := s.heap.update p f, toks := t } := by
  have e : (s.heap.update p f).get? p = some { cls := .type "list", data := .seq its'.toArray n' } := by
    rw [Heap.get?_update_self f ho (by rw [hf] <;> rfl), hf]
  refine I.write (x := p) (e := p) (by rw [h]; trivial) (.inl rfl) (fun b u hb q => (Heap.get?_update_other _ _ (Ne.symm hb)).trans q) ⟨_, e⟩ ?_
  exact ⟨hz, its', n', r, e⟩
def rSetL : V → V → V → Hp → (Hp → Prop) → Prop := fun o i v H Q => ∃ p xs k j, o = .ref p ∧ i = .int k ∧ H p = some (.lst xs) ∧ ixN xs.length k = some j ∧ Q (upd H p (.lst (xs.set j v)))
theorem set_list : PSet X rSetL := by
  intro pins s σ H o i v ov iv u Q I ro ri rv h
  obtain ⟨p, xs, k, j, rfl, rfl, hp, hj, q⟩ := h
  cases ro
  obtain ⟨t, rfl⟩ := ri
  obtain ⟨its, n, r, ho, hz⟩ := I.lst hp
  obtain ⟨h1, h2, h3, h4⟩ := ixN_seq hj
  have hl := r.length
  have hn := line63
  have I' : Inv X pins σ (upd H p (.lst (xs.set j v))) { s with heap := s.heap.update p (Obj.mapSeq (·.setIfInBounds j u)) } :=
    I.lstUpd hp ho (mapSeq_set its n j u) (r.set rv j) (by rw [List.length_set]; exact hz) s.toks
  by_cases h0 : 0 ≤ k
  · have hk : k.toNat = j := by
      rw [seqIndex_of h0 h4] at h1
      exact Option.some.inj h1
    exact PySem.W.ki_setAt ho h0 (by omega) (by rw [List.size_toArray, ← hl]; exact h4) (by rw [hk]; exact ⟨_, I', q⟩)
  · have hk : (k + (its.toArray.size : Int)).toNat = j := by
      rw [seqIndex_neg (by omega) h3] at h1
      rw [List.size_toArray, ← hl]
      exact Option.some.inj h1
    exact PySem.W.ki_setBack ho (by omega) (by rw [List.size_toArray, ← hl]; exact h3) (by omega) (by rw [hk]; exact ⟨_, I', q⟩)
theorem slice_bounds (lo hi : Option Int) (n : Nat) : (sliceBounds lo hi none n).1 = ((HT.sIx n 0 lo : Nat) : Int) ∧ (sliceBounds lo hi none n).2.1 = ((HT.sIx n n hi : Nat) : Int) ∧ (sliceBounds lo hi none n).2.2 = 1 := by
  refine ⟨?_, ?_, rfl⟩
  · cases lo with
    | none => simp [sliceBounds, HT.sIx]
    | some i =>
      simp only [sliceBounds, HT.sIx, Option.getD_none, show (1 : Int) > 0 by decide, if_true]
      by_cases h : i < 0
      · simp only [h, if_true] <;> omega
      · simp only [h, if_false] <;> omega
  · cases hi with
    | none => simp [sliceBounds, HT.sIx]
    | some i =>
      simp only [sliceBounds, HT.sIx, Option.getD_none, show (1 : Int) > 0 by decide, if_true]
      by_cases h : i < 0
      · simp only [h, if_true] <;> omega
      · simp only [h, if_false] <;> omega
theorem slicePick_cut (its : List Value) (lo hi : Option Int) : slicePick its.toArray lo hi none = ((its.drop (HT.sIx its.length 0 lo)).take (HT.sIx its.length its.length hi - HT.sIx its.length 0 lo)).toArray := by
  obtain ⟨h1, h2, h3⟩ := slice_bounds lo hi its.toArray.size
  unfold slicePick
  rw [h1, h2, h3]
  simp only [sliceRange_one, pick_run, List.size_toArray] <;> rfl
def rSlL (K : PySem.W.Frag) : V → Option Int → Option Int → Hp → VK → Prop := fun x lo hi H Q => ∃ a xs, x = .ref a ∧ SqL K H a xs ∧ ∀ p, H p = none → Q (.ref p) (upd H p (.lst (cutV xs lo hi)))
theorem sl_list : SlR X (rSlL X.K) := by
  intro pins s σ H x v vl vu lo hi sl Q I rx hs pl pu h
  obtain ⟨a, xs, rfl, hx, q⟩ := h
  cases rx
  obtain ⟨its, r, ht, hz⟩ := I.list hx
  have hlen := r.length
  refine ⟨"list", _, slot_list_getitem.lookup, ht.isList.typeIs, ?_⟩
  refine wpAny_getItem_list_slice ht.isList hs pl pu .none (by simp) ?_ (by rw [List.size_toArray] <;> omega)
  rw [slicePick_cut, ← hlen]
  refine ⟨.ref s.heap.objs.size, _, I.laid (t' := s.toks) (o := .lst (cutV xs lo hi)) (fun b ob q => Heap.get?_push_of_some _ q) (Nat.le_refl _) ?_, rfl, q _ (I.hok.fresh (Nat.le_refl _))⟩
  exact ⟨Nat.le_trans (cutV_length xs lo hi) hz, _, 0, (r.drop (HT.sIx xs.length 0 lo)).take (HT.sIx xs.length xs.length hi - HT.sIx xs.length 0 lo), Heap.get?_push_size _ rfl⟩
theorem call_len_seq : CallR X (.builtin "len") (fun xs H Q => ∃ p ys, xs = [.ref p] ∧ (SqL X.K H p ys ∨ SqT X.K H p ys) ∧ Q (.int ys.length) H) := by
  intro pins s σ H xs us Q I r h
  obtain ⟨p, ys, rfl, hq, q⟩ := h
  obtain ⟨u, rfl, rx⟩ := vals1 r
  cases rx
  have hn := line63
  rcases hq with hq | hq
  · obtain ⟨its, r', pl, hz⟩ := I.list hq
    have hlen := r'.length
    exact Calls.call_len_list pl.isList (by simp only [List.size_toArray] <;> omega) ⟨.int ys.length, H, I.tok _, ⟨s.toks + 1, by rw [List.size_toArray, hlen]⟩, q⟩
  · obtain ⟨its, r', pl, hz⟩ := I.tuple hq
    have hlen := r'.length
    exact len_tuple pl (by simp only [List.size_toArray] <;> omega) ⟨.int ys.length, H, I.tok _, ⟨s.toks + 1, by rw [List.size_toArray, hlen]⟩, q⟩
theorem call_len_str : CallR X (.builtin "len") (fun xs H Q => ∃ z, xs = [.str z] ∧ z.length ≤ sizeLine ∧ Q (.int z.length) H) := by
  intro pins s σ H xs us Q I r h
  obtain ⟨z, rfl, hz, q⟩ := h
  obtain ⟨u, rfl, t, rfl⟩ := vals1 r
  have hn := line63
  exact len_str (by omega) ⟨.int z.length, H, I.tok _, ⟨_, rfl⟩, q⟩
theorem CallR.or {f : Value} {r r' : List V → Hp → VK → Prop} (h : CallR X f r) (h' : CallR X f r') : CallR X f (fun xs H Q => r xs H Q ∨ r' xs H Q) := by
  intro pins s σ H xs us Q I rs q
  rcases q with q | q
  · exact h pins s σ H xs us Q I rs q
  · exact h' pins s σ H xs us Q I rs q
def tyV (K : PySem.W.Frag) (T : String) (x : V) (H : Hp) : Prop := match x with
  | .str _ => T = "str"
  | .int _ => T = "int"
  | .ref p => (T = "list" ∧ ∃ xs, SqL K H p xs) ∨ (T = "tuple" ∧ ∃ o, K.lookup p = some o ∧ o.cls = .type "tuple" ∧ o.dict = none) ∨
      (T = "dict" ∧ ((∃ kvs, H p = some (.dK kvs)) ∨ ∃ kvs, H p = some (.dT kvs))) ∨ (T = "set" ∧ ∃ S n, H p = some (.set S n))
  | _ => False
theorem tyV_is {pins : List (Addr × Obj)} {σ : St} {H : Hp} {s : Shared} {T : String} {x : V} {v : Value} (I : Inv X pins σ H s) (r : RelV x v) (ty : tyV X.K T x H) :
    s.TypeIs v T ∧ ∀ a, v = .ref a → ∃ ob, s.heap.get? a = some ob ∧ ob.dict = none := by
  cases x with
  | str z =>
    obtain ⟨t, rfl⟩ := r
    cases (show T = "str" from ty)
    exact ⟨typeIs_str s z t, fun _ e => nomatch e⟩
  | int i =>
    obtain ⟨t, rfl⟩ := r
    cases (show T = "int" from ty)
    exact ⟨typeIs_int s i t, fun _ e => nomatch e⟩
  | ref p =>
    cases r
    rcases ty with ⟨rfl, xs, hq⟩ | ⟨rfl, o, hk, hc, hd⟩ | ⟨rfl, hk⟩ | ⟨rfl, S, n, hk⟩
    · obtain ⟨its, _, pl, _⟩ := I.list hq
      refine ⟨pl.isList.typeIs, fun a e => ?_⟩
      cases e
      obtain ⟨o, n, e, c, hd, _⟩ := pl
      exact ⟨o, e, hd⟩
    · refine ⟨⟨o, I.kIn p o hk, hc⟩, fun a e => ?_⟩
      cases e
      exact ⟨o, I.kIn _ o hk, hd⟩
    · have z : ∃ o, s.heap.get? p = some o ∧ o.ExactDict := by
        rcases hk with ⟨kvs, hk⟩ | ⟨kvs, hk⟩
        · obtain ⟨_, _, _, _, o, _, _, e, ex, _⟩ := I.hok p _ hk
          exact ⟨o, e, ex⟩
        · obtain ⟨_, _, _, _, o, _, _, e, ex, _⟩ := I.hok p _ hk
          exact ⟨o, e, ex⟩
      obtain ⟨o, e, ex⟩ := z
      refine ⟨⟨o, e, ex.1⟩, fun a e2 => ?_⟩
      cases e2
      exact ⟨o, e, ex.2.1⟩
    · obtain ⟨o, _, _, _, e, ex, _⟩ := I.hok p _ hk
      refine ⟨⟨o, e, ex.1⟩, fun a e2 => ?_⟩
      cases e2
      exact ⟨o, e, ex.2.1⟩
  | _ => exact False.elim ty
variable {o e : Expr} {es : List Expr} {to : TE} {t : TA} {name : Str} {apos cpos : Pos} {T id : String} {r : V → List V → Hp → VK → Prop}
end
end L2
namespace L2
open PySem PySem.Spec PyProof.Rows
def MtM (X : Cx) (id : String) (r : V → List V → Hp → VK → Prop) : Prop :=
  ∀ (pins : List (Addr × Obj)) (s : Shared) (σ : St) (H : Hp) (x : V) (xs : List V) (v : Value) (us : List Value) (Q : VK), Inv X pins σ H s → RelV x v → Vals xs us → r x xs H Q →
    wpAny (model X.prog X.w) X.A (call (.builtin id) (v :: us)) (EP X pins σ Q) X.xe s
theorem Vals.one : ∀ {x : V} {us : List Value}, Vals [x] us → ∃ u, us = [u] ∧ RelV x u
  | _, _, .cons r .nil => ⟨_, rfl, r⟩
theorem Vals.zero : ∀ {us : List Value}, Vals [] us → us = []
  | _, .nil => rfl
theorem Vals.dropLast {xs : List V} {us : List Value} (h : Vals xs us) : Vals xs.dropLast us.dropLast := by
  induction h with
  | nil => exact .nil
  | cons r t ih =>
    cases t with
    | nil => exact .nil
    | cons q t' => exact .cons r ih
theorem Vals.eraseIdx : ∀ {xs : List V} {us : List Value} (i : Nat), Vals xs us → Vals (xs.eraseIdx i) (us.eraseIdx i)
  | _, _, _, .nil => .nil
  | _, _, 0, .cons _ t => t
  | _, _, i + 1, .cons r t => .cons r (Vals.eraseIdx i t)
theorem Vals.reverse {xs : List V} {us : List Value} (h : Vals xs us) : Vals xs.reverse us.reverse := by
  induction h with
  | nil => exact .nil
  | cons r t ih => rw [List.reverse_cons, List.reverse_cons]; exact Vals.append ih (.cons r .nil)
theorem Vals.rep {xs : List V} {us : List Value} (h : Vals xs us) : ∀ k : Nat, Vals (List.replicate k xs).flatten (List.replicate k us).flatten
  | 0 => .nil
  | k + 1 => by
    rw [List.replicate_succ, List.replicate_succ, List.flatten_cons, List.flatten_cons]
    exact Vals.append h (Vals.rep h k)
theorem erase_last {α : Type} (l : List α) : l.eraseIdx (l.length - 1) = l.dropLast := by
  induction l with
  | nil => rfl
  | cons a r ih =>
    cases r with
    | nil => rfl
    | cons b r =>
      have e : (a :: b :: r).length - 1 = ((b :: r).length - 1) + 1 := by
        have h1 : (a :: b :: r).length = r.length + 2 := rfl
        have h2 : (b :: r).length = r.length + 1 := rfl
        omega
      rw [e, List.eraseIdx_cons_succ, ih]
      all_goals rfl
theorem foldl_rep (its : List Value) : ∀ (k : Nat) (acc : List Value),
    List.foldl (fun x1 x2 => x1 ++ x2) acc.toArray (List.replicate k its.toArray) = (acc ++ (List.replicate k its).flatten).toArray
  | 0, acc => by simp
  | k + 1, acc => by
    have e : acc.toArray ++ its.toArray = (acc ++ its).toArray := by simp
    have e2 : (acc ++ its) ++ (List.replicate k its).flatten = acc ++ (List.replicate (k + 1) its).flatten := by
      rw [List.replicate_succ, List.flatten_cons, List.append_assoc]
    rw [← e2, ← foldl_rep its k (acc ++ its), ← e, List.replicate_succ, List.foldl_cons]
section
variable {X : Cx} {pins : List (Addr × Obj)} {σ : St} {H : Hp} {s : Shared} {l b : Addr} {xs ys zs : List V}
theorem Inv.lset {its its' : List Value} {n : Nat} {f : Array Value → Array Value} {t' : Nat} (I : Inv X pins σ H s) (hH : H l = some (.lst xs))
    (e : s.heap.get? l = some { cls := .type "list", data := .seq its.toArray n }) (hf : f its.toArray = its'.toArray) (hv : Vals ys its') (hz : ys.length ≤ sizeLine) :
    Inv X pins σ (upd H l (.lst ys)) { s with heap := s.heap.update l (Obj.mapSeq f), toks := t' } := by
  have q := PySem.IsL.update e f
  rw [hf] at q
  refine I.write (x := l) (e := l) (by rw [hH]; exact trivial) (.inl rfl) (fun b' u hb hu => (Heap.get?_update_other s.heap (Obj.mapSeq f) (Ne.symm hb)).trans hu) ⟨_, q⟩ ?_
  exact ⟨hz, its', _, hv, q⟩
theorem Inv.lnew {its : List Value} {t' : Nat} (I : Inv X pins σ H s) (hv : Vals ys its) (hz : ys.length ≤ sizeLine) :
    Inv X pins σ (upd H s.heap.objs.size (.lst ys)) { s with heap := s.heap.push { cls := .type "list", data := .seq its.toArray }, toks := t' } :=
  I.laid (fun _ _ q => Heap.get?_push_of_some _ q) (Nat.le_refl _) ⟨hz, its, 0, hv, Heap.get?_push_size _ rfl⟩
theorem Inv.fresh (I : Inv X pins σ H s) : H s.heap.objs.size = none := I.hok.fresh (Nat.le_refl _)
theorem Inv.lstM (I : Inv X pins σ H s) (hH : H l = some (.lst xs)) : xs.length ≤ sizeLine ∧ ∃ (its : List Value) (n : Nat), Vals xs its ∧ xs.length = its.length ∧ s.heap.get? l = some { cls := .type "list", data := .seq its.toArray n } := by
  obtain ⟨z, its, n, r, e⟩ := I.hok l _ hH
  exact ⟨z, its, n, r, r.length, e⟩
theorem notLongL {n : Nat} (h : n ≤ sizeLine) : Builtin.List.listTooLong n = false := by
  unfold Builtin.List.listTooLong
  exact decide_eq_false (by omega)
end
section
variable {X : Cx}
def rAppend : V → List V → Hp → VK → Prop := fun x vs H Q => ∃ l xs y, x = .ref l ∧ vs = [y] ∧ H l = some (.lst xs) ∧ xs.length < sizeLine ∧ Q .non (upd H l (.lst (xs ++ [y])))
theorem mt_append : MtM X "list.append" rAppend := by
  intro pins s σ H x vs v us Q I rx rv h
  obtain ⟨l, xs, y, rfl, rfl, hH, hz, q⟩ := h
  cases rx
  obtain ⟨u, rfl, ru⟩ := rv.one
  obtain ⟨z, its, n, r, hl, e⟩ := I.lstM hH
  refine call_meets F.slot_list_append ⟨_, e, rfl⟩ F.entry_list_append (F.args_list_append_2 _ _) (PySem.list_append l its.toArray n u (by rw [List.size_toArray]; omega)) ⟨e, ?_⟩
  refine ⟨.non, _, I.lset (its' := its ++ [u]) hH e (by simp) (r.append (.cons ru .nil)) ?_, rfl, q⟩
  rw [List.length_append, List.length_singleton]
  omega
def rExtend : V → List V → Hp → VK → Prop := fun x vs H Q => ∃ l b xs zs, x = .ref l ∧ vs = [.ref b] ∧ H l = some (.lst xs) ∧ H b = some (.lst zs) ∧ xs.length + zs.length ≤ sizeLine ∧ Q .non (upd H l (.lst (xs ++ zs)))
theorem mt_extend : MtM X "list.extend" rExtend := by
  intro pins s σ H x vs v us Q I rx rv h
  obtain ⟨l, b, xs, zs, rfl, rfl, hH, hB, hz, q⟩ := h
  cases rx
  obtain ⟨u, rfl, ru⟩ := rv.one
  cases ru
  obtain ⟨z, its, n, r, hl, e⟩ := I.lstM hH
  obtain ⟨z2, its2, n2, r2, hl2, e2⟩ := I.lstM hB
  have hsz : its.toArray.size + its2.toArray.size ≤ sizeLine := by rw [List.size_toArray, List.size_toArray]; omega
  have hlong : ¬ (!its.toArray.isEmpty && Builtin.List.listTooLong (its.toArray.size + its2.toArray.size)) = true := by
    rw [notLongL hsz, Bool.and_false]
    exact Bool.false_ne_true
  refine call_meets F.slot_list_extend ⟨_, e, rfl⟩ F.entry_list_extend (F.args_list_extend_2 _ _)
    (AutoSeq1.list_extend_list_list_0 l its.toArray n b its2.toArray n2 hlong (by rw [List.size_toArray]; omega) (by omega)) ⟨e, e2, ?_⟩
  refine ⟨.non, _, I.lset (its' := its ++ its2) hH e (by simp) (r.append r2) ?_, rfl, q⟩
  rw [List.length_append]
  omega
def rPop : V → List V → Hp → VK → Prop := fun x vs H Q => ∃ l xs y, x = .ref l ∧ vs = [] ∧ H l = some (.lst xs) ∧ xs[xs.length - 1]? = some y ∧ Q y (upd H l (.lst xs.dropLast))
theorem mt_pop : MtM X "list.pop" rPop := by
  intro pins s σ H x vs v us Q I rx rv h
  obtain ⟨l, xs, y, rfl, rfl, hH, hy, q⟩ := h
  cases rx
  have hus := rv.zero
  subst hus
  obtain ⟨z, its, n, r, hl, e⟩ := I.lstM hH
  obtain ⟨u, hu, ru⟩ := r.get hy
  have hy' : its.toArray[its.toArray.size - 1]? = some u := by
    show its.toArray[its.length - 1]? = some u
    rw [← Array.getElem?_toList, ← hl]
    exact hu
  refine call_meets F.slot_list_pop ⟨_, e, rfl⟩ F.entry_list_pop (F.args_list_pop_1 _) (MeetsSeq.list_pop_last l its.toArray n u hy' (by rw [List.size_toArray]; omega)) ⟨e, ?_⟩
  refine ⟨y, _, I.lset (its' := its.dropLast) hH e ?_ r.dropLast ?_, ru, q⟩
  · show its.toArray.eraseIdxIfInBounds (its.toArray.size - 1) = its.dropLast.toArray
    rw [List.size_toArray, List.eraseIdxIfInBounds_toArray, erase_last]
  · rw [List.length_dropLast]
    omega
def rClear : V → List V → Hp → VK → Prop := fun x vs H Q => ∃ l xs, x = .ref l ∧ vs = [] ∧ H l = some (.lst xs) ∧ Q .non (upd H l (.lst []))
theorem mt_clear : MtM X "list.clear" rClear := by
  intro pins s σ H x vs v us Q I rx rv h
  obtain ⟨l, xs, rfl, rfl, hH, q⟩ := h
  cases rx
  have hus := rv.zero
  subst hus
  obtain ⟨z, its, n, r, hl, e⟩ := I.lstM hH
  refine call_meets F.slot_list_clear ⟨_, e, rfl⟩ F.entry_list_clear (F.args_list_clear_1 _) (AutoSeq1.list_clear_list_0 l its.toArray n (by rw [List.size_toArray]; omega)) ⟨e, ?_⟩
  exact ⟨.non, _, I.lset (its' := []) (ys := []) hH e rfl .nil (Nat.zero_le _), rfl, q⟩
def rCat : R2 := fun x y H Q => ∃ l b xs zs, x = .ref l ∧ y = .ref b ∧ H l = some (.lst xs) ∧ H b = some (.lst zs) ∧ xs.length + zs.length ≤ sizeLine ∧ ∀ p, H p = none → Q (.ref p) (upd H p (.lst (xs ++ zs)))
theorem op_cat : OpR X (binaryOp .Add) rCat := by
  intro pins s σ H x y v u Q I rx ry h
  obtain ⟨l, b, xs, zs, rfl, rfl, hH, hB, hz, q⟩ := h
  cases rx
  cases ry
  obtain ⟨z, its, n, r, hl, e⟩ := I.lstM hH
  obtain ⟨z2, its2, n2, r2, hl2, e2⟩ := I.lstM hB
  refine PySem.P.add_list e e2 ?_ (by rw [List.size_toArray, List.size_toArray]; omega)
  have ea : its.toArray ++ its2.toArray = (its ++ its2).toArray := by simp
  rw [ea]
  exact ⟨.ref _, _, I.lnew (t' := s.toks) (r.append r2) (by rw [List.length_append]; omega), rfl, q _ I.fresh⟩
def rRep : R2 := fun x y H Q => ∃ l k xs, x = .ref l ∧ y = .int k ∧ H l = some (.lst xs) ∧ -(2 ^ 63) ≤ k ∧ k < 2 ^ 63 ∧ xs.length * k.toNat ≤ sizeLine ∧
  ∀ p, H p = none → Q (.ref p) (upd H p (.lst (List.replicate k.toNat xs).flatten))
theorem len_rep {α : Type} (xs : List α) (k : Nat) : (List.replicate k xs).flatten.length = k * xs.length := by
  induction k with
  | zero => simp
  | succ k ih => rw [List.replicate_succ, List.flatten_cons, List.length_append, ih, Nat.succ_mul, Nat.add_comm]
theorem op_rep : OpR X (binaryOp .Mult) rRep := by
  intro pins s σ H x y v u Q I rx ry h
  obtain ⟨l, k, xs, rfl, rfl, hH, h1, h2, hz, q⟩ := h
  cases rx
  obtain ⟨t, rfl⟩ := ry
  obtain ⟨z, its, n, r, hl, e⟩ := I.lstM hH
  have hlen : its.toArray.size * k.toNat ≤ sizeLine := by rw [List.size_toArray, ← hl]; exact hz
  have hcap : ¬ its.toArray.size * k.toNat > (2 ^ 63 - 1) / 8 := by
    have : (sizeLine : Nat) ≤ (2 ^ 63 - 1) / 8 := by decide
    omega
  have hfit : ¬ (!Builtin.List.listFitsIndex k) = true := by
    rw [fitsIndex_both h1 h2]
    exact Bool.false_ne_true
  have hlong : ¬ Builtin.List.listTooLong (its.toArray.size * k.toNat) = true := by
    rw [notLongL hlen]
    exact Bool.false_ne_true
  have hnew : List.foldl (fun x1 x2 => x1 ++ x2) #[] (List.replicate (if its.toArray.isEmpty = true then 0 else k.toNat) its.toArray) = (List.replicate k.toNat its).flatten.toArray := by
    have f0 : ∀ m : Nat, List.foldl (fun x1 x2 => x1 ++ x2) #[] (List.replicate m its.toArray) = (List.replicate m its).flatten.toArray := fun m => by
      have := foldl_rep its m []
      rw [List.nil_append] at this
      exact this
    rw [f0]
    cases its with
    | nil => simp
    | cons a r' => rw [if_neg (by simp)]
  refine wpAny_binaryOp_repeat_ref (T := "list") (U := "int") (by decide) ⟨_, e, rfl⟩ (fun s' => typeIs_int s' k t) noFill_list_mul F.fills_int_mul F.slot_int_rmul repeat_list F.slot_int_index.lookup
    (call_meets F.slot_int_rmul (typeIs_int s k t) F.entry_int_rmul (F.args_int_rmul_2 _ _) (int___rmul___int_list k t l its.toArray n)
      ⟨e, rfl, ⟨_, e, rfl⟩, call_meets F.slot_list_mul ⟨_, e, rfl⟩ F.entry_list_mul (F.args_list_mul_2 _ _) (AutoListH.list___mul___list_int_3 l its.toArray n k t hfit hcap hlong) ⟨e, ?_⟩⟩)
  rw [hnew]
  exact ⟨.ref _, _, I.lnew (t' := s.toks) (r.rep k.toNat) (by rw [len_rep, Nat.mul_comm]; exact hz), rfl, q _ I.fresh⟩
end
section
variable {prog : Program} {w : World} {A : Around} {E : Value → Shared → Prop} {s : Shared}
end
section
variable {X : Cx}
end
end L2
namespace L2
open PySem PySem.Spec PyProof.Rows
theorem Vals.ints : ∀ {ns : List Int} {us : List Value}, Vals (ns.map V.int) us → IntsAre us ns
  | [], us, h => by
    rw [List.map_nil] at h
    cases h
    exact IntsAre.nil
  | n :: ns, us, h => by
    rw [List.map_cons] at h
    cases h with
    | cons r t =>
      obtain ⟨k, rfl⟩ := r
      exact IntsAre.cons n k (Vals.ints t)
theorem Vals.strs : ∀ {xs : List Str} {us : List Value}, Vals (xs.map V.str) us → StrsAre us xs
  | [], us, h => by
    rw [List.map_nil] at h
    cases h
    exact StrsAre.nil
  | x :: xs, us, h => by
    rw [List.map_cons] at h
    cases h with
    | cons r t =>
      obtain ⟨k, rfl⟩ := r
      exact StrsAre.cons x k (Vals.strs t)
section
variable {prog : Program} {w : World} {A : Around} {E : Value → Shared → Prop} {s : Shared} {l : Addr} {its : List Value} {ns : List Int} {Q : Value → Shared → Prop}
end
section
variable {X : Cx}
end
section
variable {X : Cx}
end
section
variable {X : Cx}
end
section
variable {X : Cx}
end
mutual
inductive Dp (K : PySem.W.Frag) (H : Hp) : V → PyData → Prop
  | non : Dp K H .non .none
  | bl (b : Bool) : Dp K H (.bl b) (.bool b)
  | int (i : Int) : Dp K H (.int i) (.int i)
  | str (x : Str) : Dp K H (.str x) (.str x)
  | lst {a : Addr} {xs : List V} {ds : List PyData} : SqL K H a xs → DpAll K H xs ds → Dp K H (.ref a) (.list ds)
  | tup {a : Addr} {xs : List V} {ds : List PyData} : SqT K H a xs → DpAll K H xs ds → Dp K H (.ref a) (.tuple ds)
inductive DpAll (K : PySem.W.Frag) (H : Hp) : List V → List PyData → Prop
  | nil : DpAll K H [] []
  | cons {v : V} {vs : List V} {d : PyData} {ds : List PyData} : Dp K H v d → DpAll K H vs ds → DpAll K H (v :: vs) (d :: ds)
end
section
variable {X : Cx} {pins : List (Addr × Obj)} {σ : St} {H : Hp} {s : Shared}
mutual
theorem Dp.reads (I : Inv X pins σ H s) : ∀ (d : PyData) (v : V) (u : Value), Dp X.K H v d → RelV v u → ∃ as, Reads s.heap u d as
  | .none, _, _, h, r => by
    cases h
    cases r
    exact ⟨_, Reads.none⟩
  | .bool b, _, _, h, r => by
    cases h
    cases r
    exact ⟨_, Reads.bool b⟩
  | .int i, _, _, h, r => by
    cases h
    obtain ⟨t, rfl⟩ := r
    exact ⟨_, Reads.int i t⟩
  | .str x, _, _, h, r => by
    cases h
    obtain ⟨t, rfl⟩ := r
    exact ⟨_, Reads.str x t⟩
  | .list ds, _, _, h, r => by
    cases h with
    | lst hs ha =>
      cases r
      obtain ⟨its, rv, ⟨o, n, ho, hc, _, hd⟩, _⟩ := I.list hs
      obtain ⟨as, hr⟩ := Dp.readsAll I ds _ its ha rv
      exact ⟨_, Reads.list ho hc hd hr⟩
  | .tuple ds, _, _, h, r => by
    cases h with
    | tup hs ha =>
      cases r
      obtain ⟨its, rv, ⟨o, ho, hc, n, hd⟩, _⟩ := I.tuple hs
      obtain ⟨as, hr⟩ := Dp.readsAll I ds _ its ha rv
      exact ⟨_, Reads.tuple ho hc hd hr⟩
  | .dict _, _, _, h, _ => by cases h
theorem Dp.readsAll (I : Inv X pins σ H s) : ∀ (ds : List PyData) (vs : List V) (us : List Value), DpAll X.K H vs ds → Vals vs us → ∃ as, ReadsAll s.heap us ds as
  | [], _, _, h, r => by
    cases h
    cases r
    exact ⟨_, ReadsAll.nil⟩
  | d :: ds, _, _, h, r => by
    cases h with
    | cons h1 h2 =>
      cases r with
      | cons r1 r2 =>
        obtain ⟨as, q1⟩ := Dp.reads I d _ _ h1 r1
        obtain ⟨bs, q2⟩ := Dp.readsAll I ds _ _ h2 r2
        exact ⟨_, ReadsAll.cons q1 q2⟩
end
end
section
variable {X : Cx}
def rEqD (K : PySem.W.Frag) : R2 := fun x y H Q => ∃ d e, Dp K H x d ∧ Dp K H y e ∧ SeqAt.shaped d = true ∧ SeqAt.shaped e = true ∧ Q (.bl (PyData.eqv d e)) H
def rNeD (K : PySem.W.Frag) : R2 := fun x y H Q => ∃ d e, Dp K H x d ∧ Dp K H y e ∧ SeqAt.shaped d = true ∧ SeqAt.shaped e = true ∧ Q (.bl (!PyData.eqv d e)) H
theorem op_eqD (hu : X.A.units + 64 < cLine) : OpR X (compareOp .Eq) (rEqD X.K) := by
  intro pins s σ H x y v u Q I rx ry h
  obtain ⟨d, e, hd, he, sd, se, q⟩ := h
  obtain ⟨as, r1⟩ := Dp.reads I d x v hd rx
  obtain ⟨bs, r2⟩ := Dp.reads I e y u he ry
  exact SeqAt.compareEq_shaped r1 r2 sd se hu ⟨.bl _, H, I, rfl, q⟩
theorem op_neD (hu : X.A.units + 64 < cLine) : OpR X (compareOp .NotEq) (rNeD X.K) := by
  intro pins s σ H x y v u Q I rx ry h
  obtain ⟨d, e, hd, he, sd, se, q⟩ := h
  obtain ⟨as, r1⟩ := Dp.reads I d x v hd rx
  obtain ⟨bs, r2⟩ := Dp.reads I e y u he ry
  exact SeqAt.compareNe_shaped r1 r2 sd se hu ⟨.bl _, H, I, rfl, q⟩
end
end L2
namespace L2
open PySem PySem.Spec PyProof.Rows
abbrev CellAt (h : Heap) (c : Addr) (v : Option Value) : Prop := h.IsCell c v
def relS (scope sc : Scope) : Scope :=
  { scope with names := scope.names.map fun (n, k) => if (k == .free && sc.kind == .function && sc.names.lookup n == some .cell) then (n, .cell) else (n, k) }
def cloFrom (cells : List (Str × Addr)) : List (Str × NameKind) → List (Str × Addr) → List (Str × Addr)
  | [], acc => acc
  | (n, k) :: r, acc => if k == .free then cloFrom cells r ((n, (cells.lookup n).getD 0) :: acc) else cloFrom cells r acc
theorem closure_loop (env : Env) (f : Str × NameKind → List (Str × Addr) → Sem (ForInStep (List (Str × Addr))))
    (hf : ∀ n k c, f (n, k) c = if k == .free then (do let a ← cellOf env n; pure (.yield ((n, a) :: c))) else pure (.yield c)) :
    ∀ (names : List (Str × NameKind)) (acc : List (Str × Addr)), (∀ y ∈ names, y.2 = .free → ∃ c, env.cells.lookup y.1 = some c) → forIn names acc f = pure (cloFrom env.cells names acc)
  | [], acc, _ => by rw [List.forIn_nil]; rfl
  | (n, k) :: r, acc, h => by
    rw [List.forIn_cons, hf]
    have ih := fun acc => closure_loop env f hf r acc fun y hy => h y (List.mem_cons_of_mem _ hy)
    unfold cloFrom
    by_cases hk : (k == NameKind.free) = true
    · rw [if_pos hk, if_pos hk]
      obtain ⟨c, hc⟩ := h (n, k) List.mem_cons_self (by simpa using hk)
      have e : cellOf env n = pure c := by unfold cellOf; rw [hc]
      rw [e]
      have e2 : (env.cells.lookup n).getD 0 = c := by rw [hc]; rfl
      rw [e2]
      exact ih _
    · rw [if_neg hk, if_neg hk]
      exact ih _
theorem closure_ok {scope : Scope} {env : Env} (h : ∀ y ∈ scope.names, y.2 = .free → ∃ c, env.cells.lookup y.1 = some c) : closureFor scope env = pure (cloFrom env.cells scope.names []) := by
  simp only [closureFor]
  rw [closure_loop env _ (fun n k c => rfl) scope.names [] h]
  rfl
theorem mem_lookup {α : Type} : ∀ {l : List (Str × α)} {n : Str} {c : α}, (n, c) ∈ l → ∃ c', l.lookup n = some c'
  | (k, v) :: r, n, c, h => by
    rw [List.lookup_cons]
    cases hb : n == k with
    | true => exact ⟨_, rfl⟩
    | false =>
      rcases List.mem_cons.mp h with e | h
      · cases e; simp at hb
      · exact mem_lookup h
theorem cloFrom_mem {cells : List (Str × Addr)} : ∀ {names : List (Str × NameKind)} {acc : List (Str × Addr)} {n : Str} {c : Addr}, (n, c) ∈ cloFrom cells names acc → (n, c) ∈ acc ∨ ((n, .free) ∈ names ∧ c = (cells.lookup n).getD 0)
  | [], _, _, _, h => .inl h
  | (m, k) :: r, acc, n, c, h => by
    unfold cloFrom at h
    split at h
    · rename_i hk
      have hk : k = .free := by simpa using hk
      rcases cloFrom_mem h with h | ⟨h1, h2⟩
      · rcases List.mem_cons.mp h with e | h
        · cases e; exact .inr ⟨hk ▸ List.mem_cons_self, rfl⟩
        · exact .inl h
      · exact .inr ⟨List.mem_cons_of_mem _ h1, h2⟩
    · rcases cloFrom_mem h with h | ⟨h1, h2⟩
      · exact .inl h
      · exact .inr ⟨List.mem_cons_of_mem _ h1, h2⟩
theorem cloFrom_acc {cells : List (Str × Addr)} : ∀ {names : List (Str × NameKind)} {acc : List (Str × Addr)} {p : Str × Addr}, p ∈ acc → p ∈ cloFrom cells names acc
  | [], _, _, h => h
  | (m, k) :: r, acc, p, h => by
    unfold cloFrom
    split
    · exact cloFrom_acc (List.mem_cons_of_mem _ h)
    · exact cloFrom_acc h
theorem cloFrom_has {cells : List (Str × Addr)} : ∀ {names : List (Str × NameKind)} {acc : List (Str × Addr)} {n : Str}, (n, .free) ∈ names → (n, (cells.lookup n).getD 0) ∈ cloFrom cells names acc
  | (m, k) :: r, acc, n, h => by
    unfold cloFrom
    rcases List.mem_cons.mp h with e | h
    · cases e
      exact cloFrom_acc List.mem_cons_self
    · split
      · exact cloFrom_has h
      · exact cloFrom_has h
theorem cells_mem : ∀ {names : List (Str × NameKind)} {h : Heap} {acc : List (Str × Addr)} {x : Str} {c : Addr}, (x, c) ∈ cellsFrom h.objs.size names acc →
    (x, c) ∈ acc ∨ ((x, .cell) ∈ names ∧ h.objs.size ≤ c ∧ CellAt (pushCells h names) c none)
  | [], _, _, _, _, h => .inl h
  | (n, k) :: r, h, acc, x, c, hm => by
    unfold cellsFrom at hm
    unfold pushCells
    split at hm
    · rename_i hk
      rw [if_pos hk]
      have hk : k = .cell := by simpa using hk
      rw [← Heap.size_push h { cls := .type "cell", data := .cell none }] at hm
      rcases cells_mem hm with hm | ⟨h1, h2, h3⟩
      · rcases List.mem_cons.mp hm with e | hm
        · cases e
          exact .inr ⟨hk ▸ List.mem_cons_self, Nat.le_refl _, _, pushCells_keeps r _ _ _ (Heap.get?_push_size _ rfl), rfl⟩
        · exact .inl hm
      · rw [Heap.size_push] at h2
        exact .inr ⟨List.mem_cons_of_mem _ h1, Nat.le_of_succ_le h2, h3⟩
    · rename_i hk
      rw [if_neg hk]
      rcases cells_mem hm with hm | ⟨h1, h2, h3⟩
      · exact .inl hm
      · exact .inr ⟨List.mem_cons_of_mem _ h1, h2, h3⟩
theorem cells_acc : ∀ {names : List (Str × NameKind)} {n : Nat} {acc : List (Str × Addr)} {p : Str × Addr}, p ∈ acc → p ∈ cellsFrom n names acc
  | [], _, _, _, h => h
  | (m, k) :: r, n, acc, p, h => by
    unfold cellsFrom
    split
    · exact cells_acc (List.mem_cons_of_mem _ h)
    · exact cells_acc h
theorem cells_has : ∀ {names : List (Str × NameKind)} {n : Nat} {acc : List (Str × Addr)} {x : Str}, (x, .cell) ∈ names → ∃ c, (x, c) ∈ cellsFrom n names acc
  | (m, k) :: r, n, acc, x, h => by
    unfold cellsFrom
    rcases List.mem_cons.mp h with e | h
    · cases e
      exact ⟨n, cells_acc List.mem_cons_self⟩
    · split
      · exact cells_has h
      · exact cells_has h
theorem cells_inj : ∀ {names : List (Str × NameKind)} {h : Heap} {acc : List (Str × Addr)} {x y : Str} {c : Addr}, (∀ p ∈ acc, p.2 < h.objs.size) → (∀ x y c, (x, c) ∈ acc → (y, c) ∈ acc → x = y) →
    (x, c) ∈ cellsFrom h.objs.size names acc → (y, c) ∈ cellsFrom h.objs.size names acc → x = y
  | [], _, _, _, _, _, _, hi, h1, h2 => hi _ _ _ h1 h2
  | (n, k) :: r, h, acc, x, y, c, hl, hi, h1, h2 => by
    unfold cellsFrom at h1 h2
    split at h1
    · rename_i hk
      rw [if_pos hk] at h2
      rw [← Heap.size_push h { cls := .type "cell", data := .cell none }] at h1 h2
      refine cells_inj (h := h.push _) (fun p hp => ?_) (fun x y c a b => ?_) h1 h2
      · rw [Heap.size_push]
        rcases List.mem_cons.mp hp with rfl | hp
        · exact Nat.lt_succ_self _
        · exact Nat.lt_succ_of_lt (hl p hp)
      · rcases List.mem_cons.mp a with e | a <;> rcases List.mem_cons.mp b with e' | b
        · cases e; cases e'; rfl
        · cases e; exact absurd (hl _ b) (Nat.lt_irrefl _)
        · cases e'; exact absurd (hl _ a) (Nat.lt_irrefl _)
        · exact hi _ _ _ a b
    · rename_i hk
      rw [if_neg hk] at h2
      exact cells_inj hl hi h1 h2
theorem newEnv_comp {M : Model} {A : Around} {E : Value → Shared → Prop} {s : Shared} {scope : Scope} {globals : Addr} {closure : List (Str × Addr)} {qual : Str} {func : Option Addr} {code : Value} {around : Env} {builtins : Addr} {Q : Env → Shared → Prop}
    (h : Q (newEnv scope s.heap.objs.size globals (cellsFrom (s.heap.objs.size + 1) scope.names closure) qual func code (some around) builtins)
      { s with heap := pushCells (s.heap.push { cls := .type "dict", data := .dict #[] }) scope.names }) :
    wpAny M A (newFunctionEnv scope globals closure [] qual func code (some around) builtins) Q E s := by
  simp only [newFunctionEnv, Option.isSome_some, if_true]
  refine wpAny_bind (wpAny_alloc ?_)
  refine wpAny_bind (wpAny_layCells _ (fun n k c => rfl) scope.names closure _ _ ?_)
  rw [show ({ s with heap := s.heap.push { cls := .type "dict", data := .dict #[] } } : Shared).heap.objs.size = s.heap.objs.size + 1 from Heap.size_push ..]
  rw [List.forIn_nil]
  exact wpAny_bind (wpAny_pure (wpAny_pure h))
theorem lookup_relS {sc : Scope} : ∀ {names : List (Str × NameKind)} {x : Str} {k : NameKind},
    (names.map fun (n, k) => if (k == NameKind.free && sc.kind == .function && sc.names.lookup n == some .cell) then (n, NameKind.cell) else (n, k)).lookup x = some k →
    ∃ k', names.lookup x = some k' ∧ (k = k' ∨ (k' = .free ∧ k = .cell))
  | [], _, _, h => by simp at h
  | (n, k₀) :: r, x, k, h => by
    have ih := @lookup_relS sc r x k
    have h' : List.lookup x ((if (k₀ == NameKind.free && sc.kind == .function && sc.names.lookup n == some .cell) = true then (n, NameKind.cell) else (n, k₀)) :: (r.map _)) = some k := h
    cases hx : x == n with
    | true =>
      simp only [List.lookup_cons, hx]
      by_cases hc : (k₀ == NameKind.free && sc.kind == .function && sc.names.lookup n == some .cell) = true
      · rw [if_pos hc] at h'
        simp only [List.lookup_cons, hx] at h'
        cases h'
        simp only [Bool.and_eq_true, beq_iff_eq] at hc
        exact ⟨k₀, rfl, .inr ⟨hc.1.1, rfl⟩⟩
      · rw [if_neg hc] at h'
        simp only [List.lookup_cons, hx] at h'
        cases h'
        exact ⟨_, rfl, .inl rfl⟩
    | false =>
      simp only [List.lookup_cons, hx]
      by_cases hc : (k₀ == NameKind.free && sc.kind == .function && sc.names.lookup n == some .cell) = true
      · rw [if_pos hc] at h'
        simp only [List.lookup_cons, hx] at h'
        exact ih h'
      · rw [if_neg hc] at h'
        simp only [List.lookup_cons, hx] at h'
        exact ih h'
structure BlkOk (N : List Str) (sc scope : Scope) (own : List (Str × Nat)) : Prop where
  kind : scope.kind = .function
  uniq : ∀ y ∈ scope.names, scope.names.lookup y.1 = some y.2
  ix : ∀ p ∈ own, N[p.2]? = some p.1
  free : ∀ y ∈ scope.names, y.2 = .free → sc.names.lookup y.1 = some .cell ∨ sc.names.lookup y.1 = some .free
  own : ∀ y ∈ scope.names, y.2 = .local ∨ y.2 = .cell → y.1 ∈ own.map (·.1) ∨ y.1 ∉ N
def wipe (σ : St) : List Nat → St
  | [] => σ
  | v :: vs => (wipe σ vs).set v none
theorem wipe_length (σ : St) : ∀ vs : List Nat, (wipe σ vs).length = σ.length
  | [] => rfl
  | v :: vs => by unfold wipe; rw [List.length_set, wipe_length σ vs]
theorem wipe_some {σ : St} {i : Nat} {x : V} : ∀ {vs : List Nat}, (wipe σ vs)[i]? = some (some x) → σ[i]? = some (some x) ∧ i ∉ vs
  | [], h => ⟨h, by simp⟩
  | v :: vs, h => by
    unfold wipe at h
    by_cases hi : v = i
    · subst hi
      by_cases hv : v < (wipe σ vs).length
      · rw [List.getElem?_set_self hv] at h; cases h
      · rw [List.getElem?_eq_none (by simpa using hv)] at h; cases h
    · rw [List.getElem?_set_ne hi] at h
      obtain ⟨h1, h2⟩ := wipe_some h
      exact ⟨h1, by simp only [List.mem_cons, not_or]; exact ⟨fun e => hi e.symm, h2⟩⟩
abbrev Cx.blk (X : Cx) (s : Shared) (H : Hp) (scope : Scope) (cenv : Env) (fp : List Addr) : Cx := { X with s_0 := s, H_0 := H, env := cenv, outer := X.stack, ex := fp, fn := fun x => scope.names.lookup x == some .cell, pn := [], xe := fun _ _ => False }
section
variable {X : Cx} {pins : List (Addr × Obj)} {σ : St} {H : Hp} {s : Shared}
theorem block_start {scope : Scope} {own : List (Str × Nat)} {fp : List Addr} (I : Inv X pins σ H s) (ok : BlkOk X.N X.env.scope scope own) (hN : X.N.Nodup) (hfp : ∀ b ∈ fp, FpOk X pins H b ∧ b < s.heap.objs.size) :
    Inv (X.blk s H scope (compEnvC scope (cellsFrom (s.heap.objs.size + 1) scope.names (cloFrom X.env.cells scope.names [])) s.heap.objs.size X.env) fp) [] (wipe σ (own.map (·.2))) H { s with heap := pushCells (s.heap.push { cls := .type "dict", data := .dict #[] }) scope.names } := by
  have hfree : ∀ y ∈ scope.names, y.2 = .free → ∃ c, X.env.cells.lookup y.1 = some c := fun y hy e => by
    rcases ok.free y hy e with k | k
    · exact I.ok.has _ (.inl k)
    · exact I.ok.has _ (.inr k)
  generalize hcenv : compEnvC scope (cellsFrom (s.heap.objs.size + 1) scope.names (cloFrom X.env.cells scope.names [])) s.heap.objs.size X.env = cenv
  have kp : ∀ b o, s.heap.get? b = some o → (pushCells (s.heap.push { cls := .type "dict", data := .dict #[] }) scope.names).get? b = some o := fun b o e => pushCells_keeps _ _ _ _ (Heap.get?_push_of_some _ e)
  have hL : cenv.locals = s.heap.objs.size := by rw [← hcenv]; rfl
  have hcl : cenv.cells = cellsFrom (s.heap.objs.size + 1) scope.names (cloFrom X.env.cells scope.names []) := by rw [← hcenv]; rfl
  have hsc : cenv.scope = relS scope X.env.scope := by rw [← hcenv]; rfl
  rw [← Heap.size_push s.heap { cls := .type "dict", data := .dict #[] }] at hcl
  have cm : ∀ {y c}, (y, c) ∈ cloFrom X.env.cells scope.names [] → X.env.cells.lookup y = some c ∧ c < s.heap.objs.size := fun {y c} hm => by
    rcases cloFrom_mem hm with hm | ⟨h1, rfl⟩
    · cases hm
    · obtain ⟨c, hc⟩ := hfree _ h1 rfl
      rw [hc]
      obtain ⟨w, z⟩ := I.cell _ _ hc
      exact ⟨rfl, z.lt⟩
  have mem : ∀ {y c}, cenv.cells.lookup y = some c → (X.env.cells.lookup y = some c ∧ c < s.heap.objs.size) ∨ (s.heap.objs.size + 1 ≤ c ∧ CellAt (pushCells (s.heap.push { cls := .type "dict", data := .dict #[] }) scope.names) c none) := fun {y c} e => by
    rw [hcl] at e
    rcases cells_mem (PySem.mem_of_lookup e) with hm | ⟨_, h2, h3⟩
    · exact .inl (cm hm)
    · rw [Heap.size_push] at h2; exact .inr ⟨h2, h3⟩
  have look : ∀ {y}, scope.names.lookup y = some .free → ∃ c, cenv.cells.lookup y = some c ∧ X.env.cells.lookup y = some c := fun {y} hl => by
    have hy : (y, NameKind.free) ∈ scope.names := PySem.mem_of_lookup hl
    obtain ⟨c', e'⟩ := mem_lookup (cells_acc (names := scope.names) (n := (s.heap.push { cls := .type "dict", data := .dict #[] }).objs.size) (cloFrom_has (cells := X.env.cells) (acc := []) hy))
    rw [← hcl] at e'
    refine ⟨c', e', ?_⟩
    rw [hcl] at e'
    rcases cells_mem (PySem.mem_of_lookup e') with hm | ⟨h1, _, _⟩
    · exact (cm hm).1
    · have := ok.uniq _ h1
      rw [hl] at this; cases this
  have okB : (X.blk s H scope cenv fp).Ok := by
    refine ⟨I.ok.mod, by show cenv.scope.kind = _; rw [hsc]; exact ok.kind, by show cenv.globals = _; rw [← hcenv]; exact I.ok.glob, by show cenv.builtins = _; rw [← hcenv]; exact I.ok.blt, by show s.heap.objs.size ≤ cenv.locals; rw [hL]; exact Nat.le_refl _,
      fun y z c e1 e2 => ?_, fun y hy => ?_, fun y c z e => ?_, I.ok.hd, I.ok.frames, .inl rfl, fun b hb => ⟨?_, fun y c e z => ?_⟩, I.bs, Nat.le_trans I.ok.bsz I.sz, fun b o e hb => ?_, fun b hb z => ?_, I.stack, I.stkFree⟩
    · have e1 : cenv.cells.lookup y = some c := e1
      have e2 : cenv.cells.lookup z = some c := e2
      rw [hcl] at e1 e2
      refine cells_inj (fun p hp => ?_) (fun y z c a b => I.ok.inj y z c (cm a).1 (cm b).1) (PySem.mem_of_lookup e1) (PySem.mem_of_lookup e2)
      rw [Heap.size_push]
      exact Nat.lt_succ_of_lt (cm (y := p.1) (c := p.2) hp).2
    · show ∃ c, cenv.cells.lookup y = some c
      have key : ∀ k, cenv.kindOf y = some k → (k = .cell ∨ k = .free) → ∃ c, cenv.cells.lookup y = some c := fun k hk hk' => by
        unfold Env.kindOf at hk
        rw [hsc] at hk
        obtain ⟨k', e, r⟩ := lookup_relS hk
        have : k' = .cell ∨ k' = .free := by
          rcases r with rfl | ⟨rfl, _⟩
          · exact hk'
          · exact .inr rfl
        rcases this with rfl | rfl
        · obtain ⟨c, hm⟩ := cells_has (n := (s.heap.push { cls := .type "dict", data := .dict #[] }).objs.size) (acc := cloFrom X.env.cells scope.names []) (PySem.mem_of_lookup e)
          obtain ⟨c', e'⟩ := mem_lookup hm
          exact ⟨c', by rw [hcl]; exact e'⟩
        · obtain ⟨c, h1, _⟩ := look e
          exact ⟨c, h1⟩
      rcases hy with hy | hy
      · exact key _ hy (.inl rfl)
      · exact key _ hy (.inr rfl)
    · have z : (scope.names.lookup y == some NameKind.cell) = true := z
      have z : scope.names.lookup y = some .cell := by simpa using z
      have e : cenv.cells.lookup y = some c := e
      rw [hcl] at e
      rcases cells_mem (PySem.mem_of_lookup e) with hm | ⟨_, h2, _⟩
      · rcases cloFrom_mem hm with hm | ⟨h1, _⟩
        · cases hm
        · have q := ok.uniq _ h1
          rw [z] at q; cases q
      · rw [Heap.size_push] at h2
        exact Nat.le_of_succ_le h2
    · show b ≠ cenv.locals
      rw [hL]; exact Nat.ne_of_lt (hfp b hb).2
    · have e : cenv.cells.lookup y = some c := e
      rcases mem e with ⟨h1, _⟩ | ⟨h1, _⟩
      · exact (hfp b hb).1.2.2.2.2.1 y c h1 z
      · have h2 : s.heap.objs.size + 1 ≤ b := by rw [← z]; exact h1
        exact absurd (Nat.lt_of_lt_of_le (hfp b hb).2 (Nat.le_of_succ_le h2)) (Nat.lt_irrefl _)
    · rcases (hfp b hb).1.2.2.2.1 with z | z
      · exact I.ok.noex b o e z
      · exact absurd (Nat.lt_of_lt_of_le (Heap.lt_size e) (Nat.le_trans I.ok.bsz z)) (Nat.lt_irrefl _)
    · rcases List.mem_cons.mp (I.stkSub b z) with z | z
      · exact (hfp b hb).1.2.1 z
      · exact (hfp b hb).1.2.2.1 z
  refine ⟨okB, rfl, I.bare, Un.kept kp, ⟨fun _ => none, ?_, fun i y av e1 e2 e3 => ?_⟩, fun y c e => ?_, ?_, fun y c e => ?_, fun p hp => ?_, I.hok.kept kp, by rw [wipe_length]; exact I.len⟩
  · show Heap.Ns _ cenv.locals _
    rw [hL]
    exact Heap.Ns.keeps (Heap.Ns.new ..) fun b o e => pushCells_keeps _ _ _ _ e
  · obtain ⟨e2, hne⟩ := wipe_some e2
    have hfr : scope.names.lookup y = some .free ∧ (cenv.kindOf y = some .cell ∨ cenv.kindOf y = some .free) := by
      have key : ∀ k, cenv.scope.names.lookup y = some k → k = .local ∨ k = .cell ∨ k = .free → scope.names.lookup y = some .free ∧ (cenv.kindOf y = some .cell ∨ cenv.kindOf y = some .free) := fun k hk hk' => by
        have hk0 := hk
        rw [hsc] at hk
        obtain ⟨k', e, r⟩ := lookup_relS hk
        have no : ¬ (k' = .local ∨ k' = .cell) := fun hh => by
          rcases ok.own _ (PySem.mem_of_lookup e) hh with e' | e'
          · obtain ⟨p, hp, hpy⟩ := List.mem_map.mp e'
            have e3 := ok.ix p hp
            have : p.1 = y := hpy
            rw [this] at e3
            exact hne (List.mem_map.mpr ⟨p, hp, nodup_ix hN e3 e1⟩)
          · exact e' (List.mem_of_getElem? e1)
        rcases r with rfl | ⟨rfl, rfl⟩
        · rcases hk' with rfl | rfl | rfl
          · exact absurd (.inl rfl) no
          · exact absurd (.inr rfl) no
          · exact ⟨e, .inr hk0⟩
        · exact ⟨e, .inl hk0⟩
      have e3 : Vis cenv.scope y := e3
      rcases e3 with e3 | e3 | e3
      · exact key _ e3 (.inl rfl)
      · exact key _ e3 (.inr (.inl rfl))
      · exact key _ e3 (.inr (.inr rfl))
    obtain ⟨m, hn, hl⟩ := I.loc
    have hvis : Vis X.env.scope y := (ok.free _ (PySem.mem_of_lookup hfr.1) rfl).elim (fun k => .inr (.inl k)) (fun k => .inr (.inr k))
    obtain ⟨w, r, q⟩ := hl i y av e1 e2 hvis
    refine ⟨w, r, .inr ⟨hfr.2, ?_⟩⟩
    obtain ⟨c, h1, h2⟩ := look hfr.1
    rcases q with ⟨k, _⟩ | ⟨_, c', e', z⟩
    · have k : X.env.scope.names.lookup y = some .local := k
      rcases ok.free _ (PySem.mem_of_lookup hfr.1) rfl with k' | k' <;> rw [show X.env.scope.names.lookup y = _ from k'] at k <;> cases k
    · rw [h2] at e'; cases e'
      exact ⟨c, h1, z.keeps kp⟩
  · have e : cenv.cells.lookup y = some c := e
    rcases mem e with ⟨h1, _⟩ | ⟨_, z⟩
    · obtain ⟨w, z⟩ := I.cell y c h1
      exact ⟨w, z.keeps kp⟩
    · exact ⟨_, z⟩
  · show H cenv.locals = none
    rw [hL]; exact I.hok.fresh (Nat.le_refl _)
  · have e : cenv.cells.lookup y = some c := e
    rcases mem e with ⟨h1, _⟩ | ⟨h1, _⟩
    · exact I.freeC y c h1
    · exact I.hok.fresh (Nat.le_of_succ_le h1)
  · exact absurd (show p ∈ ([] : List (Addr × Obj)) ++ [] from hp) (by simp)
theorem app_ok {E : Value → Shared → Prop} {D : Addr} {xs : List V} {y : V} {v : Value} {Q : Value → Shared → Prop} (I : Inv X pins σ H s) (hD : H D = some (.lst xs)) (hz : xs.length < sizeLine) (r : RelV y v)
    (h : ∀ s', Inv X pins σ (upd H D (.lst (xs ++ [y]))) s' → Q .none s') : wpAny (model X.prog X.w) X.A (call (.builtin "list.append") [.ref D, v]) Q E s := by
  obtain ⟨hz', its, n, ri, e⟩ := I.hok D _ hD
  have hl := ri.length
  refine append_at (hsz := by rw [List.size_toArray]; omega) e fun h' sb ho' => ?_
  refine h { s with heap := h' } (I.write (t' := s.toks) (by rw [hD]; trivial) (.inl rfl) (fun b u hb q => (sb.2 b hb).trans q) ⟨_, ho'⟩ ⟨by rw [List.length_append]; exact hz, its ++ [v], n + 1, ri.append (.cons r .nil), ?_⟩)
  rw [ho']
  simp
def PTs (X : Cx) (ifs : List Expr) (t : TT) : Prop :=
  ∀ (pins : List (Addr × Obj)) (s : Shared) (σ : St) (H : Hp) (Q : Bool → Hp → Prop), Inv X pins σ H s → t σ H Q →
    wpAny (model X.prog X.w) X.A (forIn ifs true fun c r => if r = true then do let ok ← isTrue c X.env (eval c X.env); pure (ForInStep.yield ok) else pure (ForInStep.yield r)) (TP X pins σ Q) X.xe s
def tYes : TT := fun _ H Q => Q true H
theorem pts_nil : PTs X [] tYes := fun _ _ _ H _ I h => wpAny_tests_nil ⟨H, I, h⟩
theorem pts_one {c : Expr} {t : TT} (h : PT X c t) : PTs X [c] t := fun pins s σ H Q I hw => wpAny_tests_one (h pins s σ H Q I hw)
end
theorem thnF {α : Type} {t : Sem α} {Q Q' : α → Shared → Prop} {M : Model} {A : Around} {E : Value → Shared → Prop} {s : Shared} (h : wpAny M A t Q (fun _ _ => False) s) (hQ : ∀ a s, Q a s → Q' a s) : wpAny M A t Q' E s := wpAny_mono h hQ fun _ _ z => False.elim z
theorem compLoop_any {prog : Program} {w : World} {A : Around} {R : Result → Shared → Prop} {s : Shared} {elt target iter : Expr} {ifs : List Expr} {scope : Scope} {pos : Pos} {it acc : Value} {env : Env} (I : Nat → Shared → Prop)
    (turn : ∀ n s, I n s → wpAny (model prog w) A (pyNext it) (fun r s₁ => match r with
      | none => R (.ok .next) s₁
      | some v => wpAny (model prog w) A (letOwnedTupleGo target it v) (fun _ s₁' => wpAny (model prog w) A (assign target env v) (fun _ s₂ =>
          wpAny (model prog w) A (forIn ifs true fun c r => if r = true then do let ok ← isTrue c env (eval c env); pure (ForInStep.yield ok) else pure (ForInStep.yield r)) (fun ok s₃ =>
            if ok = true then wpAny (model prog w) A (eval elt env) (fun x s₄ =>
              wpAny (model prog w) A (call (.builtin "list.append") [acc, x]) (fun _ s₅ => ∃ m, m < n ∧ I m s₅) (notedBy (model prog w) A env fun e s' => R (.error e) s') s₄) (notedBy (model prog w) A env fun e s' => R (.error e) s') s₃
            else ∃ m, m < n ∧ I m s₃) (notedBy (model prog w) A env fun e s' => R (.error e) s') s₂) (notedBy (model prog w) A env fun e s' => R (.error e) s') s₁') (notedBy (model prog w) A env fun e s' => R (.error e) s') s₁) (notedBy (model prog w) A env fun e s' => R (.error e) s') s)
    (n : Nat) (h : I n s) :
    codeAny (model prog w) A (.compLoop (.ListComp elt [⟨target, iter, ifs, 0⟩] scope pos) 0 it acc env) R s := by
  refine codeAny_loop rfl I (fun n s hI => ?_) n h
  show wpAny _ A ((compTurn (.ListComp elt [⟨target, iter, ifs, 0⟩] scope pos) 0 it acc env).onRaise (fun x => do noteFrame x env; theTreesLotGoes x)) _ _ s
  refine wpAny_noted ?_
  rw [compTurn_list]
  refine wpAny_bind (wpAny_standAt (wpAny_bind (wpAny_mono (turn n s hI) (fun r s₁ h₁ => ?_) fun _ _ h' => h')))
  cases r with
  | none => exact wpAny_pure h₁
  | some v =>
    refine wpAny_bind (wpAny_mono h₁ (fun _ s₁' h₁' => ?_) fun _ _ h' => h')
    refine wpAny_bind (wpAny_mono h₁' (fun _ s₂ h₂ => wpAny_bind (wpAny_mono h₂ (fun ok s₃ h₃ => ?_) fun _ _ h' => h')) fun _ _ h' => h')
    cases ok with
    | false => exact wpAny_pure ⟨rfl, h₃⟩
    | true =>
      exact wpAny_bind (wpAny_bind (wpAny_mono h₃ (fun x s₄ h₄ => wpAny_bind (wpAny_mono h₄ (fun _ s₅ h₅ => wpAny_pure (wpAny_pure ⟨rfl, h₅⟩)) fun _ _ h' => h')) fun _ _ h' => h'))
section
variable {X : Cx}
def tLc (wi : TI) (g : TG) (tt : TT) (te : TE) (vs : List Nat) : TE := fun σ H Q => wi σ H fun J H1 => ∀ D, H1 D = none → ∃ W : Nat → Nat → Hp → Prop, (∃ m, W 0 m (upd H1 D (.lst []))) ∧ ∀ i m H, W i m H →
  (J.stop i H ∧ Q (.ref D) H) ∨ (J.go i H ∧ ∃ Nx : Hp → Prop, (∀ H', Nx H' → ∃ m', m' < m ∧ W (i + 1) m' H') ∧ ∀ x H', J.yld i H x H' → g x (wipe σ vs) H' fun σ2 H2 => wipe σ2 vs = wipe σ vs ∧ tt σ2 H2 fun b H3 =>
    if b = true then te σ2 H3 fun y H4 => ∃ acc, H4 D = some (.lst acc) ∧ acc.length < sizeLine ∧ Nx (upd H4 D (.lst (acc ++ [y]))) else Nx H3)
theorem lc_core {pins : List (Addr × Obj)} {s : Shared} {σ : St} {H : Hp} {Q : VK} {elt tg iter : Expr} {ifs : List Expr} {scope : Scope} {own : List (Str × Nat)} {pos pos' : Pos} {wi : TI} {g : TG} {tt : TT} {te : TE} {use : Option (Value → Sem Unit)} {Qf : Value → Shared → Prop}
    (hc : X.calm = true) (hN : X.N.Nodup) (I : Inv X pins σ H s) (hi : PI X tg iter wi) (ok : BlkOk X.N X.env.scope scope own)
    (hg : ∀ (s : Shared) (H : Hp) (C : Addr) (cl : List (Str × Addr)) (fp : List Addr), PG (X.blk s H scope (compEnvC scope cl C X.env) fp) tg g) (ht : ∀ (s : Shared) (H : Hp) (C : Addr) (cl : List (Str × Addr)) (fp : List Addr), PTs (X.blk s H scope (compEnvC scope cl C X.env) fp) ifs tt)
    (he : ∀ (s : Shared) (H : Hp) (C : Addr) (cl : List (Str × Addr)) (fp : List Addr), PE (X.blk s H scope (compEnvC scope cl C X.env) fp) elt te) (hs : ∀ x, foldedSetIterable iter X.env x = pure x)
    (h : tLc wi g tt te (own.map (·.2)) σ H Q)
    (hRR : ∀ D C s' m H', Inv X pins σ H' s' → Q (.ref D) H' → s'.heap.Ns C m → FpOk X pins H' C → compPost (model X.prog X.w) X.A X.xe use Qf (.ref D) C (.ok .next) s') :
    wpAny (model X.prog X.w) X.A (comprehension (.ListComp elt [⟨tg, iter, ifs, 0⟩] scope pos) scope X.env pos' (newList []) false (eval iter X.env) use) Qf X.xe s := by
  have hfree : ∀ y ∈ scope.names, y.2 = .free → ∃ c, X.env.cells.lookup y.1 = some c := fun y hy e => by
    rcases ok.free y hy e with k | k
    · exact I.ok.has _ (.inl k)
    · exact I.ok.has _ (.inr k)
  refine wpAny_comprehension_free (use := use) rfl hs (closure_ok hfree) ok.kind (fun y hy e => by rw [ok.uniq y hy, e])
    (thn (hi pins s σ H _ I h) fun xv s1 hx => thn hx fun itv s2 h2 => ?_)
  obtain ⟨it, fp, tn, J, H2, e, I2, T, st2, f2, q⟩ := h2
  subst e
  refine wpAny_newObj_type (newEnv_comp ?_) (by show 0 ≤ sizeLine; decide)
  generalize hD : s2.heap.objs.size = D
  have hDn : H2 D = none := I2.hok.fresh (Nat.le_of_eq hD)
  obtain ⟨W, ⟨m0, w0⟩, turn⟩ := q D hDn
  generalize hs3 : ({ s2 with heap := s2.heap.push { cls := .type "list", data := .seq ([] : List Value).toArray } } : Shared) = s3
  have I3 : Inv X pins σ (upd H2 D (.lst [])) s3 := by
    rw [← hs3]
    refine I2.laid (t' := s2.toks) (fun b o e => Heap.get?_push_of_some _ e) (Nat.le_of_eq hD) ⟨Nat.zero_le _, [], 0, .nil, ?_⟩
    rw [← hD]
    exact Heap.get?_push_size _ rfl
  have h3 : s3.heap = s2.heap.push { cls := .type "list", data := .seq ([] : List Value).toArray } := by rw [← hs3]
  have sz : ∀ b ∈ fp, b < s2.heap.objs.size := fun b hb => by
    obtain ⟨o, e, _⟩ := T.obj _ _ st2 b hb
    exact Heap.lt_size e
  have f3 : ∀ b ∈ fp, FpOk X pins (upd H2 D (.lst [])) b ∧ b < s3.heap.objs.size := fun b hb => by
    have hlt := sz b hb
    refine ⟨⟨?_, (f2 b hb).2⟩, by rw [h3, Heap.size_push]; exact Nat.lt_succ_of_lt hlt⟩
    rw [upd_ne (by rw [← hD]; exact Nat.ne_of_lt hlt)]
    exact (f2 b hb).1
  have st3 : tn 0 s3.heap := T.keep _ _ _ st2 fun b _ o e => by rw [h3]; exact Heap.get?_push_of_some _ e
  have I4 := block_start I3 ok hN f3
  have pg := hg s3 (upd H2 D (.lst [])) s3.heap.objs.size (cellsFrom (s3.heap.objs.size + 1) scope.names (cloFrom X.env.cells scope.names [])) fp
  have pt := ht s3 (upd H2 D (.lst [])) s3.heap.objs.size (cellsFrom (s3.heap.objs.size + 1) scope.names (cloFrom X.env.cells scope.names [])) fp
  have pe := he s3 (upd H2 D (.lst [])) s3.heap.objs.size (cellsFrom (s3.heap.objs.size + 1) scope.names (cloFrom X.env.cells scope.names [])) fp
  show codeAny _ _ (.compStart (.ListComp elt [⟨tg, iter, ifs, 0⟩] scope pos) 0 (.ref it) (.ref D) (compEnvC scope (cellsFrom (s3.heap.objs.size + 1) scope.names (cloFrom X.env.cells scope.names [])) s3.heap.objs.size X.env)) (compPost (model X.prog X.w) X.A X.xe use Qf (.ref D) s3.heap.objs.size) { s3 with heap := pushCells (s3.heap.push { cls := .type "dict", data := .dict #[] }) scope.names }
  have nfp : ∀ b ∈ fp, (upd H2 D (.lst [])) b = none := fun b hb => (f3 b hb).1.1
  generalize hce : compEnvC scope (cellsFrom (s3.heap.objs.size + 1) scope.names (cloFrom X.env.cells scope.names [])) s3.heap.objs.size X.env = ce at I4 pg pt pe ⊢
  have cL : ce.locals = s3.heap.objs.size := by subst hce; rfl
  generalize hH3 : upd H2 D (.lst []) = H3 at I3 I4 pg pt pe w0 nfp f3
  generalize hs4 : ({ s3 with heap := pushCells (s3.heap.push { cls := .type "dict", data := .dict #[] }) scope.names } : Shared) = s4 at I4 ⊢
  have st4 : tn 0 s4.heap := T.keep _ _ _ st3 fun b _ o e => by rw [← hs4]; exact pushCells_keeps _ _ _ _ (Heap.get?_push_of_some _ e)
  have stat : ∀ {σ' : St} {H' : Hp} {s' : Shared}, Inv (X.blk s3 H3 scope ce fp) [] σ' H' s' → (∀ b ∈ fp, H' b = none) → ∀ b ∈ fp, FpOk (X.blk s3 H3 scope ce fp) [] H' b := fun {σ' H' s'} I' hn b hb =>
    ⟨hn b hb, (I'.ok.exf b hb).1, I'.ok.exfs b hb, .inl hb, fun x c e => (I'.ok.exf b hb).2 x c e, fun p hp => absurd (show p ∈ ([] : List (Addr × Obj)) ++ [] from hp) (by simp)⟩
  have loop : codeAny (model X.prog X.w) X.A (.compLoop (.ListComp elt [⟨tg, iter, ifs, 0⟩] scope pos) 0 (.ref it) (.ref D) ce) (compPost (model X.prog X.w) X.A X.xe use Qf (.ref D) s3.heap.objs.size) s4 := by
    refine compLoop_any (fun n s' => ∃ i H', Inv (X.blk s3 H3 scope ce fp) [] (wipe σ (own.map (·.2))) H' s' ∧ tn i s'.heap ∧ (∀ b ∈ fp, H' b = none) ∧ W i n H') ?_ m0 ⟨0, H3, I4, st4, nfp, w0⟩
    rintro n s5 ⟨i, H5, I5, st5, n5, w5⟩
    rcases turn i n H5 w5 with ⟨stop, qq⟩ | ⟨go, Nx, hNx, step⟩
    · have td := T.done (X.blk s3 H3 scope ce fp) rfl rfl rfl hc i [] s5 _ H5 (fun _ _ => False) I5 (stat I5 n5) st5 stop
      refine thnF td fun r s6 ⟨hr, I6⟩ => ?_
      subst hr
      have I7 : Inv X pins σ H5 s6 := I3.call' (ch := fp) I6.os I6.base I6.hok I6.bare fun b hb => ⟨(f3 b hb).1.2.2.2.1, (f3 b hb).1.2.1, (f3 b hb).1.2.2.2.2.1, (f3 b hb).1.2.2.2.2.2⟩
      have nC : H5 s3.heap.objs.size = none := by
        have z : H5 ce.locals = none := I6.free
        rw [cL] at z
        exact z
      obtain ⟨m, hn, _⟩ := I6.loc
      have hn : s6.heap.Ns ce.locals m := hn
      rw [cL] at hn
      exact hRR D s3.heap.objs.size s6 m H5 I7 qq hn (I3.fpOk (Nat.le_refl _) nC)
    · have ti := T.item (X.blk s3 H3 scope ce fp) rfl rfl rfl hc i [] s5 _ H5 (fun _ _ => False) I5 (stat I5 n5) st5 go
      refine thnF ti fun r s6 ⟨u, hr, h6⟩ => ?_
      subst hr
      refine thnF h6 fun _ s7 ⟨x, H7, I7, r7, y7, st7, n7⟩ => ?_
      have I7' := I7.pinned (stat I7 n7) (T.obj _ _ st7)
      refine thnF (pg _ s7 _ H7 x u _ I7' r7 (step x H7 y7)) fun _ s8 ⟨σ8, H8, I8, hw8, q8⟩ => ?_
      refine thnF (pt _ s8 σ8 H8 _ I8 q8) fun b s9 ⟨H9, I9, q9⟩ => ?_
      have fin : ∀ {s' : Shared} {H' : Hp}, Inv (X.blk s3 H3 scope ce fp) ([] ++ pinsAt fp s7.heap) σ8 H' s' → Nx H' → ∃ m, m < n ∧ ∃ i H', Inv (X.blk s3 H3 scope ce fp) [] (wipe σ (own.map (·.2))) H' s' ∧ tn i s'.heap ∧ (∀ b ∈ fp, H' b = none) ∧ W i m H' := fun {s' H'} I' nx => by
        obtain ⟨m', hm, w'⟩ := hNx H' nx
        have pin' : ∀ b ∈ fp, ∀ o, s7.heap.get? b = some o → s'.heap.get? b = some o ∧ H' b = none := fun b hb o e =>
          let z := I'.pin (b, o) (List.mem_append_right _ (List.mem_append_right _ (mem_pinsAt hb e)))
          ⟨z.1, z.2.1⟩
        have hl : (wipe σ (own.map (·.2))).length = σ8.length := by rw [← hw8, wipe_length]
        refine ⟨m', hm, i + 1, H', (I'.unpinned (pins := [])).weak hl (fun j v e => ?_), T.keep _ _ _ st7 fun b hb o e => (pin' b hb o e).1, fun b hb => ?_, w'⟩
        · rw [← hw8] at e
          exact (wipe_some e).1
        · obtain ⟨o, e, _⟩ := T.obj _ _ st7 b hb
          exact (pin' b hb o e).2
      cases b with
      | false =>
        simp only [Bool.false_eq_true, if_false] at q9 ⊢
        exact fin I9 q9
      | true =>
        simp only [if_true] at q9 ⊢
        refine thnF (pe _ s9 σ8 H9 _ I9 q9) fun z s10 ⟨yv, H10, I10, r10, acc, hD10, hz10, nx⟩ => ?_
        exact app_ok (X := X.blk s3 H3 scope ce fp) I10 hD10 hz10 r10 fun s11 I11 => fin I11 nx
  exact codeAny_compStart_list loop (T.self X.A 0 _ _ _ st4 loop)
theorem pe_lc {elt tg iter : Expr} {ifs : List Expr} {scope : Scope} {own : List (Str × Nat)} {pos : Pos} {wi : TI} {g : TG} {tt : TT} {te : TE} (hc : X.calm = true) (hN : X.N.Nodup) (hi : PI X tg iter wi) (ok : BlkOk X.N X.env.scope scope own)
    (hg : ∀ (s : Shared) (H : Hp) (C : Addr) (cl : List (Str × Addr)) (fp : List Addr), PG (X.blk s H scope (compEnvC scope cl C X.env) fp) tg g) (ht : ∀ (s : Shared) (H : Hp) (C : Addr) (cl : List (Str × Addr)) (fp : List Addr), PTs (X.blk s H scope (compEnvC scope cl C X.env) fp) ifs tt)
    (he : ∀ (s : Shared) (H : Hp) (C : Addr) (cl : List (Str × Addr)) (fp : List Addr), PE (X.blk s H scope (compEnvC scope cl C X.env) fp) elt te) (hs : ∀ x, foldedSetIterable iter X.env x = pure x := by intro _; rfl) :
    PE X (.ListComp elt [⟨tg, iter, ifs, 0⟩] scope pos) (tLc wi g tt te (own.map (·.2))) := by
  intro pins s σ H Q I h
  rw [eval_ListComp]
  refine lc_core hc hN I hi ok hg ht he hs h fun D C s' m H' I' q hn f => ⟨m, hn, fun h'' sb => ?_⟩
  obtain ⟨f0, f1, f2, f3, f4, f5⟩ := f
  exact ⟨.ref D, H', I'.turned (t' := s'.toks) (fun b o hb e => (sb.2 b hb).trans e) f0 f1 f3 f4 f5, rfl, q⟩
theorem ps_setLc {i : Nat} {y : Str} {py : Pos} {elt tg iter : Expr} {ifs : List Expr} {scope : Scope} {own : List (Str × Nat)} {pos spos : Pos} {wi : TI} {g : TG} {tt : TT} {te : TE} (hc : X.calm = true) (hN : X.N.Nodup) (hy : X.N[i]? = some y) (hyl : X.env.scope.names.lookup y = some .local)
    (hsw : swapsWith (.ListComp elt [⟨tg, iter, ifs, 0⟩] scope pos) (some (.Name y py)) spos.line X.env = pure true) (hi : PI X tg iter wi) (ok : BlkOk X.N X.env.scope scope own)
    (hg : ∀ (s : Shared) (H : Hp) (C : Addr) (cl : List (Str × Addr)) (fp : List Addr), PG (X.blk s H scope (compEnvC scope cl C X.env) fp) tg g) (ht : ∀ (s : Shared) (H : Hp) (C : Addr) (cl : List (Str × Addr)) (fp : List Addr), PTs (X.blk s H scope (compEnvC scope cl C X.env) fp) ifs tt)
    (he : ∀ (s : Shared) (H : Hp) (C : Addr) (cl : List (Str × Addr)) (fp : List Addr), PE (X.blk s H scope (compEnvC scope cl C X.env) fp) elt te) (hs : ∀ x, foldedSetIterable iter X.env x = pure x := by intro _; rfl) :
    PS X (.Assign [.Name y py] (.ListComp elt [⟨tg, iter, ifs, 0⟩] scope pos) spos) (tAsg (tLc wi g tt te (own.map (·.2))) (gName i)) := by
  intro pins s σ H D I h
  rw [exec_Assign_Name_used _ _ _ _ hsw]
  refine wpAny_bind (wpAny_standAt (wpAny_bind ?_))
  show wpAny _ X.A (do let _ ← comprehension (.ListComp elt [⟨tg, iter, ifs, 0⟩] scope pos) scope X.env (firstIterPos [⟨tg, iter, ifs, 0⟩] pos) (newList []) false (eval iter X.env) (some (assign (.Name y py) X.env))) _ _ s
  have h : tLc wi g tt te (own.map (·.2)) σ H (fun x H1 => gName i x σ H1 D.nx) := h
  refine wpAny_bind (thn (lc_core (Qf := fun _ s' => SP X pins D .next s') hc hN I hi ok hg ht he hs h fun L C s' m H' I' q hn f => ?_) fun _ s' hq => wpAny_pure (wpAny_pure hq))
  show wpAny _ _ (assign (.Name y py) X.env (.ref L)) _ _ _
  refine wpAny_assign_Name (store_ok2 (v := V.ref L) I' hN hy (.inl hyl) rfl (fun s2 I2 ⟨a, sb, ha⟩ => ?_) (.inr hyl))
  obtain ⟨f0, f1, f2, f3, f4, f5⟩ := f
  have haC : C ≠ a := by
    rcases ha with z | z
    · rw [z]; exact f1
    · exact fun e => f4 y a z e.symm
  refine ⟨m, hn.sameBut sb haC, fun h3 sb3 => ?_⟩
  exact ⟨_, H', I2.turned (t' := s2.toks) (fun b o hb e => (sb3.2 b hb).trans e) f0 f1 f3 f4 f5, q⟩
theorem sw_true {elt : Expr} {gs : List Comprehension} {scope : Scope} {pos py : Pos} {y : Str} {l : Nat} {env : Env} (hk : env.scope.kind = .function) (hy : env.scope.names.lookup y = some .local) (hl : (py.line == pos.line) = true)
    (ha : (scope.names.any fun (n, k) => n == y && (k == .local || k == .cell)) = false) : swapsWith (.ListComp elt gs scope pos) (some (.Name y py)) l env = pure true := by
  have ky : env.kindOf y = some .local := hy
  have hb : env.blockKind = .function := by unfold Env.blockKind; rw [hk]; rfl
  unfold swapsWith
  simp only [hb, ky, ha, Expr.pos, hl]
  rfl
end
theorem lc_range {lo : Int} {n : Nat} {g : TG} {tt : TT} {te : TE} {vs : List Nat} {σ : St} {H1 : Hp} {D : Addr} {Qd : Hp → Prop} (Pv : Nat → Hp → Prop) (h0 : Pv 0 (upd H1 D (.lst [])))
    (hs : ∀ i H, i < n → Pv i H → g (.int (lo + i)) (wipe σ vs) H fun σ2 H2 => wipe σ2 vs = wipe σ vs ∧ tt σ2 H2 fun b H3 =>
      if b = true then te σ2 H3 fun y H4 => ∃ acc, H4 D = some (.lst acc) ∧ acc.length < sizeLine ∧ Pv (i + 1) (upd H4 D (.lst (acc ++ [y]))) else Pv (i + 1) H3) (hd : ∀ H, Pv n H → Qd H) :
    ∃ W : Nat → Nat → Hp → Prop, (∃ m, W 0 m (upd H1 D (.lst []))) ∧ ∀ i m H, W i m H →
      ((Itr lo n).stop i H ∧ Qd H) ∨ ((Itr lo n).go i H ∧ ∃ Nx : Hp → Prop, (∀ H', Nx H' → ∃ m', m' < m ∧ W (i + 1) m' H') ∧ ∀ x H', (Itr lo n).yld i H x H' → g x (wipe σ vs) H' fun σ2 H2 => wipe σ2 vs = wipe σ vs ∧ tt σ2 H2 fun b H3 =>
        if b = true then te σ2 H3 fun y H4 => ∃ acc, H4 D = some (.lst acc) ∧ acc.length < sizeLine ∧ Nx (upd H4 D (.lst (acc ++ [y]))) else Nx H3) := by
  refine ⟨fun i m H => m = n - i ∧ i ≤ n ∧ Pv i H, ⟨n, by simp, Nat.zero_le _, h0⟩, ?_⟩
  rintro i m H ⟨rfl, hi, p⟩
  by_cases hlt : i < n
  · refine .inr ⟨hlt, Pv (i + 1), fun H' p' => ⟨n - (i + 1), by omega, rfl, hlt, p'⟩, fun x H' y => ?_⟩
    obtain ⟨e, y⟩ := y
    subst e y
    exact hs i _ hlt p
  · have e : i = n := by omega
    subst e
    exact .inl ⟨Nat.le_refl _, hd H p⟩
theorem lc_list {K : PySem.W.Frag} {a : Addr} {xs : List V} {g : TG} {tt : TT} {te : TE} {vs : List Nat} {σ : St} {H1 : Hp} {D : Addr} {Qd : Hp → Prop} (Pv : Nat → Hp → Prop) (h0 : Pv 0 (upd H1 D (.lst []))) (hl : ∀ i H, i ≤ xs.length → Pv i H → SqL K H a xs)
    (hs : ∀ i x H, xs[i]? = some x → Pv i H → g x (wipe σ vs) H fun σ2 H2 => wipe σ2 vs = wipe σ vs ∧ tt σ2 H2 fun b H3 =>
      if b = true then te σ2 H3 fun y H4 => ∃ acc, H4 D = some (.lst acc) ∧ acc.length < sizeLine ∧ Pv (i + 1) (upd H4 D (.lst (acc ++ [y]))) else Pv (i + 1) H3) (hd : ∀ H, Pv xs.length H → Qd H) :
    ∃ W : Nat → Nat → Hp → Prop, (∃ m, W 0 m (upd H1 D (.lst []))) ∧ ∀ i m H, W i m H →
      ((Itl K a).stop i H ∧ Qd H) ∨ ((Itl K a).go i H ∧ ∃ Nx : Hp → Prop, (∀ H', Nx H' → ∃ m', m' < m ∧ W (i + 1) m' H') ∧ ∀ x H', (Itl K a).yld i H x H' → g x (wipe σ vs) H' fun σ2 H2 => wipe σ2 vs = wipe σ vs ∧ tt σ2 H2 fun b H3 =>
        if b = true then te σ2 H3 fun y H4 => ∃ acc, H4 D = some (.lst acc) ∧ acc.length < sizeLine ∧ Nx (upd H4 D (.lst (acc ++ [y]))) else Nx H3) := by
  refine ⟨fun i m H => m = xs.length - i ∧ i ≤ xs.length ∧ Pv i H, ⟨xs.length, by simp, Nat.zero_le _, h0⟩, ?_⟩
  rintro i m H ⟨rfl, hi, p⟩
  have q := hl i H hi p
  by_cases hlt : i < xs.length
  · refine .inr ⟨⟨xs, xs[i], q, by simp [hlt]⟩, Pv (i + 1), fun H' p' => ⟨xs.length - (i + 1), by omega, rfl, hlt, p'⟩, fun x H' y => ?_⟩
    obtain ⟨e, y⟩ := y
    subst e
    exact hs i x _ (y xs q) p
  · have e : i = xs.length := by omega
    subst e
    exact .inl ⟨⟨xs, q, Nat.le_refl _⟩, hd H p⟩
def blkC (N : List Str) (sc scope : Scope) (own : List (Str × Nat)) : Bool :=
  (match scope.kind with | .function => true | _ => false) && (scope.names.all fun y => decide (scope.names.lookup y.1 = some y.2)) && (own.all fun p => decide (N[p.2]? = some p.1)) &&
    (scope.names.all fun y => match y.2 with
      | .free => (match sc.names.lookup y.1 with | some .cell => true | some .free => true | _ => false)
      | .local => decide (y.1 ∈ own.map (·.1)) || decide (y.1 ∉ N)
      | .cell => decide (y.1 ∈ own.map (·.1)) || decide (y.1 ∉ N)
      | _ => true)
theorem blkOk_by {N : List Str} {sc scope : Scope} {own : List (Str × Nat)} (h : blkC N sc scope own = true) : BlkOk N sc scope own := by
  unfold blkC at h
  simp only [Bool.and_eq_true, List.all_eq_true, decide_eq_true_eq] at h
  obtain ⟨⟨⟨h1, h2⟩, h3⟩, h4⟩ := h
  refine ⟨?_, h2, h3, fun y hy e => ?_, fun y hy e => ?_⟩
  · split at h1
    · assumption
    · cases h1
  · have q := h4 y hy
    simp only [e] at q
    split at q <;> first | exact .inl (by assumption) | exact .inr (by assumption) | cases q
  · have q := h4 y hy
    rcases e with e | e <;> (simp only [e, Bool.or_eq_true, decide_eq_true_eq] at q; exact q)
end L2
namespace L2
open PySem PySem.Spec PyProof.Rows
section
variable {prog : Program} {w : World} {A : Around} {R : Result → Shared → Prop} {s : Shared} {elt t0 i0 t1 i1 : Expr} {ifs0 ifs1 : List Expr} {scope : Scope} {pos : Pos} {it acc : Value} {env : Env}
end
section
variable {X : Cx}
end
end L2
namespace L2
open PySem PySem.Spec PyProof.Rows
section
variable {κ : Type} [DecidableEq κ]
def valV (kvs : List (κ × V)) (k : κ) : Option V := (kvs.find? fun kv => decide (kv.1 = k)).map (·.2)
def putK (kvs : List (κ × V)) (k : κ) (v : V) : List (κ × V) :=
  if (kvs.any fun kv => decide (kv.1 = k)) = true then kvs.map (fun kv => if kv.1 = k then (kv.1, v) else kv) else kvs ++ [(k, v)]
def dropK (kvs : List (κ × V)) (k : κ) : List (κ × V) := kvs.filter fun kv => decide (kv.1 ≠ k)
theorem valV_pos {p : κ × V} {r : List (κ × V)} {k : κ} (e : p.1 = k) : valV (p :: r) k = some p.2 := by simp [valV, List.find?_cons, e]
theorem valV_neg {p : κ × V} {r : List (κ × V)} {k : κ} (e : ¬ p.1 = k) : valV (p :: r) k = valV r k := by simp [valV, List.find?_cons, e]
theorem valV_any (k : κ) : ∀ kvs : List (κ × V), (kvs.any fun kv => decide (kv.1 = k)) = (valV kvs k).isSome
  | [] => rfl
  | p :: r => by
    rw [List.any_cons]
    by_cases e : p.1 = k
    · simp only [valV_pos e, decide_eq_true e, Bool.true_or, Option.isSome_some]
    · rw [valV_neg e, decide_eq_false e, Bool.false_or]; exact valV_any k r
theorem RelO.isSome_eq {o : Option V} {u : Option Value} (r : RelO o u) : o.isSome = u.isSome := by
  cases o with
  | none => cases u with
    | none => rfl
    | some _ => exact (show False from r).elim
  | some _ => cases u with
    | none => exact (show False from r).elim
    | some _ => rfl
theorem RelO.getD {o : Option V} {u : Option Value} {d : V} {d' : Value} (r : RelO o u) (rd : RelV d d') : RelV (o.getD d) (u.getD d') := by
  cases o with
  | none => cases u with
    | none => exact rd
    | some _ => exact (show False from r).elim
  | some _ => cases u with
    | none => exact (show False from r).elim
    | some _ => exact r
theorem KV.val {kvs : List (κ × V)} {vs : List (κ × Value)} (r : KV kvs vs) (k : κ) : RelO (valV kvs k) (valueAt vs k) := by
  unfold KV at r
  induction r with
  | nil => exact True.intro
  | @cons p q ps qs h t ih =>
    obtain ⟨h1, h2⟩ := h
    by_cases e : p.1 = k
    · have e' : q.1 = k := h1.symm.trans e
      have b : valueAt (q :: qs) k = some q.2 := by simp [valueAt, List.find?_cons, e']
      rw [valV_pos e, b]; exact h2
    · have e' : ¬ q.1 = k := fun z => e (h1.trans z)
      have b : valueAt (q :: qs) k = valueAt qs k := by simp [valueAt, List.find?_cons, e']
      rw [valV_neg e, b]; exact ih
theorem KV.any {kvs : List (κ × V)} {vs : List (κ × Value)} (r : KV kvs vs) (k : κ) : (kvs.any fun kv => decide (kv.1 = k)) = vs.any fun kv => decide (kv.1 = k) := by
  unfold KV at r
  induction r with
  | nil => rfl
  | cons h t ih => rw [List.any_cons, List.any_cons, ih, h.1]
theorem KV.repl {kvs : List (κ × V)} {vs : List (κ × Value)} (r : KV kvs vs) (k : κ) {y : V} {u : Value} (ry : RelV y u) :
    KV (kvs.map fun kv => if kv.1 = k then (kv.1, y) else kv) (vs.map fun kv => if kv.1 = k then (kv.1, u) else kv) := by
  unfold KV at r ⊢
  induction r with
  | nil => exact .nil
  | @cons p q ps qs h t ih =>
    rw [List.map_cons, List.map_cons]
    refine .cons ?_ ih
    obtain ⟨h1, h2⟩ := h
    by_cases e : p.1 = k
    · rw [if_pos e, if_pos (h1.symm.trans e)]; exact ⟨h1, ry⟩
    · rw [if_neg e, if_neg (fun z => e (h1.trans z))]; exact ⟨h1, h2⟩
theorem KV.put {kvs : List (κ × V)} {vs : List (κ × Value)} (r : KV kvs vs) (k : κ) {y : V} {u : Value} (ry : RelV y u) : KV (putK kvs k y) (stored vs k u) := by
  unfold putK stored
  rw [r.any k]
  by_cases e : (vs.any fun kv => decide (kv.1 = k)) = true
  · rw [if_pos e, if_pos e]; exact r.repl k ry
  · rw [if_neg e, if_neg e]; exact Paired.snoc r ⟨rfl, ry⟩
theorem KV.drop {kvs : List (κ × V)} {vs : List (κ × Value)} (r : KV kvs vs) (k : κ) : KV (dropK kvs k) (without vs k) := by
  unfold KV at r ⊢
  unfold dropK without
  induction r with
  | nil => exact .nil
  | @cons p q ps qs h t ih =>
    obtain ⟨h1, h2⟩ := h
    rw [List.filter_cons, List.filter_cons]
    by_cases e : p.1 = k
    · have a : ¬ decide (p.1 ≠ k) = true := by simp [e]
      have b : ¬ decide (q.1 ≠ k) = true := by simp [h1.symm.trans e]
      rw [if_neg a, if_neg b]; exact ih
    · have e' : ¬ q.1 = k := fun z => e (h1.trans z)
      have a : decide (p.1 ≠ k) = true := by simp [e]
      have b : decide (q.1 ≠ k) = true := by simp [e']
      rw [if_pos a, if_pos b]; exact .cons ⟨h1, h2⟩ ih
theorem KV.length {kvs : List (κ × V)} {vs : List (κ × Value)} (r : KV kvs vs) : kvs.length = vs.length := Paired.length r
end
theorem kV_is {P : Program} {w : World} {k : Key} {u : Value} (r : RelV (kV k) u) : (mixKind P w).is k u = true := by
  cases k with
  | inl i => obtain ⟨t, e⟩ := (show ∃ t, u = Value.int i t from r); subst e; exact mixKind_int P w i t
  | inr x => obtain ⟨t, e⟩ := (show ∃ t, u = Value.str x t from r); subst e; exact mixKind_str P w x t
theorem items_are {P : Program} {w : World} : ∀ {ks : List Key} {us : List Value}, Vals (ks.map kV) us → ItemsAre (mixKind P w) ks us
  | [], _, r => by rw [List.map_nil] at r; cases r; exact .nil
  | k :: ks, _, r => by
    rw [List.map_cons] at r
    cases r with
    | cons h t => exact .cons (kV_is h) (items_are t)
abbrev KT (H : Hp) : List (List Key × V) → List (List Key × Addr × Value) → Prop := Paired fun p q => p.1 = q.1 ∧ H q.2.1 = some (.tup (p.1.map kV)) ∧ RelV p.2 q.2.2
theorem KT.val {H : Hp} {kvs : List (List Key × V)} {xs : List (List Key × Addr × Value)} (r : KT H kvs xs) (k : List Key) : RelO (valV kvs k) ((atKey xs k).map (·.2)) := by
  induction r with
  | nil => exact True.intro
  | @cons p q ps qs h t ih =>
    obtain ⟨h1, _, h2⟩ := h
    by_cases e : p.1 = k
    · have e' : q.1 = k := h1.symm.trans e
      have b : atKey (q :: qs) k = some q.2 := by simp [atKey, List.find?_cons, e']
      rw [valV_pos e, b]; exact h2
    · have e' : ¬ q.1 = k := fun z => e (h1.trans z)
      have b : atKey (q :: qs) k = atKey qs k := by simp [atKey, List.find?_cons, e']
      rw [valV_neg e, b]; exact ih
theorem KT.repl {H : Hp} {kvs : List (List Key × V)} {xs : List (List Key × Addr × Value)} (r : KT H kvs xs) (k : List Key) {y : V} {u : Value} (ry : RelV y u) :
    KT H (kvs.map fun kv => if kv.1 = k then (kv.1, y) else kv) (xs.map (putAt k u)) := by
  induction r with
  | nil => exact .nil
  | @cons p q ps qs h t ih =>
    rw [List.map_cons, List.map_cons]
    refine .cons ?_ ih
    obtain ⟨h1, h2, h3⟩ := h
    unfold putAt
    by_cases e : p.1 = k
    · rw [if_pos e, if_pos (h1.symm.trans e)]; exact ⟨h1, h2, ry⟩
    · rw [if_neg e, if_neg (fun z => e (h1.trans z))]; exact ⟨h1, h2, h3⟩
theorem KT.put {H : Hp} {kvs : List (List Key × V)} {xs : List (List Key × Addr × Value)} (r : KT H kvs xs) (k : List Key) {b : Addr} {y : V} {u : Value} (hb : H b = some (.tup (k.map kV))) (ry : RelV y u) :
    KT H (putK kvs k y) (storedH xs k b u) := by
  have e : (kvs.any fun kv => decide (kv.1 = k)) = (atKey xs k).isSome := by
    rw [valV_any, (r.val k).isSome_eq, Option.isSome_map]
  unfold putK storedH
  rw [e]
  by_cases q : (atKey xs k).isSome = true
  · rw [if_pos q, if_pos q]; exact r.repl k ry
  · rw [if_neg q, if_neg q]; exact Paired.snoc r ⟨rfl, hb, ry⟩
theorem KT.keeps {H H' : Hp} {kvs : List (List Key × V)} {xs : List (List Key × Addr × Value)} (r : KT H kvs xs) (ht : ∀ b ys, H b = some (.tup ys) → H' b = some (.tup ys)) : KT H' kvs xs :=
  Paired.mapP r fun _ _ z => ⟨z.1, ht _ _ z.2.1, z.2.2⟩
section
variable {P : Program} {w : World} {H : Hp} {h : Heap} {a : Addr}
theorem rd_of {u : HO} (ok : HOk P w H h) (e : Rd H a u) : ObjOk P w H h a u := e.ok ok
theorem dk_rd {kvs : List (Key × V)} (ok : HOk P w H h) (e : Rd H a (.dK kvs)) : kvs.length ≤ sizeLine ∧ (a == sysModules) = false ∧ ∃ vs, KV kvs vs ∧ h.DictOf (mixKind P w) a vs :=
  show ObjOk P w H h a (.dK kvs) from rd_of ok e
theorem key_of {ks : List Key} (ok : HOk P w H h) (e : H a = some (.tup (ks.map kV))) : (tupleKind (mixKind P w)).is h ks a := by
  obtain ⟨_, its, r, o, h1, h2, n, h3⟩ := (show ObjOk P w H h a (.tup (ks.map kV)) from ok a _ e)
  exact ⟨o, its.toArray, n, h1, h2, h3, by simpa using items_are r⟩
end
def DGet (H : Hp) (a : Addr) (y : V) (r : Option V) : Prop :=
  (∃ kvs k, Rd H a (.dK kvs) ∧ y = kV k ∧ r = valV kvs k) ∨ ∃ kvs k b, Rd H a (.dT kvs) ∧ y = .ref b ∧ H b = some (.tup (k.map kV)) ∧ r = valV kvs k
def DPut (H : Hp) (a : Addr) (y v : V) (H' : Hp) : Prop :=
  (∃ kvs k, H a = some (.dK kvs) ∧ y = kV k ∧ kvs.length < sizeLine ∧ H' = upd H a (.dK (putK kvs k v))) ∨
  ∃ kvs k b, H a = some (.dT kvs) ∧ y = .ref b ∧ H b = some (.tup (k.map kV)) ∧ kvs.length < sizeLine ∧ H' = upd H a (.dT (putK kvs k v))
theorem DGet.k {H : Hp} {a : Addr} {kvs : List (Key × V)} {k : Key} (e : H a = some (.dK kvs)) : DGet H a (kV k) (valV kvs k) := .inl ⟨kvs, k, .inl e, rfl, rfl⟩
theorem DGet.t {H : Hp} {a b : Addr} {kvs : List (List Key × V)} {k : List Key} (e : H a = some (.dT kvs)) (eb : H b = some (.tup (k.map kV))) : DGet H a (.ref b) (valV kvs k) := .inr ⟨kvs, k, b, .inl e, rfl, eb, rfl⟩
theorem DPut.k {H : Hp} {a : Addr} {kvs : List (Key × V)} {k : Key} {v : V} (e : H a = some (.dK kvs)) (hl : kvs.length < sizeLine) : DPut H a (kV k) v (upd H a (.dK (putK kvs k v))) := .inl ⟨kvs, k, e, rfl, hl, rfl⟩
theorem DPut.t {H : Hp} {a b : Addr} {kvs : List (List Key × V)} {k : List Key} {v : V} (e : H a = some (.dT kvs)) (eb : H b = some (.tup (k.map kV))) (hl : kvs.length < sizeLine) :
    DPut H a (.ref b) v (upd H a (.dT (putK kvs k v))) := .inr ⟨kvs, k, b, e, rfl, eb, hl, rfl⟩
section
variable {X : Cx} {pins : List (Addr × Obj)} {σ : St} {H : Hp} {s : Shared} {a : Addr} {y v : V} {u r : Value} {o : Option V} {A : Around} {E : Value → Shared → Prop}
end
section
variable {X : Cx} {pins : List (Addr × Obj)} {σ : St} {H : Hp} {s : Shared} {a : Addr} {kvs : List (Key × V)} {k : Key} {u : Value} {A : Around} {E : Value → Shared → Prop}
theorem d_len {Q : Value → Shared → Prop} (I : Inv X pins σ H s) (e : Rd H a (.dK kvs)) (h : ∀ t s', Inv X pins σ H s' → Q (.int kvs.length t) s') : wpAny (model X.prog X.w) A (call (.builtin "len") [.ref a]) Q E s := by
  obtain ⟨z, hd, vs, rel, dd⟩ := dk_rd I.hok e
  refine call_len_dict hd dd (by rw [← rel.length]; rw [sizeLine_eq] at z; omega) ?_
  rw [← rel.length]
  exact h _ _ (I.tok _)
end
section
variable {X : Cx} {o i e value : Expr} {pos pos' tpos : Pos} {td ty tv : TE}
end
section
variable {X : Cx} {pos : Pos}
end
structure M1 (X : Cx) (o : Expr) (m : Str) (apos : Pos) (e : Expr) (cpos : Pos) : Prop where
  base : attributeBase o m X.env (eval o X.env) = eval o X.env
  few : ((backTo cpos (starEach [e] X.env)).all (fun x => !x.1) && (backToKw cpos (keywordEach [] X.env)).all (fun x => x.1.isSome)
    && decide (([e] : List Expr).length + ([] : List Keyword).length + (if ([] : List Keyword).isEmpty then 0 else 1) < 30)) = true
  line : (apos.endLine == cpos.line) = true
  trees : backTo cpos (starEach [e] X.env) = [(false, eval e X.env)]
structure M2 (X : Cx) (o : Expr) (m : Str) (apos : Pos) (e f : Expr) (cpos : Pos) : Prop where
  base : attributeBase o m X.env (eval o X.env) = eval o X.env
  few : ((backTo cpos (starEach [e, f] X.env)).all (fun x => !x.1) && (backToKw cpos (keywordEach [] X.env)).all (fun x => x.1.isSome)
    && decide (([e, f] : List Expr).length + ([] : List Keyword).length + (if ([] : List Keyword).isEmpty then 0 else 1) < 30)) = true
  line : (apos.endLine == cpos.line) = true
  trees : backTo cpos (starEach [e, f] X.env) = [(false, eval e X.env), (false, eval f X.env)]
section
variable {X : Cx} {pins : List (Addr × Obj)} {σ : St} {H : Hp} {s : Shared} {a : Addr} {y d : V} {u r : Value} {o : Option V} {A : Around} {E : Value → Shared → Prop}
end
section
variable {X : Cx} {o e f : Expr} {apos cpos : Pos} {td ty tx : TE}
end
section
variable {X : Cx} {pins : List (Addr × Obj)} {σ : St} {H : Hp} {s : Shared} {a : Addr} {kvs : List (Key × V)} {A : Around} {E : Value → Shared → Prop}
end
section
variable {X : Cx} {pins : List (Addr × Obj)} {σ : St} {H : Hp} {s : Shared} {a : Addr} {y : V} {u : Value} {A : Around} {E : Value → Shared → Prop}
end
end L2
namespace L2
open PySem PySem.Spec PyProof.Rows
section
variable {prog : Program} {w : World} {A : Around} {E : Value → Shared → Prop}
end
section
variable {X : Cx}
end
end L2
namespace L2
open PySem PySem.Spec PyProof.Rows
section
variable {X : Cx} {pins : List (Addr × Obj)} {σ : St} {H : Hp} {s : Shared} {h' : Heap}
theorem Inv.turnedL {t' : Nat} {ch : List Addr} (I : Inv X pins σ H s) (k : ∀ b o, b ∉ ch → s.heap.get? b = some o → h'.get? b = some o) (hf : ∀ b ∈ ch, FpOk X pins H b) : Inv X pins σ H { s with heap := h', toks := t' } := by
  have nit : ∀ b u, H b = some u → b ∉ ch := fun b u e z => by
    have q := (hf b z).1
    rw [q] at e; cases e
  refine I.step (g' := s.gens) (d' := s.drawn) (ch := ch) (fun b hb => ⟨(hf b hb).2.2.2.1, (hf b hb).2.1, (hf b hb).2.2.2.2.1, (hf b hb).2.2.2.2.2⟩) (fun b o _ _ hc e _ => k b o hc e) (fun b o _ _ hc e _ => ⟨o.slots, k b o hc e⟩)
    (fun _ _ _ _ n => n) (fun b o hc e => ⟨o, k b o hc e⟩) (fun _ _ e => e) (fun _ _ _ e => e) (fun b ps e => ⟨#[], by rw [e]; simp⟩) (fun m hm => ?_) (fun b u e => ?_) I.bare
  · obtain ⟨o, es, ep, ho, r⟩ := hm
    exact ⟨o, es, ep, k _ o (fun z => (hf _ z).2.1 rfl) ho, r⟩
  · refine (I.hok b u e).stay (fun c v hc q => k c v ?_ q) (fun _ q => q) fun _ _ q => q
    rcases hc with z | z
    · rw [z]; exact nit b u e
    · exact nit c _ z
theorem Inv.turnedNew {t' : Nat} {ch : List Addr} {T : Addr} {ob : HO} (I : Inv X pins σ H s) (k : ∀ b o, b ∉ ch → s.heap.get? b = some o → h'.get? b = some o) (hf : ∀ b ∈ ch, FpOk X pins H b) (hT : s.heap.objs.size ≤ T)
    (new : ObjOk X.prog X.w (upd H T ob) h' T ob) : Inv X pins σ (upd H T ob) { s with heap := h', toks := t' } := by
  have hn : H T = none := I.hok.fresh hT
  have nit : ∀ b u, H b = some u → b ∉ ch := fun b u e z => by
    have q := (hf b z).1
    rw [q] at e; cases e
  refine I.step (g' := s.gens) (d' := s.drawn) (ch := ch) (fun b hb => ⟨(hf b hb).2.2.2.1, (hf b hb).2.1, (hf b hb).2.2.2.2.1, (hf b hb).2.2.2.2.2⟩) (fun b o _ _ hc e _ => k b o hc e) (fun b o _ _ hc e _ => ⟨o.slots, k b o hc e⟩)
    (fun b o _ e n => ?_) (fun b o hc e => ⟨o, k b o hc e⟩) (fun b xs e => ?_) (fun b o u e => ?_) (fun b ps e => ⟨#[], ?_⟩) (fun m hm => ?_) (fun b u e => ?_) I.bare
  · rw [upd_ne (Nat.ne_of_lt (Nat.lt_of_lt_of_le (Heap.lt_size e) hT))]; exact n
  · rw [upd_ne (ne_of_none e hn)]; exact e
  · rw [upd_ne (ne_of_none e hn)]; exact e
  · rw [upd_ne (ne_of_none e hn), e]; simp
  · obtain ⟨o, es, ep, ho, r⟩ := hm
    exact ⟨o, es, ep, k _ o (fun z => (hf _ z).2.1 rfl) ho, r⟩
  · by_cases hb : b = T
    · subst hb
      rw [upd_same] at e
      cases e
      exact new
    · rw [upd_ne hb] at e
      refine (I.hok b u e).stay (fun c v hc q => k c v ?_ q) (fun c q => by rw [upd_ne (ne_of_none q hn)]; exact q) fun c xs q => by rw [upd_ne (ne_of_none q hn)]; exact q
      rcases hc with z | z
      · rw [z]; exact nit b u e
      · exact nit c _ z
end
section
variable {X : Cx}
theorem pi_one {tg : Expr} {pins : List (Addr × Obj)} {σ : St} {H : Hp} {s : Shared} {R : It → Hp → Prop} {J : It} {tn : Nat → Heap → Prop} {tk : Nat} (I : Inv X pins σ H s) (o : Obj)
    (T : Turn X.prog X.w X.K tg J [s.heap.objs.size] s.heap.objs.size tn) (st : tn 0 (s.heap.push o)) (q : R J H) : PIE X pins σ tg R (.ref s.heap.objs.size) { s with heap := s.heap.push o, toks := tk } := by
  refine ⟨s.heap.objs.size, [s.heap.objs.size], tn, J, H, rfl, I.kept fun b ob e => Heap.get?_push_of_some _ e, T, st, fun b hb => ?_, q⟩
  have e : b = s.heap.objs.size := by simpa using hb
  subst e
  exact I.fpOk (Nat.le_refl _) (I.hok.fresh (Nat.le_refl _))
end
def RgC (i j c : Int) (n : Nat) : Prop := c ≠ 0 ∧ c.natAbs < 1073741824 ∧ Builtin.Range.small i j c = true ∧ Builtin.Range.rangeSize i j c = n
theorem RgC.neg {i j : Int} (ha : -(2 ^ 62) ≤ i) (ha' : i < 2 ^ 62) (hb : -(2 ^ 62) ≤ j) (hb' : j < 2 ^ 62) : RgC i j (-1) (i - j).toNat :=
  ⟨by decide, by decide, PySem.W.small_down ha ha' hb hb', PySem.W.rangeSize_downNat i j⟩
section
variable {X : Cx} {tg : Expr}
end
section
variable {X : Cx} {tg : Expr}
end
def Its (x : Str) : It := ⟨fun i _ => i < x.cps.size, fun i H v H' => H' = H ∧ ∃ c, x.cps[i]? = some c ∧ v = .str ⟨#[c]⟩, fun i _ => x.cps.size ≤ i⟩
theorem turn_str {P : Program} {w : World} {K : PySem.W.Frag} {tg : Expr} (it : Addr) (x : Str) (t : Tok) (ty : String) (hty : ty = "str_ascii_iterator" ∨ ty = "str_iterator") :
    Turn P w K tg (Its x) [it] it (fun i h => h.IsStrIter it ty x t i) where
  mem := by simp
  obj := fun i h st b hb => by
    have e : b = it := by simpa using hb
    subst e
    obtain ⟨o, e, c, d⟩ := st
    exact ⟨o, e, fun v z => by rw [d] at z; cases z⟩
  keep := fun i h h' st k => let ⟨o, ho, r⟩ := st; ⟨o, k it (by simp) o ho, r⟩
  item := by
    intro X hP hw hK hc i pins s σ H E I hf st hg
    subst hP hw hK
    obtain ⟨f0, f1, f2, f3, f4, f5⟩ := hf it (by simp)
    have W : Walks X.prog X.w X.A it [it] [it] x.cps.size (SignAt x) (fun i h => h.IsStrIter it ty x t i) := by
      rcases hty with e | e
      · rw [e]; exact Walks.strAscii (I.ok.hd hc) it x t
      · rw [e]; exact Walks.strWide (I.ok.hd hc) it x t
    have hno : ["enumerate", "zip", "dict_itemiterator", "dict_reverseitemiterator", "odict_iterator", "itertools.zip_longest", "itertools.pairwise"].contains ty = false := by
      rcases hty with e | e
      · rw [e]; decide
      · rw [e]; decide
    refine W.item i s _ _ hg st fun v h' tk hv st' kk => ?_
    obtain ⟨c, u, hcx, rfl⟩ := hv
    have I1 : Inv X pins σ H { s with heap := h', toks := tk } := I.turned (fun b o hb e => kk b o (by simpa using hb) e) f0 f1 f3 f4 f5
    obtain ⟨oi, e, cc, dd⟩ := id st'
    exact ⟨_, rfl, go_of (s := { s with heap := h', toks := tk }) e cc dd hno ⟨.str ⟨#[c]⟩, H, I1, ⟨u, rfl⟩, ⟨rfl, c, hcx, rfl⟩, st', fun b hb => (hf b hb).1⟩⟩
  done := by
    intro X hP hw hK hc i pins s σ H E I hf st hg
    subst hP hw hK
    obtain ⟨f0, f1, f2, f3, f4, f5⟩ := hf it (by simp)
    have hx : x.cps[i]? = none := Array.getElem?_eq_none hg
    rcases hty with e | e
    · rw [e] at st
      exact wpAny_pyNext_ascii_end (I.ok.hd hc) st hx fun h' eb => ⟨rfl, I.turned (t' := s.toks) (fun b o hb e => eb b o hb e) f0 f1 f3 f4 f5⟩
    · rw [e] at st
      exact wpAny_pyNext_wide_end (I.ok.hd hc) st hx fun h' eb => ⟨rfl, I.turned (t' := s.toks) (fun b o hb e => eb b o hb e) f0 f1 f3 f4 f5⟩
  self := fun A i s Q E st h => by
    rcases hty with e | e
    · rw [e] at st; exact wpAny_pyIter_striter_ascii st h
    · rw [e] at st; exact wpAny_pyIter_striter_wide st h
def iStr (te : TE) : TI := fun σ H R => te σ H fun v H1 => ∃ x, v = .str x ∧ R (Its x) H1
theorem pi_str {X : Cx} {tg e : Expr} {te : TE} (he : PE X e te) : PI X tg e (iStr te) := by
  intro pins s σ H R I h
  refine thn (he pins s σ H _ I h) fun v s1 ⟨y, H1, I1, r1, x, ex, q⟩ => ?_
  subst ex
  obtain ⟨t, rfl⟩ := r1
  cases ha : x.cps.all (· < 128)
  · exact wpAny_pyIter_wide ha (pi_one (tk := s1.toks) I1 _ (turn_str _ x t "str_iterator" (.inr rfl)) ⟨_, Heap.get?_push_size _ rfl, rfl, rfl⟩ q)
  · exact wpAny_pyIter_ascii ha (pi_one (tk := s1.toks) I1 _ (turn_str _ x t "str_ascii_iterator" (.inl rfl)) ⟨_, Heap.get?_push_size _ rfl, rfl, rfl⟩ q)
section
variable {prog : Program} {w : World} {A : Around} {E : Value → Shared → Prop} {s : Shared}
end
section
variable {X : Cx} {pins : List (Addr × Obj)} {σ : St} {H : Hp} {s : Shared} {d : Addr} {o : Obj}
end
section
variable {P : Program} {w : World} {K : PySem.W.Frag} {tg : Expr} {d : Addr} {o : Obj} {es : Array DictEntry} {ep : Nat}
end
section
variable {X : Cx} {tg e : Expr} {td : TE} {apos cpos : Pos}
end
def Ite (K : PySem.W.Frag) (a : Addr) : It :=
  ⟨fun i H => ∃ (xs : List V) (x : V), SqL K H a xs ∧ xs[i]? = some x, fun i H v H' => ∃ T x, v = .ref T ∧ H T = none ∧ H' = upd H T (.tup [.int (i : Nat), x]) ∧ ∀ xs, SqL K H a xs → xs[i]? = some x, fun i H => ∃ xs : List V, SqL K H a xs ∧ xs.length ≤ i⟩
theorem turn_enum {P : Program} {w : World} {K : PySem.W.Frag} {elts : List Expr} {kk : Nat} {tpos : Pos} (a e it : Addr) :
    Turn P w K (.Tuple elts kk tpos) (Ite K a) [e, it] e (fun i h => (∃ old, IsEnum h e it ((i : Nat) : Int) old) ∧ h.IsListIter it a i ∧ e ≠ it) where
  mem := by simp
  obj := fun i h st b hb => by
    obtain ⟨⟨old, he⟩, ⟨o, ho, hc, hd⟩, _⟩ := st
    have e' : b = e ∨ b = it := by simpa using hb
    rcases e' with z | z
    · rw [z]; exact ⟨_, he, fun v q => nomatch q⟩
    · rw [z]; exact ⟨o, ho, fun v q => by rw [hd] at q; cases q⟩
  keep := fun i h h' st k => let ⟨⟨old, he⟩, hi, hne⟩ := st; ⟨⟨old, k e (by simp) _ he⟩, hi.at fun o q => k it (by simp) o q, hne⟩
  item := by
    intro X hP hw hK hc i pins s σ H E I hf st hg
    subst hP hw hK
    obtain ⟨⟨old, he⟩, hit, hne⟩ := st
    obtain ⟨xs, x, hq, hx⟩ := hg
    obtain ⟨its, rv, p, hz⟩ := I.list hq
    obtain ⟨u, hu, ru⟩ := rv.get hx
    have hel : e < s.heap.objs.size := Heap.lt_size he
    have hil : it < s.heap.objs.size := by obtain ⟨_, q, _⟩ := hit; exact Heap.lt_size q
    refine wpAny_pyNext_enum_item he hit p.isList (x := u) (by simpa using hu) hne fun h' ho hit' hT hsz hk => ?_
    refine ⟨_, rfl, wpAny_letOwnedTupleGo_enum (s := { s with heap := h', toks := s.toks + 1 }) ho fun h'' he' sb => ?_⟩
    have hT2 : h''.get? s.heap.objs.size = some { cls := .type "tuple", data := .seq #[.int i s.toks, u] } := (sb.2 _ (Nat.ne_of_gt hel)).trans hT
    have new : ObjOk X.prog X.w (upd H s.heap.objs.size (.tup [.int (i : Nat), x])) h'' s.heap.objs.size (.tup [.int (i : Nat), x]) :=
      ⟨by show 2 ≤ sizeLine; decide, [.int i s.toks, u], .cons ⟨_, rfl⟩ (.cons ru .nil), ⟨_, hT2, rfl, _, rfl⟩⟩
    have I1 : Inv X pins σ (upd H s.heap.objs.size (.tup [.int (i : Nat), x])) { s with heap := h'', toks := s.toks + 1 } :=
      I.turnedNew (ch := [e, it]) (fun b ob hb q => (sb.2 b (fun z => hb (by simp [z]))).trans (hk b ob (fun z => hb (by simp [z])) (fun z => hb (by simp [z])) q)) hf (Nat.le_refl _) new
    refine ⟨.ref s.heap.objs.size, _, I1, rfl, ⟨_, x, rfl, I.hok.fresh (Nat.le_refl _), rfl, fun ys hy => by rw [I.list_inj hy hq]; exact hx⟩, ⟨⟨u, ?_⟩, hit'.at fun o q => (sb.2 it (Ne.symm hne)).trans q, hne⟩, fun b hb => ?_⟩
    · have e1 : ((i + 1 : Nat) : Int) = (i : Int) + 1 := by omega
      rw [e1]; exact he'
    · have hb' : b < s.heap.objs.size := by
        have e' : b = e ∨ b = it := by simpa using hb
        rcases e' with z | z
        · rw [z]; exact hel
        · rw [z]; exact hil
      rw [upd_ne (Nat.ne_of_lt hb')]
      exact (hf b hb).1
  done := by
    intro X hP hw hK hc i pins s σ H E I hf st hg
    subst hP hw hK
    obtain ⟨⟨old, he⟩, hit, hne⟩ := st
    obtain ⟨xs, hq, hx⟩ := hg
    obtain ⟨its, rv, p, hz⟩ := I.list hq
    obtain ⟨f0, f1, f2, f3, f4, f5⟩ := hf it (by simp)
    have hl := rv.length
    exact wpAny_pyNext_enum_end (I.ok.hd hc) he hit p.isList (by simp; omega) fun h' eb => ⟨rfl, I.turned (t' := s.toks) (fun b o hb q => eb b o hb q) f0 f1 f3 f4 f5⟩
  self := fun A i s Q E st h => let ⟨⟨_, he⟩, _⟩ := st; wpAny_pyIter_enum he h
def iEnum (K : PySem.W.Frag) (ta : TA) : TI := fun σ H R => ta σ H fun vs H1 => ∃ a xs, vs = [.ref a] ∧ SqL K H1 a xs ∧ R (Ite K a) H1
theorem pi_enum {X : Cx} {e : Expr} {ta : TA} {p pos tpos : Pos} {elts : List Expr} {kk : Nat} (hg : Gl X "enumerate") (hm : X.mg "enumerate" = none) (ha : PA X [e] ta) (hs : starEach [e] X.env = [(false, eval e X.env)] := by rfl) :
    PI X (.Tuple elts kk tpos) (.Call (.Name "enumerate" p) [e] [] pos) (iEnum X.K ta) := by
  intro pins s σ H R I h
  refine Call_ (ld_blt I hg hm boot_enumerate (PyProof.Rows.callWith_type1 (thn (ha pos pins s σ H _ I h) fun us s1 ⟨vs, H1, I1, r1, q1⟩ => ?_) hs rfl))
  obtain ⟨a, xs, ex, hq, q⟩ := q1
  subst ex
  cases r1 with
  | cons r rr =>
    cases rr
    cases r
    obtain ⟨its, rv, p', hz⟩ := I1.list hq
    refine call_enumerate_list p'.isList fun h' he hit hsz hk => wpAny_pyIter_enum he ?_
    have I2 : Inv X pins σ H1 { s1 with heap := h' } := I1.kept (t' := s1.toks) hk
    refine ⟨s1.heap.objs.size + 1, [s1.heap.objs.size + 1, s1.heap.objs.size], _, _, H1, rfl, I2, turn_enum a (s1.heap.objs.size + 1) s1.heap.objs.size, ⟨⟨.none, he⟩, hit, Nat.succ_ne_self _⟩, fun b hb => ?_, q⟩
    have e' : b = s1.heap.objs.size + 1 ∨ b = s1.heap.objs.size := by simpa using hb
    have hle : s1.heap.objs.size ≤ b := by
      rcases e' with z | z
      · rw [z]; exact Nat.le_add_right _ _
      · rw [z]; exact Nat.le_refl _
    exact I1.fpOk hle (I1.hok.fresh hle)
theorem boot_zip5 : bootBuiltins "zip" = some (.type "zip") := by decide +kernel
end L2
section
namespace Bits
open PySem PyProof.Rows
end Bits
end
section
namespace TL
open PySem PySem.Builtin PySem.Builtin.Str PySem.StrLaws
abbrev tl (x : Str) : List Nat := x.cps.toList
theorem len_tl (x : Str) : x.length = (tl x).length := by simp [tl, Str.length]
theorem ext_tl {x y : Str} (h : tl x = tl y) : x = y := Str.ext' (Array.toList_inj.mp h)
theorem tl_append (x y : Str) : tl (x ++ y) = tl x ++ tl y := by
  show (x ++ y).cps.toList = _
  rw [Str.cps_append, Array.toList_append]
theorem map_tl_inj : ∀ {l m : List Str}, l.map tl = m.map tl → l = m
  | [], [], _ => rfl
  | [], _ :: _, h => by simp at h
  | _ :: _, [], h => by simp at h
  | x :: l, y :: m, h => by
    rw [List.map_cons, List.map_cons] at h
    injection h with h1 h2
    rw [ext_tl h1, map_tl_inj h2]
def pre (S l : List Nat) : Bool := l.take S.length == S
def spl (S : List Nat) : Nat → List Nat → List Nat → List (List Nat)
  | _, acc, [] => [acc]
  | 0, acc, c :: r => if pre S (c :: r) = true then acc :: spl S (S.length - 1) [] r else spl S 0 (acc ++ [c]) r
  | k + 1, acc, _ :: r => spl S k acc r
def par (S : List Nat) : List Nat → List Nat → Option (List Nat × List Nat)
  | _, [] => none
  | acc, c :: r => if pre S (c :: r) = true then some (acc, (c :: r).drop S.length) else par S (acc ++ [c]) r
theorem spl_nil (S : List Nat) (k : Nat) (acc : List Nat) : spl S k acc [] = [acc] := by cases k <;> rfl
theorem spl_hit {S acc r : List Nat} {c : Nat} (h : pre S (c :: r) = true) : spl S 0 acc (c :: r) = acc :: spl S (S.length - 1) [] r := by
  show (if pre S (c :: r) = true then acc :: spl S (S.length - 1) [] r else spl S 0 (acc ++ [c]) r) = _
  rw [if_pos h]
theorem spl_miss {S acc r : List Nat} {c : Nat} (h : pre S (c :: r) = false) : spl S 0 acc (c :: r) = spl S 0 (acc ++ [c]) r := by
  show (if pre S (c :: r) = true then acc :: spl S (S.length - 1) [] r else spl S 0 (acc ++ [c]) r) = _
  rw [if_neg (by rw [h]; exact Bool.false_ne_true)]
theorem spl_pass (S : List Nat) : ∀ (k : Nat) (acc l : List Nat), spl S k acc l = spl S 0 acc (l.drop k)
  | 0, _, _ => by rw [List.drop_zero]
  | k + 1, acc, [] => by rw [List.drop_nil, spl_nil, spl_nil]
  | k + 1, acc, c :: r => by
    show spl S k acc r = spl S 0 acc (r.drop k)
    exact spl_pass S k acc r
theorem pre_nil {S : List Nat} (hS : S ≠ []) : pre S [] = false := by
  cases S with
  | nil => exact absurd rfl hS
  | cons s S => rfl
theorem pre_of_head {s c : Nat} (S r : List Nat) (h : c ≠ s) : pre (s :: S) (c :: r) = false := by
  cases hp : pre (s :: S) (c :: r) with
  | false => rfl
  | true =>
    have e : (c :: r).take (s :: S).length = s :: S := eq_of_beq hp
    rw [List.length_cons, List.take_succ_cons] at e
    injection e with e1 e2
    exact absurd e1 h
theorem pre_self (S r : List Nat) : pre S (S ++ r) = true := by
  show ((S ++ r).take S.length == S) = true
  have e : (S ++ r).take S.length = S := List.take_left
  rw [e] <;> exact beq_self_eq_true S
theorem getElem_drop_cons {L : List Nat} {a : Nat} (h : a < L.length) : ∃ c, L.drop a = c :: L.drop (a + 1) := ⟨L[a], List.drop_eq_getElem_cons h⟩
theorem spl_run (S L : List Nat) : ∀ (m a : Nat) (acc : List Nat), a + m ≤ L.length → (∀ k, a ≤ k → k < a + m → pre S (L.drop k) = false) →
    spl S 0 acc (L.drop a) = spl S 0 (acc ++ (L.drop a).take m) (L.drop (a + m))
  | 0, a, acc, _, _ => by rw [List.take_zero, List.append_nil, Nat.add_zero]
  | m + 1, a, acc, h, hn => by
    have hlt : a < L.length := by omega
    obtain ⟨c, e⟩ := getElem_drop_cons hlt
    have h0 := hn a (Nat.le_refl _) (by omega)
    have ih := spl_run S L m (a + 1) (acc ++ [c]) (by omega) (fun k h1 h2 => hn k (by omega) (by omega))
    have e2 : a + 1 + m = a + (m + 1) := by omega
    rw [e2] at ih
    rw [e] at h0
    rw [e, spl_miss h0, ih, List.take_succ_cons, List.append_assoc] <;> rfl
theorem drop_two (L : List Nat) (a b : Nat) : (L.drop a).drop b = L.drop (a + b) := by
  first
    | rw [List.drop_drop]
    | rw [List.drop_drop, Nat.add_comm]
theorem spl_at {S L : List Nat} (hS : S ≠ []) {c : Nat} {acc : List Nat} (h : pre S (L.drop c) = true) : spl S 0 acc (L.drop c) = acc :: spl S 0 [] (L.drop (c + S.length)) := by
  rw [← drop_two]
  cases e : L.drop c with
  | nil => rw [e, pre_nil hS] at h; cases h
  | cons d r =>
    rw [e] at h
    rw [spl_hit h, spl_pass]
    cases S with
    | nil => exact absurd rfl hS
    | cons s S => rfl
theorem at_iff {x y : Str} (hy : tl y ≠ []) (i : Nat) : At x y x.length i ↔ pre (tl y) ((tl x).drop i) = true := by
  have hx := len_tl x
  have hl := len_tl y
  constructor
  · intro h
    have h2 := h.2
    rw [subAt_eq, hl] at h2
    exact h2
  · intro h
    have e : ((tl x).drop i).take (tl y).length = tl y := eq_of_beq h
    have e1 := congrArg List.length e
    rw [List.length_take, List.length_drop] at e1
    have e2 : 0 < (tl y).length := List.length_pos_iff.mpr hy
    refine ⟨by omega, ?_⟩
    rw [subAt_eq, hl]
    exact h
theorem no_at {x y : Str} (hy : tl y ≠ []) {i : Nat} (h : ¬ At x y x.length i) : pre (tl y) ((tl x).drop i) = false := by
  cases hp : pre (tl y) ((tl x).drop i) with
  | false => rfl
  | true => exact absurd ((at_iff hy i).mpr hp) h
theorem len1 {y : Str} (hy : tl y ≠ []) : 1 ≤ y.length := by
  have e2 : 0 < (tl y).length := List.length_pos_iff.mpr hy
  rw [len_tl y]
  exact e2
theorem tl_strSub (x : Str) (i j : Nat) : tl (strSub x i j) = ((tl x).drop i).take (j - i) := strSub_toList x i j
theorem tl_strSub_end (x : Str) (i : Nat) : tl (strSub x i x.length) = (tl x).drop i := by
  rw [tl_strSub, len_tl x]
  exact List.take_of_length_le (by rw [List.length_drop] <;> omega)
theorem parts_spl {x y : Str} (hy : tl y ≠ []) : ∀ (cuts : List Nat) (a f : Nat), a ≤ (tl x).length → ChainG x y x.length a cuts f → (∀ k, f ≤ k → ¬ At x y x.length k) →
    (partsFrom x y.length a cuts).map tl = spl (tl y) 0 [] ((tl x).drop a)
  | [], a, f, ha, h, hn => by
    have e : f = a := h
    subst e
    show [tl (strSub x f x.length)] = _
    have run := spl_run (tl y) (tl x) ((tl x).length - f) f [] (by omega) (fun k h1 _ => no_at hy (hn k h1))
    have e2 : f + ((tl x).length - f) = (tl x).length := by omega
    rw [e2, List.drop_length, spl_nil, List.nil_append, List.take_of_length_le (by rw [List.length_drop] <;> omega)] at run
    rw [run, tl_strSub_end]
  | c :: r, a, f, ha, h, hn => by
    obtain ⟨h1, h2, h3, h4⟩ := h
    have hc : c + y.length ≤ x.length := h2.1
    have hx := len_tl x
    have hl := len_tl y
    have ih := parts_spl hy r (c + y.length) f (by omega) h4 hn
    show tl (strSub x a c) :: (partsFrom x y.length (c + y.length) r).map tl = _
    have run := spl_run (tl y) (tl x) (c - a) a [] (by omega) (fun k k1 k2 => no_at hy (h3 k k1 (by omega)))
    have e2 : a + (c - a) = c := by omega
    rw [e2, List.nil_append, spl_at hy ((at_iff hy c).mp h2)] at run
    rw [run, ih, tl_strSub, hl]
theorem split_spl (x y : Str) (hy : tl y ≠ []) (hk : ¬ Builtin.Str.strKind x < Builtin.Str.strKind y) : (Txt.split x y).map tl = spl (tl y) 0 [] (tl x) := by
  obtain ⟨f, g, hn⟩ := occ_tight x y (len1 hy)
  have key := parts_spl hy _ 0 f (Nat.zero_le _) g hn
  rw [List.drop_zero] at key
  have none_case : occurrences x y 0 x.length (x.length + 1) = [] → [x].map tl = spl (tl y) 0 [] (tl x) := fun ho => by
    rw [ho] at key
    rw [← key]
    show [tl x] = [tl (strSub x 0 x.length)]
    rw [sub_whole]
  unfold Txt.split
  by_cases h1 : (decide (x.length < y.length) || decide (Builtin.Str.strKind x < Builtin.Str.strKind y)) = true
  · rw [if_pos h1]
    have hlt : x.length < y.length := by
      simp only [Bool.or_eq_true, decide_eq_true_eq] at h1
      rcases h1 with h | h
      · exact h
      · exact absurd h hk
    refine none_case ?_
    cases ho : occurrences x y 0 x.length (x.length + 1) with
    | nil => rfl
    | cons c r =>
      rw [ho] at g
      have hc : c + y.length ≤ x.length := g.2.1.1
      omega
  · rw [if_neg h1]
    by_cases h2 : (occurrences x y 0 x.length (x.length + 1)).isEmpty = true
    · rw [if_pos h2]
      exact none_case (List.isEmpty_iff.mp h2)
    · rw [if_neg h2, partsBetween_eq]
      exact key
theorem kind_ok {x y : Str} (h : y.cps.all (· < 256) = true) : ¬ Builtin.Str.strKind x < Builtin.Str.strKind y := by
  have e : Builtin.Str.strKind y = 1 := by unfold PySem.Builtin.Str.strKind; rw [if_pos h]
  rw [e]
  unfold PySem.Builtin.Str.strKind
  split
  · omega
  · split <;> omega
theorem spl_part {S p rest acc : List Nat} (hS : S ≠ []) (h : ∀ i, i < p.length → pre S ((p ++ (S ++ rest)).drop i) = false) :
    spl S 0 acc (p ++ (S ++ rest)) = (acc ++ p) :: spl S 0 [] rest := by
  have run := spl_run S (p ++ (S ++ rest)) p.length 0 acc (by rw [List.length_append]; omega) (fun k _ k2 => h k (by omega))
  have ed : (p ++ (S ++ rest)).drop p.length = S ++ rest := List.drop_left
  rw [List.drop_zero, Nat.zero_add, List.take_left] at run
  rw [run, spl_at hS (by rw [ed]; exact pre_self S rest), ← drop_two, ed, List.drop_left]
theorem spl_last {S p acc : List Nat} (h : ∀ i, i < p.length → pre S (p.drop i) = false) : spl S 0 acc p = [acc ++ p] := by
  have run := spl_run S p p.length 0 acc (by omega) (fun k _ k2 => h k (by omega))
  rw [List.drop_zero, Nat.zero_add, List.drop_length, spl_nil, List.take_length] at run
  exact run
theorem free_of {s : Nat} {S p q : List Nat} (h : s ∉ p) : ∀ i, i < p.length → pre (s :: S) ((p ++ q).drop i) = false := fun i hi => by
  have hlt : i < (p ++ q).length := by rw [List.length_append]; omega
  have e : (p ++ q).drop i = (p ++ q)[i] :: (p ++ q).drop (i + 1) := List.drop_eq_getElem_cons hlt
  rw [e]
  refine pre_of_head _ _ fun z => h ?_
  have e1 : (p ++ q)[i] = p[i] := List.getElem_append_left hi
  rw [← z, e1]
  exact List.getElem_mem hi
theorem spl_part1 {s : Nat} {S p rest acc : List Nat} (h : s ∉ p) : spl (s :: S) 0 acc (p ++ (s :: S ++ rest)) = (acc ++ p) :: spl (s :: S) 0 [] rest :=
  spl_part (by simp) (free_of h)
theorem spl_last1 {s : Nat} {S p acc : List Nat} (h : s ∉ p) : spl (s :: S) 0 acc p = [acc ++ p] := spl_last fun i hi => by
  have z := free_of (S := S) (q := []) h i hi
  rw [List.append_nil] at z
  exact z
def joinL (S : List Nat) : List (List Nat) → List Nat
  | [] => []
  | [p] => p
  | p :: q :: r => p ++ (S ++ joinL S (q :: r))
theorem tl_join (y : Str) : ∀ parts : List Str, tl (Str.join y parts) = joinL (tl y) (parts.map tl)
  | [] => rfl
  | [_] => rfl
  | x :: z :: r => by
    show tl (x ++ y ++ Str.join y (z :: r)) = tl x ++ (tl y ++ joinL (tl y) ((z :: r).map tl))
    rw [tl_append, tl_append, tl_join y (z :: r), List.append_assoc]
theorem spl_join {s : Nat} {S : List Nat} : ∀ {parts : List (List Nat)}, parts ≠ [] → (∀ p ∈ parts, s ∉ p) → spl (s :: S) 0 [] (joinL (s :: S) parts) = parts
  | [], h, _ => absurd rfl h
  | [p], _, hp => by
    show spl (s :: S) 0 [] p = [p]
    rw [spl_last1 (hp p (List.mem_singleton.mpr rfl)), List.nil_append]
  | p :: q :: r, _, hp => by
    show spl (s :: S) 0 [] (p ++ (s :: S ++ joinL (s :: S) (q :: r))) = p :: q :: r
    rw [spl_part1 (hp p (List.mem_cons_self ..)), List.nil_append, spl_join (by simp) fun z hz => hp z (List.mem_cons_of_mem _ hz)]
theorem join_eq (y : Str) (parts : List Str) : Txt.join y parts = Str.join y parts := glued_eq_join y parts
theorem split_join {y : Str} {s : Nat} {S : List Nat} (ey : tl y = s :: S) (hk : y.cps.all (· < 256) = true) {parts : List Str} (hne : parts ≠ []) (hp : ∀ p ∈ parts, s ∉ tl p) :
    Txt.split (Txt.join y parts) y = parts := by
  refine map_tl_inj ?_
  rw [split_spl _ y (by rw [ey]; simp) (kind_ok hk), join_eq, tl_join, ey]
  refine spl_join (fun e => hne (List.map_eq_nil_iff.mp e)) fun p h => ?_
  obtain ⟨z, hz, rfl⟩ := List.mem_map.mp h
  exact hp z hz
end TL
end
namespace L2
open PySem PySem.Spec PyProof.Rows
theorem vals_strs : ∀ l : List (Str × Tok), Vals ((l.map (·.1)).map V.str) (strValues l)
  | [] => .nil
  | p :: r => .cons ⟨p.2, rfl⟩ (vals_strs r)
theorem strs_of_vals : ∀ {ys : List Str} {us : List Value}, Vals (ys.map V.str) us → StrsAre us ys
  | [], _, .nil => .nil
  | y :: ys, _, .cons r t => by
    obtain ⟨k, rfl⟩ := r
    exact .cons y k (strs_of_vals t)
def rNewStrs (ys : List Str) : Hp → VK → Prop := fun H Q => ∀ p, H p = none → Q (.ref p) (upd H p (.lst (ys.map V.str)))
section
variable {X : Cx} {pins : List (Addr × Obj)} {σ : St} {H : Hp} {s : Shared} {Q : VK}
theorem laid_strs {l : List (Str × Tok)} {ys : List Str} {k : Nat} (I : Inv X pins σ H s) (e : l.map (·.1) = ys) (hz : ys.length ≤ sizeLine) (h : rNewStrs ys H Q) :
    EP X pins σ Q (.ref s.heap.objs.size) { s with toks := k, heap := s.heap.push { cls := .type "list", data := .seq (strValues l).toArray } } := by
  have hp := I.hok.fresh (Nat.le_refl _)
  refine ⟨.ref s.heap.objs.size, upd H s.heap.objs.size (.lst (ys.map V.str)), I.laid (fun b u q => Heap.get?_push_of_some _ q) (Nat.le_refl _) ⟨by rw [List.length_map]; exact hz, strValues l, _, ?_, Heap.get?_push_size _ rfl⟩, rfl, h _ hp⟩
  rw [← e]
  exact vals_strs l
end
section
variable {X : Cx}
theorem mt_split : MtR X "str.split" (fun x xs H Q => ∃ a b, x = .str a ∧ xs = [.str b] ∧ (b.length == 0) = false ∧ a.length + 2 ≤ sizeLine ∧ rNewStrs (Txt.split a b) H Q) := by
  intro pins s σ H x xs v us Q I rx rs h
  obtain ⟨a, b, rfl, rfl, hb, hz, h⟩ := h
  obtain ⟨t, rfl⟩ := rx
  cases rs with
  | cons r1 rs =>
    cases rs
    obtain ⟨u, rfl⟩ := r1
    have hl : (Txt.split a b).length ≤ sizeLine := Nat.le_trans (PyProof.Rows.split_le a b) hz
    have hn : (Builtin.Str.partsBetween a (Builtin.Str.occurrences a b 0 a.length (a.length + 1)) b.length).length ≤ sizeLine := by
      have e1 := StrLaws.occ_length_le a b 0 a.length (a.length + 1)
      rw [length_partsBetween]; omega
    cases h1 : (decide (a.length < b.length) || decide (Builtin.Str.strKind a < Builtin.Str.strKind b))
    · cases hf : (Builtin.Str.occurrences a b 0 a.length (a.length + 1)).isEmpty
      · refine call_meets F.slot_str_split (typeIs_str _ _ _) F.entry_str_split (F.args_str_split_2 _ _) (meets_str_split_sep a b t u h1 hb hf (by omega) hn) ?_
        show EP X pins σ Q (.ref s.heap.objs.size) { s with toks := _, heap := s.heap.push { cls := .type "list", data := .seq (strsFrom s.toks (Builtin.Str.partsBetween a (Builtin.Str.occurrences a b 0 a.length (a.length + 1)) b.length)).toArray } }
        rw [strsFrom_eq]
        exact laid_strs (ys := Txt.split a b) I ((numbered_texts _ _).trans ((if_neg (ne_true_of_eq_false h1)).trans (if_neg (ne_true_of_eq_false hf))).symm) hl h
      · refine call_meets F.slot_str_split (typeIs_str _ _ _) F.entry_str_split (F.args_str_split_2 _ _) (meets_str_split_not_found a b t u h1 hb hf) ?_
        exact laid_strs (l := [(a, t)]) (ys := Txt.split a b) (k := s.toks) I ((if_neg (ne_true_of_eq_false h1)).trans (if_pos hf)).symm hl h
    · refine call_meets F.slot_str_split (typeIs_str _ _ _) F.entry_str_split (F.args_str_split_2 _ _) (meets_str_split_cannot_occur a b t u h1) ?_
      exact laid_strs (l := [(a, t)]) (ys := Txt.split a b) (k := s.toks) I (if_pos h1).symm hl h
theorem mt_join : MtR X "str.join" (fun x xs H Q => ∃ a p, ∃ ys : List Str, x = .str a ∧ xs = [.ref p] ∧ (SqL X.K H p (ys.map V.str) ∨ SqT X.K H p (ys.map V.str)) ∧
    (ys.map (·.length)).sum + ys.length * a.length ≤ 16777216 ∧ Q (.str (Txt.join a ys)) H) := by
  intro pins s σ H x xs v us Q I rx rs h
  obtain ⟨a, p, ys, rfl, rfl, hp, hz, h⟩ := h
  obtain ⟨t, rfl⟩ := rx
  cases rs with
  | cons r1 rs =>
    cases rs
    cases r1
    rcases hp with hp | hp
    · obtain ⟨its, r, ⟨o, n, ho, hc, _, hd⟩, _⟩ := I.list hp
      exact PyProof.Rows.join_list (items := its.toArray) ⟨o, ho, hc, n, hd⟩ (by rw [List.toList_toArray]; exact strs_of_vals r) hz fun t' k => ⟨.str _, H, I.tok k, ⟨t', rfl⟩, h⟩
    · obtain ⟨its, r, ht, _⟩ := I.tuple hp
      exact PyProof.Rows.join_tuple (items := its.toArray) ht (by rw [List.toList_toArray]; exact strs_of_vals r) hz fun t' k => ⟨.str _, H, I.tok k, ⟨t', rfl⟩, h⟩
end
section
variable {X : Cx} {o e : Expr} {to te : TE}
end
end L2
namespace L2
open PySem PySem.Spec PyProof.Rows
section
variable {X : Cx}
theorem op_in_sign : OpR X (compareOp .In) (fun x y H Q => ∃ (c : Nat) (z : Str), x = .str ⟨#[c]⟩ ∧ y = .str z ∧ Q (.bl (decide (c ∈ z.cps.toList))) H) := by
  intro pins s σ H x y v u Q I rx ry h
  obtain ⟨c, z, rfl, rfl, q⟩ := h
  obtain ⟨t, rfl⟩ := rx
  obtain ⟨t', rfl⟩ := ry
  exact PyProof.Rows.in_str (fin_bl I q (PySem.StrLaws.found_one z c).symm)
end
theorem IsPart.raw {v : Value} {o : Option Int} (p : IsPart v o) : ∃ l : Option (Int × Tok), v = partValue l ∧ l.map (·.1) = o := by
  cases p with
  | none => exact ⟨none, rfl, rfl⟩
  | int i t => exact ⟨some (i, t), rfl, rfl⟩
def clipS (n d : Nat) : Option Int → Int
  | none => (d : Int)
  | some i => max 0 (min (if i < 0 then i + (n : Int) else i) (n : Int))
theorem clipS_eq (n d : Nat) (o : Option Int) : clipS n d o = ((HT.sIx n d o : Nat) : Int) := by
  cases o with
  | none => rfl
  | some v =>
    show max (0 : Int) (min (if v < 0 then v + (n : Int) else v) (n : Int)) = (((if v < 0 then (v + (n : Int)).toNat else min v.toNat n) : Nat) : Int)
    by_cases hv : v < 0
    · simp only [if_pos hv]
      omega
    · simp only [if_neg hv]
      omega
theorem sidx_clip (a b : Option Int) (n : Nat) : Builtin.Str.strSliceIndices a b 1 n = sliceRange (clipS n 0 a) (clipS n n b) 1 := by
  have h1 : ((1 : Int) > 0) = True := by simp
  cases a <;> cases b <;> first
    | rfl
    | (simp only [Builtin.Str.strSliceIndices, clipS, h1, if_true]; rfl)
    | simp [Builtin.Str.strSliceIndices, clipS]
theorem sidx (a b : Option Int) (n : Nat) : Builtin.Str.strSliceIndices a b 1 n = (List.range (HT.sIx n n b - HT.sIx n 0 a)).map (fun k => HT.sIx n 0 a + k) := by
  rw [sidx_clip, clipS_eq, clipS_eq]
  generalize HT.sIx n 0 a = p
  generalize HT.sIx n n b = q
  simp only [sliceRange, show ((1 : Int) > 0) = True from by simp, if_true]
  by_cases hlt : (p : Int) < q
  · have e3 : (((q : Int) - p + 1 - 1) / 1).toNat = q - p := by first | omega | (simp; done) | (simp; omega)
    simp only [hlt, if_true, e3]
    refine List.map_congr_left fun k _ => ?_
    omega
  · have : q - p = 0 := by omega
    simp [hlt, this]
def cutS (z : Str) (lo hi : Option Int) : Str :=
  ⟨((z.cps.toList.drop (HT.sIx z.length 0 lo)).take (HT.sIx z.length z.length hi - HT.sIx z.length 0 lo)).toArray⟩
theorem sliceText_cut (z : Str) (lo hi : Option Int) : PySem.StrLaws.sliceText z lo hi = cutS z lo hi := by
  have h1 : HT.sIx z.length 0 lo ≤ z.length := HT.sIx_le _ _ (Nat.zero_le _) _
  have h2 : HT.sIx z.length z.length hi ≤ z.length := HT.sIx_le _ _ (Nat.le_refl _) _
  have hp : HT.sIx z.length 0 lo ≤ max (HT.sIx z.length 0 lo) (HT.sIx z.length z.length hi) := Nat.le_max_left _ _
  have hq : max (HT.sIx z.length 0 lo) (HT.sIx z.length z.length hi) ≤ z.length := Nat.max_le.mpr ⟨h1, h2⟩
  have hd : max (HT.sIx z.length 0 lo) (HT.sIx z.length z.length hi) - HT.sIx z.length 0 lo = HT.sIx z.length z.length hi - HT.sIx z.length 0 lo := by omega
  have e : Builtin.Str.strSliceIndices lo hi 1 z.length =
      Builtin.Str.strSliceIndices (some ((HT.sIx z.length 0 lo : Nat) : Int)) (some ((max (HT.sIx z.length 0 lo) (HT.sIx z.length z.length hi) : Nat) : Int)) 1 z.length := by
    rw [PySem.StrLaws.strSliceIndices_plain hp hq, hd, sidx]
  have e2 : PySem.StrLaws.sliceText z lo hi =
      PySem.StrLaws.sliceText z (some ((HT.sIx z.length 0 lo : Nat) : Int)) (some ((max (HT.sIx z.length 0 lo) (HT.sIx z.length z.length hi) : Nat) : Int)) := by
    unfold PySem.StrLaws.sliceText
    rw [e]
  rw [e2, PySem.StrLaws.sliceText_nat z hp hq, hd]
  rfl
theorem cutS_length (z : Str) (lo hi : Option Int) : (cutS z lo hi).length ≤ z.length := by
  show (((z.cps.toList.drop (HT.sIx z.length 0 lo)).take (HT.sIx z.length z.length hi - HT.sIx z.length 0 lo)).toArray).size ≤ z.cps.size
  rw [List.size_toArray, List.length_take, List.length_drop, Array.length_toList]
  omega
def rSlS : V → Option Int → Option Int → Hp → VK → Prop := fun x lo hi H Q => ∃ z, x = .str z ∧ z.length ≤ sizeLine ∧ Q (.str (cutS z lo hi)) H
theorem sl_str {X : Cx} : SlR X rSlS := by
  intro pins s σ H x v vl vu lo hi sl Q I rx hs pl pu h
  obtain ⟨z, rfl, hz, q⟩ := h
  obtain ⟨t, rfl⟩ := rx
  obtain ⟨os, hos, hcs, hds⟩ := hs
  obtain ⟨l, rfl, rfl⟩ := IsPart.raw pl
  obtain ⟨u, rfl, rfl⟩ := IsPart.raw pu
  refine ⟨"str", _, F.slot_str_getitem.lookup, typeIs_str _ _ _, ?_⟩
  refine wpAny_getItem_str_slice (l := l) (u := u) (st := none) ⟨os, hos, hcs, hds⟩ rfl ?_
  have hl : (PySem.StrLaws.sliceText z (l.map (·.1)) (u.map (·.1))).length ≤ sizeLine := by
    rw [sliceText_cut]
    exact Nat.le_trans (cutS_length z _ _) hz
  rw [← sliceText_cut] at q
  unfold PySem.StrLaws.sliceText at q hl
  show Made.post (if ((1 : Int) == 1 && (Builtin.Str.strSliceIndices (l.map (·.1)) (u.map (·.1)) 1 z.length).length == z.length) = true then Made.val (.str z t)
    else Made.str ⟨((Builtin.Str.strSliceIndices (l.map (·.1)) (u.map (·.1)) 1 z.length).filterMap (z.cps[·]?)).toArray⟩) (EP X pins σ Q) s
  by_cases c : ((1 : Int) == 1 && (Builtin.Str.strSliceIndices (l.map (·.1)) (u.map (·.1)) 1 z.length).length == z.length) = true
  · rw [if_pos c] at q ⊢
    exact ⟨.str z, H, I, ⟨t, rfl⟩, q⟩
  · rw [if_neg c] at q hl ⊢
    exact ⟨hl, .str _, H, I.tok _, ⟨_, rfl⟩, q⟩
end L2
namespace Att
open PySem PySem.W PySem.Calls PyProof.Rows
theorem ints_of_wellAll {P : Params} {h : Heap} : ∀ (ns : List Int) (vs : List Value), WellAll P h vs (ns.map WData.int) → IntsAre vs ns := by
  intro ns
  induction ns with
  | nil =>
    intro vs w
    rw [List.map_nil] at w
    cases w
    exact .nil
  | cons n ns ih =>
    intro vs w
    rw [List.map_cons] at w
    cases w with
    | cons a b =>
      cases a
      exact .cons _ _ (ih _ b)
theorem script_of {l : OpenLaw} {n : Nat} (hn : l.most = some n) {P : Params} {h : Heap} {args : List WData} {vals : List Value}
    (hpre : l.row.toRowW.claim.pre args = true) (hwl : WellAll P h vals args) :
    ∃ a vs ns, vals = [Value.ref a] ∧ args = [WData.list (ns.map WData.int)] ∧ h.get? a = some { cls := .type "list", data := .seq vs.toArray } ∧ IntsAre vs ns ∧ ns.length ≤ n := by
  have hsh : WShape.hasAll [] args [.list .int] = true := (pre_splitW hpre).1
  have hc : l.pre.holds [] { args := args } = true := (pre_splitW hpre).2
  obtain ⟨d, r, rfl, h1, h2⟩ := hasAllW_cons hsh
  obtain rfl := hasAllW_nil h2
  obtain ⟨xs, rfl, h3⟩ := hasW_list h1
  obtain ⟨ns, rfl⟩ := items_int h3
  have hlen : ns.length ≤ n := by
    unfold OpenLaw.pre at hc
    have h4 : (WTm.not (.lt (.lit (.int (n : Int))) (.len (.arg 0)))).holds [] { args := [.list (ns.map .int)] } = true := by
      have h4 := (holds_andW hc).1
      rw [hn] at h4
      exact h4
    have h5 := condW_of h4 (w_not (w_lt w_lit (w_len_list (w_arg rfl))))
    rw [List.length_map] at h5
    refine Nat.le_of_not_lt fun q => ?_
    have q' : (n : Int) < ((ns.length : Nat) : Int) := by omega
    first
      | (rw [decide_eq_true q'] at h5; exact absurd h5 (by decide))
      | (simp at h5; omega)
  cases hwl with
  | cons w1 w2 =>
    cases w2
    cases w1 with
    | list ho hall => exact ⟨_, _, ns, rfl, rfl, ho, ints_of_wellAll ns _ hall, hlen⟩
theorem post_true (l : OpenLaw) (args : List WData) : l.row.toRowW.claim.post args (.bool true) args = true :=
  postW_of (r := l.row.toRowW) (X := (true == true))
    (show WShape.has [] (.bool true) .bool = true by first | rfl | decide | simp [WShape.has, WShape.arms, WShape.armsAll])
    (show (WTm.eq .res (.lit (.bool true))).value [] { args := args, res := some (.bool true), after := args } = some (.bool (true == true)) from w_eq_bool (w_res rfl) w_lit) rfl
theorem attach_call {l : OpenLaw} {n : Nat} {q : Program} {loose : List Str} {XP : (Str → Option Value) → Heap → Prop} {YP : World → Heap → Prop} {d : DefRec}
    (hn : l.most = some n) (hdf : d.params.defaults = [])
    (call : ∀ (w : World) (s₀ s₁ : Shared) (mg mb : Str → Option Value) (fa : Addr) (o : Obj) (pm cd doc : Value) (a : Addr) (vs : List Value) (ns : List Int),
      Ground q loose [] XP w s₀ mg mb s₁.heap → YP w s₁.heap →
      s₁.heap.get? fa = some o → o.data = .func (docDef d.name d.params d.body d.scope pm cd doc) → s₁.heap.CodeRec cd d.name → mg d.name = some (.ref fa) →
      s₁.heap.get? a = some { cls := .type "list", data := .seq vs.toArray } → IntsAre vs ns → ns.length ≤ n → s₁.gens = #[] →
      codeAny (model l.prog w) callerA (.call (.ref fa) ⟨[.ref a], []⟩) (fun r s' => r = .ok (.ret (.bool true)) ∧ OldK s₁.heap s'.heap ∧ s'.os = s₁.os ∧ AllBare s'.gens) s₁) :
    WalkO q loose XP YP l.row.toRowW d [] (fun f vs => PySem.call f vs) := by
  intro w s₀ s₁ mg mb G Y fa o pm cd doc dV kV ho hd hcd hD hmg hg args vals as hpre hlay hrd hwl hlo
  obtain rfl : dV = .none := Dflts.none hD hdf
  obtain rfl : kV = .none := Dflts.noKw hD
  obtain ⟨a, vs, ns, rfl, rfl, hobj, hints, hlen⟩ := script_of hn hpre hwl
  refine enter_call (codeAny_mono (call w s₀ s₁ mg mb fa o pm cd doc a vs ns G Y ho (fd_plain hd) hcd hmg hobj hints hlen hg) fun r s' hq => ?_)
  obtain ⟨rfl, h2, h3, h4⟩ := hq
  exact ⟨.inl ⟨.bool true, .bool true, [], rfl, fun _ => rfl, .bool true, post_true l _, fun _ => ⟨List.Pairwise.nil, fun _ hm => (nomatch hm)⟩⟩, h2, h3, h4⟩
section
variable {prog : Program} {w : World} {A : Around} {E : Value → Shared → Prop} {s : Shared} {K : Frag}
end
end Att
namespace L2
open PySem PySem.Spec PyProof.Rows
theorem vals_ints : ∀ {vs : List Value} {ns : List Int}, IntsAre vs ns → Vals (ns.map V.int) vs
  | _, _, .nil => .nil
  | _, _, .cons n t h => .cons ⟨t, rfl⟩ (vals_ints h)
end L2
namespace L2
open PySem PySem.Spec PyProof.Rows
end L2
namespace L2
open PySem PySem.Spec PyProof.Rows
def defArgs (s : Stmt) : Arguments := match s with
  | .FunctionDef _ a _ _ _ _ _ _ _ _ => a
  | _ => { posonlyargs := [], args := [], vararg := none, kwonlyargs := [], kw_defaults := [], kwarg := none, defaults := [] }
def defBody (s : Stmt) : List Stmt := match s with
  | .FunctionDef _ _ b _ _ _ _ _ _ _ => b
  | _ => []
def defScope (s : Stmt) : Scope := match s with
  | .FunctionDef _ _ _ _ _ _ sc _ _ _ => sc
  | _ => { kind := .function, names := [], isGenerator := false, isCoroutine := false }
abbrev CX0 : CXT := fun _ _ _ _ _ _ => False
abbrev E0 : XK := fun _ _ _ => False
theorem pass0 {X : Cx} : Passes CX0 X E0 := fun _ _ _ _ _ _ _ h => h.elim
structure Fun (K : PySem.W.Frag) (x qual : Str) (st : Stmt) (f : Addr) (fd : FuncData) : Prop where
  ex : ∃ (oc : Value) (od : Option Addr) (kV doc pm : Value) (an : Option Addr) (cdv ct : Value) (osl : Array (Option Value)),
    fd = PySem.W.fnOf x qual (defArgs st) (defBody st) (defScope st) .none kV doc pm an cdv ct ∧ K.lookup f = some ⟨oc, od, .func fd, osl⟩ ∧ PySem.W.codeIn K cdv qual = true
  kp : PySem.W.keepIn K (.ref f) = true
section
variable {P : Program} {w : World} {K : PySem.W.Frag} {mg : Str → Option Value} {base : Heap}
theorem Fun.ok {x qual : Str} {st : Stmt} {f : Addr} {fd : FuncData} {N ps : List Str} {k : Nat} {sp : Sp} (F : Fun K x qual st f fd) (S : FnScope N ps (defScope st)) (len : ∀ vs H Q E, sp vs H Q E → vs.length = ps.length)
    (hbody : ∀ (cdv : Value) (A : Around) (outer : List Env) (s : Shared) (H : Hp) (vs : List V) (Q : VK) (E : XK), Room k (A.deeper (envOfC qual (defScope st) s.heap.objs.size f cdv)) → sp vs H Q E →
      ∃ t, PSs (cxOf CX0 P w K mg base N qual (defScope st) f cdv A outer s H E).nox (defBody st) t ∧ t { nx := fun _ H' => Q .non H', rt := Q } (start N vs) H) : FnOk P w K mg base CX0 (k + 1) f fd ps sp := by
  obtain ⟨oc, od, kV, doc, pm, an, cdv, ct, osl, rfl, lk, hcd⟩ := F.ex
  refine fn_of lk hcd S len fun A outer s H vs Q E hr hsp => ?_
  obtain ⟨t, h, q⟩ := hbody cdv A outer s H vs Q E hr hsp
  exact ⟨t, h.nox, q⟩
theorem Fun.binds {x qual : Str} {st : Stmt} {f : Addr} {fd : FuncData} {ps : List Str} (F : Fun K x qual st f fd)
    (h : ∀ (kV doc pm : Value) (an : Option Addr) (cdv ct : Value) (us : List Value), us.length = ps.length → bindArgs (PySem.W.fnOf x qual (defArgs st) (defBody st) (defScope st) .none kV doc pm an cdv ct) ⟨us, []⟩ = pure (ps.zip us)) : Binds K fd ps [] := by
  obtain ⟨oc, od, kV, doc, pm, an, cdv, ct, osl, rfl, lk, hcd⟩ := F.ex
  exact .all (h kV doc pm an cdv ct)
theorem fun_mk {x qual : Str} {st : Stmt} {f : Addr} {oc : Value} {od an : Option Addr} {osl : Array (Option Value)} {kV doc pm cdv ct : Value} (l : K.lookup f = some ⟨oc, od, .func (PySem.W.fnOf x qual (defArgs st) (defBody st) (defScope st) .none kV doc pm an cdv ct), osl⟩)
    (c : PySem.W.codeIn K cdv qual = true) (k : PySem.W.keepIn K (.ref f) = true) : Fun K x qual st f (PySem.W.fnOf x qual (defArgs st) (defBody st) (defScope st) .none kV doc pm an cdv ct) := ⟨⟨oc, od, kV, doc, pm, an, cdv, ct, osl, rfl, l, c⟩, k⟩
end
section
variable {X : Cx}
theorem pv (i : Nat) {x : Str} {pos : Pos} (hN : X.N[i]? = some x := by rfl) (hv : Vis X.env.scope x := by first | exact Or.inl rfl | exact Or.inr (Or.inl rfl) | exact Or.inr (Or.inr rfl)) (hd : (x == ("__debug__" : Str)) = false := by decide)
    (hcd : (x == ("__classdict__" : Str)) = false := by decide) : PE X (.Name x pos) (tVar i) := pe_var hN hv hd hcd
theorem call_lenD : CallR X (.builtin "len") (fun xs H Q => ∃ a kvs, xs = [V.ref a] ∧ H a = some (.dK kvs) ∧ Q (.int kvs.length) H) := by
  intro pins s σ H xs us Q I r h
  obtain ⟨a, kvs, rfl, ha, q⟩ := h
  obtain ⟨u, rfl, ru⟩ := vals1 r
  cases ru
  exact d_len I (.inl ha) fun t s' I' => ⟨.int kvs.length, H, I', ⟨t, rfl⟩, q⟩
end
theorem iteF {A B : Prop} (h : B) : if false = true then A else B := by
  rw [if_neg Bool.false_ne_true]
  exact h
theorem ite2 {c A B : Prop} [Decidable c] (h1 : c → A) (h2 : ¬ c → B) : if c then A else B := by
  by_cases h : c
  · rw [if_pos h]
    exact h1 h
  · rw [if_neg h]
    exact h2 h
def Same (H H' : Hp) : Prop := ∀ b o, H b = some o → H' b = some o
theorem Same.refl (H : Hp) : Same H H := fun _ _ h => h
theorem Same.trans {H H1 H2 : Hp} (a : Same H H1) (b : Same H1 H2) : Same H H2 := fun c o h => b c o (a c o h)
theorem Same.free {H H' : Hp} (e : Same H H') {l : Addr} (h : H' l = Option.none) : H l = Option.none := by
  cases q : H l with
  | none => rfl
  | some o =>
    rw [e l o q] at h
    cases h
theorem Same.seq {K : PySem.W.Frag} {H H' : Hp} {a : Addr} {xs : List V} (e : Same H H') (h : SqL K H a xs) : SqL K H' a xs := by
  rcases h with (h | ⟨o, h⟩) | h
  · exact .inl (.inl (e _ _ h))
  · exact .inl (.inr ⟨o, e _ _ h⟩)
  · exact .inr h
section
variable {κ : Type} [DecidableEq κ]
end
theorem at_of {xs : List V} {z : Int} {j : Nat} {v : V} (e : z = (j : Int)) (h : xs[j]? = some v) : atI xs z = some v := by
  rw [e]
  exact atI_nat h
theorem Same.made {H H1 : Hp} {x dx C : Addr} (nx : H x = Option.none) (nd : H dx = Option.none) (k : ∀ b o, (upd (upd H dx (.own x)) x (.ins C dx [])) b = some o → b ≠ x → H1 b = some o) : Same H H1 := fun b o e =>
  k b o (by rw [upd_ne (ne_of_none e nx), upd_ne (ne_of_none e nd)]; exact e) (ne_of_none e nx)
end L2
set_option Elab.async false
set_option linter.all false
set_option maxRecDepth 100000
set_option maxHeartbeats 4000000
namespace N1
open PySem PySem.Spec PyProof.Rows L2
abbrev S (l : List Nat) : Str := ⟨l.toArray⟩
abbrev Lc (z : Str) : List Nat := z.cps.toList
theorem S_Lc (z : Str) : S (Lc z) = z := by cases z; rfl
theorem len_Lc (z : Str) : z.length = (Lc z).length := by simp [Str.length]
theorem len_S (l : List Nat) : (S l).length = l.length := by simp [Str.length]
theorem app_S (a b : Str) : a ++ b = S (Lc a ++ Lc b) := by
  cases a; cases b
  show Str.append _ _ = _
  simp [Str.append]
theorem S_inj {a b : List Nat} (h : S a = S b) : a = b := by
  have := congrArg Lc h
  simpa using this
section
variable {X : Cx}
def tVarC (i : Nat) : TE := fun σ H Q => match σ[i]? with | some (some v) => Q v H | _ => False
theorem tVar_of {i : Nat} {σ : L2.St} {H : Hp} {Q : VK} (h : tVarC i σ H Q) : tVar i σ H Q := by
  unfold tVarC at h
  split at h
  · rename_i v e
    exact ⟨v, e, h⟩
  · exact h.elim
theorem PE.imp {e : Expr} {t u : TE} (h : PE X e t) (k : ∀ σ H Q, u σ H Q → t σ H Q) : PE X e u := fun pins s σ H Q I q => h pins s σ H Q I (k σ H Q q)
theorem PT.imp {e : Expr} {t u : TT} (h : PT X e t) (k : ∀ σ H Q, u σ H Q → t σ H Q) : PT X e u := fun pins s σ H Q I q => h pins s σ H Q I (k σ H Q q)
theorem OpR.imp {f : Value → Value → Sem Value} {r r' : R2} (h : OpR X f r) (k : ∀ x y H Q, r' x y H Q → r x y H Q) : OpR X f r' := fun pins s σ H x y v u Q I rx ry q => h pins s σ H x y v u Q I rx ry (k x y H Q q)
theorem OpR.or {f : Value → Value → Sem Value} {r r' : R2} (h : OpR X f r) (h' : OpR X f r') : OpR X f (fun x y H Q => r x y H Q ∨ r' x y H Q) := fun pins s σ H x y v u Q I rx ry q =>
  q.elim (h pins s σ H x y v u Q I rx ry) (h' pins s σ H x y v u Q I rx ry)
theorem IxR.imp {r r' : R2} (h : IxR X r) (k : ∀ x y H Q, r' x y H Q → r x y H Q) : IxR X r' := fun value slice pins s σ H x y v u Q I rx ry q hs => h value slice pins s σ H x y v u Q I rx ry (k x y H Q q) hs
theorem CallR.imp {f : Value} {r r' : List V → Hp → VK → Prop} (h : CallR X f r) (k : ∀ xs H Q, r' xs H Q → r xs H Q) : CallR X f r' := fun pins s σ H xs us Q I rv q => h pins s σ H xs us Q I rv (k xs H Q q)
theorem pn (i : Nat) {x : Str} {pos : Pos} (hN : X.N[i]? = some x := by rfl) (hv : Vis X.env.scope x := by first | exact Or.inl rfl | exact Or.inr (Or.inl rfl) | exact Or.inr (Or.inr rfl)) (hd : (x == ("__debug__" : Str)) = false := by decide)
    (hcd : (x == ("__classdict__" : Str)) = false := by decide) : PE X (.Name x pos) (tVarC i) := PE.imp (pe_var hN hv hd hcd) fun _ _ _ => tVar_of
def CMulW (i j : Int) : Prop := IntMulOk i j
theorem op_mulW : OpR X (binaryOp .Mult) (rI CMulW fun i j => .int (i * j)) := opI fun _ _ _ _ _ _ _ hc q => mul_int q hc
theorem mulW_of {i j : Int} (h : CMul i j) : CMulW i j := h.ok
theorem mulW_l {i j : Int} (h1 : -(2 ^ 64) < i) (h2 : i < 2 ^ 64) : CMulW i j := mulW_of (.inl ⟨h1, h2⟩)
theorem mulW_r {i j : Int} (h1 : -(2 ^ 64) < j) (h2 : j < 2 ^ 64) : CMulW i j := mulW_of (.inr ⟨h1, h2⟩)
def repL (k : Nat) (l : List Nat) : List Nat := (List.replicate k l).flatten
theorem fold_rep (z : Str) : ∀ (k : Nat) (acc : Array Nat), ((List.replicate k z.cps).foldl (· ++ ·) acc) = (acc.toList ++ repL k (Lc z)).toArray
  | 0, acc => by simp [repL]
  | k + 1, acc => by
    rw [List.replicate_succ, List.foldl_cons, fold_rep z k]
    simp [repL, List.replicate_succ]
theorem op_repS : OpR X (binaryOp .Mult) (fun x y H Q => ∃ z k, x = .str z ∧ y = .int k ∧ k < 1000000 ∧ -1000000 < k ∧ (Lc z).length * k.toNat ≤ 1000000 ∧ Q (.str (S (repL k.toNat (Lc z)))) H) := by
  intro pins s σ H x y v u Q I rx ry h
  obtain ⟨z, k, rfl, rfl, h1, h2, h3, q⟩ := h
  obtain ⟨t, rfl⟩ := rx
  obtain ⟨t', rfl⟩ := ry
  have hl : z.length = (Lc z).length := len_Lc z
  refine PySem.P.mul_str (by
      have e1 : decide (k < -(2 ^ 63 : Int)) = false := decide_eq_false (by omega)
      have e2 : decide (k ≥ 2 ^ 63) = false := decide_eq_false (by omega)
      rw [e1, e2]; rfl) (fun n1 n2 => ?_) (fun n1 n2 => ?_) ?_
  · have hz : (z.length : Int) ≤ 1000000 := by
      have h4 : (Lc z).length * 1 ≤ (Lc z).length * k.toNat := Nat.mul_le_mul_left _ (by omega)
      rw [hl]
      omega
    have hk : 0 < k := by omega
    intro hgt
    have h5 := (Int.ediv_lt_iff_lt_mul hk).mp hgt
    have h6 : ((z.length * k.toNat : Nat) : Int) ≤ 1000000 := by rw [hl]; exact Int.ofNat_le.mpr h3
    have h7 : ((z.length * k.toNat : Nat) : Int) = (z.length : Int) * k := by
      rw [Int.natCast_mul, Int.toNat_of_nonneg (by omega)]
    rw [h7] at h6
    have h8 : (2 ^ 63 - 1 : Int) < (z.length : Int) * k := h5
    have h9 : (1000000 : Int) < 2 ^ 63 - 1 := by decide
    omega
  · unfold Builtin.Str.tooLong sizeLine
    have e : (2 : Nat) ^ 24 = 16777216 := by decide
    exact decide_eq_false (by rw [hl]; omega)
  · by_cases n1 : k < 1
    · rw [if_pos n1]
      have e0 : k.toNat = 0 := by omega
      rw [e0] at q
      exact ⟨by decide, .str _, H, I.tok _, ⟨_, rfl⟩, q⟩
    · rw [if_neg n1]
      by_cases n2 : (k == 1 || z.length == 0) = true
      · rw [if_pos n2]
        have e : S (repL k.toNat (Lc z)) = z := by
          rcases Bool.or_eq_true_iff.mp n2 with c | c
          · have : k = 1 := by simpa using c
            subst this
            show S (repL 1 (Lc z)) = z
            simp only [repL, List.replicate_one, List.flatten_singleton]
            all_goals exact S_Lc z
          · have e0 : Lc z = [] := by
              have : (Lc z).length = 0 := by rw [← hl]; simpa using c
              exact List.length_eq_zero_iff.mp this
            have e1 : repL k.toNat ([] : List Nat) = [] := by
              unfold repL
              induction k.toNat with
              | zero => rfl
              | succ n ih => rw [List.replicate_succ, List.flatten_cons, ih]; rfl
            rw [e0, e1, ← e0]
            all_goals exact S_Lc z
        rw [e] at q
        exact ⟨.str z, H, I, ⟨_, rfl⟩, q⟩
      · rw [if_neg n2]
        have e : (⟨(List.replicate k.toNat z.cps).foldl (· ++ ·) #[]⟩ : Str) = S (repL k.toNat (Lc z)) := by
          rw [fold_rep]; rfl
        rw [e]
        refine ⟨?_, .str _, H, I.tok _, ⟨_, rfl⟩, q⟩
        rw [len_S]
        have : (repL k.toNat (Lc z)).length = k.toNat * (Lc z).length := L2.len_rep _ _
        rw [this, Nat.mul_comm]
        have : sizeLine = 16777216 := sizeLine_eq
        omega
end
end N1
set_option Elab.async false
set_option linter.all false
set_option maxRecDepth 100000
set_option maxHeartbeats 4000000
namespace N1
open PySem PySem.Spec PyProof.Rows L2
section
variable {X : Cx}
def rAddC (K : PySem.W.Frag) : R2 := fun x y H Q => match x, y with
  | .int i, .int j => Q (.int (i + j)) H
  | .str a, .str b => (Lc a).length + (Lc b).length ≤ 1000000 ∧ Q (.str (S (Lc a ++ Lc b))) H
  | .ref p, .ref q => rCat (.ref p) (.ref q) H Q ∨ rCatT K (.ref p) (.ref q) H Q
  | _, _ => False
theorem mil {n : Nat} (h : n ≤ 1000000) : n ≤ sizeLine := Nat.le_trans h (by decide)
theorem opAdd : OpR X (binaryOp .Add) (rAddC X.K) := by
  intro pins s σ H x y v u Q I rx ry h
  unfold rAddC at h
  split at h
  · exact op_add pins s σ H _ _ v u Q I rx ry ⟨_, _, rfl, rfl, h⟩
  · rename_i a b
    refine op_add_str pins s σ H _ _ v u Q I rx ry ⟨_, _, rfl, rfl, ?_, ?_⟩
    · rw [len_Lc, len_Lc]; exact mil h.1
    · rw [app_S]; exact h.2
  · rcases h with h | h
    · exact op_cat pins s σ H _ _ v u Q I rx ry h
    · exact op_catT pins s σ H _ _ v u Q I rx ry h
  · exact h.elim
def rMulC : R2 := fun x y H Q => match x, y with
  | .int i, .int j => CMulW i j ∧ Q (.int (i * j)) H
  | .str z, .int k => (k < 1000000 ∧ -1000000 < k ∧ (Lc z).length * k.toNat ≤ 1000000) ∧ Q (.str (S (repL k.toNat (Lc z)))) H
  | .ref p, .int k => ∃ xs, H p = some (.lst xs) ∧ (k < 1000000 ∧ -1000000 < k ∧ xs.length * k.toNat ≤ 1000000) ∧ ∀ q, H q = none → Q (.ref q) (upd H q (.lst (List.replicate k.toNat xs).flatten))
  | _, _ => False
theorem opMul : OpR X (binaryOp .Mult) rMulC := by
  intro pins s σ H x y v u Q I rx ry h
  unfold rMulC at h
  split at h
  · exact op_mulW pins s σ H _ _ v u Q I rx ry ⟨_, _, rfl, rfl, h.1, h.2⟩
  · exact op_repS pins s σ H _ _ v u Q I rx ry ⟨_, _, rfl, rfl, h.1.1, h.1.2.1, h.1.2.2, h.2⟩
  · obtain ⟨xs, h1, h2, h3⟩ := h
    exact op_rep pins s σ H _ _ v u Q I rx ry ⟨_, _, xs, rfl, rfl, h1, by omega, by omega, mil h2.2.2, h3⟩
  · exact h.elim
def rI2 (C : Int → Int → Prop) (g : Int → Int → V) : R2 := fun x y H Q => match x, y with
  | .int i, .int j => C i j ∧ Q (g i j) H
  | _, _ => False
theorem opI2 {f : Value → Value → Sem Value} {C : Int → Int → Prop} {g : Int → Int → V} (h : OpR X f (rI C g)) : OpR X f (rI2 C g) := OpR.imp h fun x y H Q q => by
  unfold rI2 at q
  split at q
  · exact ⟨_, _, rfl, rfl, q.1, q.2⟩
  · exact q.elim
def rI3 (g : Int → Int → V) : R2 := fun x y H Q => match x, y with
  | .int i, .int j => Q (g i j) H
  | _, _ => False
theorem opI3 {f : Value → Value → Sem Value} {g : Int → Int → V} (h : OpR X f (rI0 g)) : OpR X f (rI3 g) := OpR.imp h fun x y H Q q => by
  unfold rI3 at q
  split at q
  · exact ⟨_, _, rfl, rfl, q⟩
  · exact q.elim
theorem opSub : OpR X (binaryOp .Sub) (rI3 fun i j => .int (i - j)) := opI3 op_sub
theorem opMod : OpR X (binaryOp .Mod) (rI2 (fun _ j => 0 < j) fun i j => .int (i % j)) := opI2 op_mod
theorem opFdiv : OpR X (binaryOp .FloorDiv) (rI2 CDiv fun i j => .int (i / j)) := opI2 op_fdiv
theorem opPow : OpR X (binaryOp .Pow) (rI2 CPow fun i j => .int (i ^ j.toNat)) := opI2 op_pow
theorem opLt : OpR X (compareOp .Lt) (rI3 fun i j => .bl (decide (i < j))) := opI3 op_lt
theorem opLe : OpR X (compareOp .LtE) (rI3 fun i j => .bl (decide (i ≤ j))) := opI3 op_le
theorem opGt : OpR X (compareOp .Gt) (rI3 fun i j => .bl (decide (j < i))) := opI3 op_gt
theorem opGe : OpR X (compareOp .GtE) (rI3 fun i j => .bl (decide (j ≤ i))) := opI3 op_ge
def unI (g : Int → V) : V → Hp → VK → Prop := fun x H Q => match x with
  | .int i => Q (g i) H
  | _ => False
theorem unNeg : UnR X (unaryOp .USub) (unI fun i => .int (-i)) := fun pins s σ H x v Q I rx q => by
  unfold unI at q
  split at q
  · exact un_neg pins s σ H _ v Q I rx ⟨_, rfl, q⟩
  · exact q.elim
def rEqC (K : PySem.W.Frag) (n : Bool) : R2 := fun x y H Q => match x, y with
  | .int i, .int j => Q (.bl (n != decide (i = j))) H
  | .str a, .str b => Q (.bl (n != decide (Lc a = Lc b))) H
  | .bl a, .bl b => Q (.bl (n != decide (a = b))) H
  | .str _, .non => Q (.bl (n != false)) H
  | .int _, .non => Q (.bl (n != false)) H
  | .non, .non => Q (.bl (n != true)) H
  | .non, .int _ => Q (.bl (n != false)) H
  | .non, .str _ => Q (.bl (n != false)) H
  | .int _, .str _ => Q (.bl (n != false)) H
  | .str _, .int _ => Q (.bl (n != false)) H
  | .ref p, .ref q => ∃ d e, Dp K H (.ref p) d ∧ Dp K H (.ref q) e ∧ SeqAt.shaped d = true ∧ SeqAt.shaped e = true ∧ Q (.bl (n != PyData.eqv d e)) H
  | _, _ => False
theorem str_eq_iff {a b : Str} : (V.str a = V.str b) ↔ Lc a = Lc b := by
  constructor
  · intro h; injection h with h; rw [h]
  · intro h; rw [← S_Lc a, ← S_Lc b, h]
theorem opEq (hu : X.A.units + 64 < cLine) : OpR X (compareOp .Eq) (rEqC X.K false) := by
  intro pins s σ H x y v u Q I rx ry h
  unfold rEqC at h
  split at h
  · exact op_eq pins s σ H _ _ v u Q I rx ry ⟨rfl, by simpa using h⟩
  · refine op_eq pins s σ H _ _ v u Q I rx ry ⟨rfl, ?_⟩
    simp only [str_eq_iff]
    simpa using h
  · exact op_eq pins s σ H _ _ v u Q I rx ry ⟨rfl, by simpa using h⟩
  · exact op_eq pins s σ H _ _ v u Q I rx ry ⟨rfl, by simpa using h⟩
  · exact op_eq pins s σ H _ _ v u Q I rx ry ⟨rfl, by simpa using h⟩
  · exact op_eq pins s σ H _ _ v u Q I rx ry ⟨rfl, by simpa using h⟩
  · exact op_eq pins s σ H _ _ v u Q I rx ry ⟨rfl, by simpa using h⟩
  · exact op_eq pins s σ H _ _ v u Q I rx ry ⟨rfl, by simpa using h⟩
  · exact op_eq pins s σ H _ _ v u Q I rx ry ⟨rfl, by simpa using h⟩
  · exact op_eq pins s σ H _ _ v u Q I rx ry ⟨rfl, by simpa using h⟩
  · obtain ⟨d, e, h1, h2, h3, h4, h5⟩ := h
    exact op_eqD hu pins s σ H _ _ v u Q I rx ry ⟨d, e, h1, h2, h3, h4, by simpa using h5⟩
  · exact h.elim
theorem opNe (hu : X.A.units + 64 < cLine) : OpR X (compareOp .NotEq) (rEqC X.K true) := by
  intro pins s σ H x y v u Q I rx ry h
  unfold rEqC at h
  split at h
  · exact op_ne pins s σ H _ _ v u Q I rx ry ⟨rfl, by simpa using h⟩
  · refine op_ne pins s σ H _ _ v u Q I rx ry ⟨rfl, ?_⟩
    simp only [str_eq_iff]
    simpa using h
  · exact op_ne pins s σ H _ _ v u Q I rx ry ⟨rfl, by simpa using h⟩
  · exact op_ne pins s σ H _ _ v u Q I rx ry ⟨rfl, by simpa using h⟩
  · exact op_ne pins s σ H _ _ v u Q I rx ry ⟨rfl, by simpa using h⟩
  · exact op_ne pins s σ H _ _ v u Q I rx ry ⟨rfl, by simpa using h⟩
  · exact op_ne pins s σ H _ _ v u Q I rx ry ⟨rfl, by simpa using h⟩
  · exact op_ne pins s σ H _ _ v u Q I rx ry ⟨rfl, by simpa using h⟩
  · exact op_ne pins s σ H _ _ v u Q I rx ry ⟨rfl, by simpa using h⟩
  · exact op_ne pins s σ H _ _ v u Q I rx ry ⟨rfl, by simpa using h⟩
  · obtain ⟨d, e, h1, h2, h3, h4, h5⟩ := h
    exact op_neD hu pins s σ H _ _ v u Q I rx ry ⟨d, e, h1, h2, h3, h4, by simpa using h5⟩
  · exact h.elim
def rInC (n : Bool) : R2 := fun x y H Q => match x, y with
  | .str ⟨⟨[c]⟩⟩, .str z => Q (.bl (n != decide (c ∈ Lc z))) H
  | _, _ => False
theorem opIn : OpR X (compareOp .In) (rInC false) := OpR.imp op_in_sign fun x y H Q q => by
  unfold rInC at q
  split at q
  · exact ⟨_, _, rfl, rfl, by simpa using q⟩
  · exact q.elim
def isNon : V → Bool
  | .non => true
  | _ => false
theorem isNon_dec (x : V) : decide (x = .non) = isNon x := by cases x <;> simp [isNon]
def rIsC (n : Bool) : R2 := fun x y H Q => match y with
  | .non => Q (.bl (n != isNon x)) H
  | _ => False
theorem opIsNot : OpR X (compareOp .IsNot) (rIsC true) := OpR.imp op_notN fun x y H Q q => by
  unfold rIsC at q
  split at q
  · exact ⟨rfl, by rw [isNon_dec]; simpa using q⟩
  · exact q.elim
def rIxC (K : PySem.W.Frag) : R2 := fun x y H Q => match x, y with
  | .str z, .int i => (Lc z).length ≤ 1000000 ∧ ∃ c, atI (Lc z) i = some c ∧ Q (.str (S [c])) H
  | .ref p, .int i => ∃ xs v, (SqL K H p xs ∨ SqT K H p xs) ∧ atI xs i = some v ∧ Q v H
  | _, _ => False
theorem ixC : IxR X (rIxC X.K) := IxR.imp ix_seq fun x y H Q q => by
  unfold rIxC at q
  split at q
  · obtain ⟨h, c, h1, h2⟩ := q
    exact .inr (.inr ⟨_, _, c, rfl, rfl, by rw [len_Lc]; exact mil h, h1, h2⟩)
  · obtain ⟨xs, v, h | h, h1, h2⟩ := q
    · exact .inl ⟨_, xs, _, v, rfl, rfl, h, h1, h2⟩
    · exact .inr (.inl ⟨_, xs, _, v, rfl, rfl, h, h1, h2⟩)
  · exact q.elim
def cutA {α : Type} (l : List α) (lo hi : Option Int) : List α := (l.drop (HT.sIx l.length 0 lo)).take (HT.sIx l.length l.length hi - HT.sIx l.length 0 lo)
theorem cutA_length {α : Type} (xs : List α) (lo hi : Option Int) : (cutA xs lo hi).length ≤ xs.length := by
  unfold cutA
  rw [List.length_take, List.length_drop]
  omega
theorem cutA_mem {α : Type} {xs : List α} {lo hi : Option Int} {x : α} (h : x ∈ cutA xs lo hi) : x ∈ xs := List.mem_of_mem_drop (List.mem_of_mem_take h)
def rSlC (K : PySem.W.Frag) : V → Option Int → Option Int → Hp → VK → Prop := fun x lo hi H Q => match x with
  | .str z => (Lc z).length ≤ 1000000 ∧ Q (.str (S (cutA (Lc z) lo hi))) H
  | .ref p => ∃ xs, SqL K H p xs ∧ ∀ q, H q = none → Q (.ref q) (upd H q (.lst (cutA xs lo hi)))
  | _ => False
theorem slC : SlR X (rSlC X.K) := by
  intro pins s σ H x v vl vu lo hi sl Q I rx hs pl pu q
  unfold rSlC at q
  split at q
  · rename_i z
    refine sl_str pins s σ H _ v vl vu lo hi sl Q I rx hs pl pu ⟨z, rfl, by rw [len_Lc]; exact mil q.1, ?_⟩
    have e : cutS z lo hi = S (cutA (Lc z) lo hi) := by
      unfold cutS cutA
      rw [len_Lc]
    rw [e]; exact q.2
  · obtain ⟨xs, h1, h2⟩ := q
    exact sl_list pins s σ H _ v vl vu lo hi sl Q I rx hs pl pu ⟨_, xs, rfl, h1, h2⟩
  · exact q.elim
def tPartC (t : TE) : TO := fun σ H Q => t σ H fun x H1 => match x with
  | .int i => Q (some i) H1
  | _ => False
end
end N1
set_option Elab.async false
set_option linter.all false
set_option maxRecDepth 100000
set_option maxHeartbeats 4000000
namespace N1
open PySem PySem.Spec PyProof.Rows L2
section
variable {X : Cx} {a b e o : Expr} {ta tb te to : TE} {pos : Pos}
def tTestC (t : TE) : TT := fun σ H Q => t σ H fun x H' => match x with
  | .bl k => Q k H'
  | _ => False
theorem pcmp {op : CmpOp} {r : R2} (ho : OpR X (compareOp op) r) (ha : PE X a ta) (hb : PE X b tb) (hm : behindInMarks op b = false) : PT X (.Compare a [op] [b] pos) (tTestC (tOp r ta tb)) := by
  intro pins s σ H Q I h
  refine wpAny_isTrue_Compare1 (thn (ha pins s σ H _ I h) fun v s1 ⟨x, H1, I1, r1, q1⟩ => thn (hb pins s1 σ H1 _ I1 q1) fun u s2 ⟨y, H2, I2, r2, q2⟩ =>
    thn (ho pins s2 σ H2 x y v u _ I2 r1 r2 q2) fun c s3 ⟨z, H3, I3, r3, q3⟩ => ?_) hm
  dsimp only at q3
  split at q3
  · cases r3
    exact wpAny_truthy_bool ⟨H3, I3, q3⟩
  · exact q3.elim
def tTruC (K : PySem.W.Frag) (t : TE) : TT := fun σ H Q => t σ H fun x H' => match x with
  | .bl k => Q k H'
  | .int i => Q (i != 0) H'
  | .str y => (Lc y).length ≤ 1000000 ∧ Q (((Lc y).length : Int) != 0) H'
  | .non => Q false H'
  | .ref p => (∃ xs, (SqL K H' p xs ∨ SqT K H' p xs) ∧ Q (!xs.isEmpty) H') ∨ ∃ kvs, H' p = some (.dK kvs) ∧ Q (!kvs.isEmpty) H'
  | _ => False
theorem ptru (ha : PE X a ta) (he : ∀ whole, isTrue a X.env whole = (do let v ← whole; standAt a.pos; holding [v] (truthy v)) := by intro _; rfl) : PT X a (tTruC X.K ta) := by
  intro pins s σ H Q I h
  refine isTrue_plain (thn (ha pins s σ H _ I h) fun v s1 ⟨x, H1, I1, r1, q1⟩ => ?_) (he _)
  dsimp only at q1
  split at q1
  · exact tru_ok pins s1 σ H1 _ v Q I1 r1 ⟨_, rfl, q1⟩
  · exact tru_ok pins s1 σ H1 _ v Q I1 r1 ⟨_, rfl, q1⟩
  · rename_i y
    exact tru_ok pins s1 σ H1 _ v Q I1 r1 ⟨_, ⟨by rw [len_Lc]; exact mil q1.1, rfl⟩, by rw [len_Lc]; exact q1.2⟩
  · exact tru_ok pins s1 σ H1 _ v Q I1 r1 ⟨_, rfl, q1⟩
  · rcases q1 with ⟨xs, h1 | h1, q⟩ | ⟨kvs, h1, q⟩
    · exact tru_ok pins s1 σ H1 _ v Q I1 r1 ⟨_, .inl ⟨xs, h1, rfl⟩, q⟩
    · exact tru_ok pins s1 σ H1 _ v Q I1 r1 ⟨_, .inr (.inl ⟨xs, h1, rfl⟩), q⟩
    · exact tru_ok pins s1 σ H1 _ v Q I1 r1 ⟨_, .inr (.inr ⟨kvs, h1, rfl⟩), q⟩
  · exact q1.elim
def tAndC (ta tb : TE) : TE := fun σ H Q => ta σ H fun x H1 => match x with
  | .bl c => if c = true then tb σ H1 Q else Q (.bl false) H1
  | _ => False
def tOrC (ta tb : TE) : TE := fun σ H Q => ta σ H fun x H1 => match x with
  | .bl c => if c = true then Q (.bl true) H1 else tb σ H1 Q
  | _ => False
def tNotC (ta : TE) : TE := fun σ H Q => ta σ H fun x H1 => match x with
  | .bl c => Q (.bl (!c)) H1
  | _ => False
theorem pand {rest : List Expr} (ha : PE X a ta) (hr : PE X (.BoolOp .And (b :: rest) pos) tb) : PE X (.BoolOp .And (a :: b :: rest) pos) (tAndC ta tb) := by
  intro pins s σ H Q I h
  refine BoolOp_and (thn (ha pins s σ H _ I h) fun v s1 ⟨x, H1, I1, r1, q1⟩ => ?_)
  dsimp only at q1
  split at q1
  · rename_i c
    cases r1
    refine wpAny_truthy_bool ?_
    cases c with
    | true => exact hr pins s1 σ H1 Q I1 q1
    | false => exact ⟨.bl false, H1, I1, rfl, q1⟩
  · exact q1.elim
theorem por {rest : List Expr} (ha : PE X a ta) (hr : PE X (.BoolOp .Or (b :: rest) pos) tb) : PE X (.BoolOp .Or (a :: b :: rest) pos) (tOrC ta tb) := by
  intro pins s σ H Q I h
  refine BoolOp_or (thn (ha pins s σ H _ I h) fun v s1 ⟨x, H1, I1, r1, q1⟩ => ?_)
  dsimp only at q1
  split at q1
  · rename_i c
    cases r1
    refine wpAny_truthy_bool ?_
    cases c with
    | false => exact hr pins s1 σ H1 Q I1 q1
    | true => exact ⟨.bl true, H1, I1, rfl, q1⟩
  · exact q1.elim
theorem pnot (ha : PE X a ta) : PE X (.UnaryOp .Not a pos) (tNotC ta) := by
  intro pins s σ H Q I h
  refine UnaryOp_ (thn (ha pins s σ H _ I h) fun v s1 ⟨x, H1, I1, r1, q1⟩ => ?_)
  dsimp only at q1
  split at q1
  · rename_i c
    cases r1
    exact not_of (wpAny_truthy_bool ⟨.bl (!c), H1, I1, rfl, q1⟩)
  · exact q1.elim
theorem poC (h : PE X e te) : PO X (some e) (tPartC te) := by
  intro pins s σ H Q I hw
  rw [evalPart_some]
  refine thn (h pins s σ H _ I hw) fun u s1 ⟨x, H1, I1, r1, q1⟩ => ?_
  dsimp only at q1
  split at q1
  · obtain ⟨t, rfl⟩ := r1
    exact ⟨some _, H1, I1, .int _ t, q1⟩
  · exact q1.elim
def rLenC (K : PySem.W.Frag) : List V → Hp → VK → Prop := fun xs H Q => match xs with
  | [.str z] => (Lc z).length ≤ 1000000 ∧ Q (.int (Lc z).length) H
  | [.ref p] => (∃ ys, (SqL K H p ys ∨ SqT K H p ys) ∧ Q (.int ys.length) H) ∨ ∃ kvs, H p = some (.dK kvs) ∧ Q (.int kvs.length) H
  | _ => False
theorem cLen : CallR X (.builtin "len") (rLenC X.K) := by
  intro pins s σ H xs us Q I r h
  unfold rLenC at h
  split at h
  · exact call_len_str pins s σ H _ us Q I r ⟨_, rfl, by rw [len_Lc]; exact mil h.1, by rw [len_Lc]; exact h.2⟩
  · rcases h with ⟨ys, h1, h2⟩ | ⟨kvs, h1, h2⟩
    · exact call_len_seq pins s σ H _ us Q I r ⟨_, ys, rfl, h1, h2⟩
    · exact call_lenD pins s σ H _ us Q I r ⟨_, kvs, rfl, h1, h2⟩
  · exact h.elim
def rInt1 : List V → Hp → VK → Prop := fun xs H Q => match xs with
  | [.int i] => Q (.int i) H
  | [.bl k] => Q (.int (if k then 1 else 0)) H
  | _ => False
theorem cInt : CallR X (.type "int") rInt1 := CallR.imp call_int1 fun xs H Q h => by
  unfold rInt1 at h
  split at h
  · exact .inl ⟨_, rfl, h⟩
  · exact .inr ⟨_, rfl, h⟩
  · exact h.elim
abbrev sg (c : Nat) : V := .str (S [c])
def rIsi (K : PySem.W.Frag) : List V → Hp → VK → Prop := fun xs H Q => match xs with
  | [x, .ty T] => ∃ t b, TyOf K H x t ∧ PySem.W.kitOne K t (.type T) = some b ∧ Q (.bl b) H
  | _ => False
theorem cIsi : CallR X (.builtin "isinstance") (rIsi X.K) := by
  intro pins s σ H xs us Q I r h
  unfold rIsi at h
  split at h
  · obtain ⟨t, b, h1, h2, h3⟩ := h
    obtain ⟨u, w', rfl, r1, r2⟩ := vals2 r
    cases (show w' = Value.type _ from r2)
    exact isinst_ok I r1 h1 h2 fun tk => ⟨.bl b, H, I.tok tk, rfl, h3⟩
  · exact h.elim
theorem ptype {x : Str} {T : String} (hg : Gl X x) (hm : X.mg x = none) (hv : bootBuiltins x = some (.type T)) (hn : x ≠ "__name__" := by decide) (hd : (x == ("__debug__" : Str)) = false := by decide) : PE X (.Name x pos) (tC (.ty T)) :=
  pe_bltn hg hm hv rfl hn hd
theorem sml {n : Nat} (h : n < 1000000) : n < sizeLine := Nat.lt_of_lt_of_le h (by decide)
end
end N1
set_option Elab.async false
set_option linter.all false
set_option maxRecDepth 100000
set_option maxHeartbeats 4000000
namespace N1
open PySem PySem.Spec PyProof.Rows L2
section
variable {X : Cx} {a b e o : Expr} {ta tb te to : TE} {pos apos cpos : Pos}
def tL1 (r : Addr → List V → V → Hp → VK → Prop) (to te : TE) : TE := fun σ H Q => to σ H fun x H1 => match x with
  | .ref l => (∃ xs, H1 l = some (.lst xs)) ∧ te σ H1 fun y H2 => ∃ xs, H2 l = some (.lst xs) ∧ r l xs y H2 Q
  | _ => False
def tL0 (r : Addr → List V → Hp → VK → Prop) (to : TE) : TE := fun σ H Q => to σ H fun x H1 => match x with
  | .ref l => ∃ xs, H1 l = some (.lst xs) ∧ r l xs H1 Q
  | _ => False
theorem pm1 {id : String} {name : Str} {r : V → List V → Hp → VK → Prop} {r' : Addr → List V → V → Hp → VK → Prop} (slot : Slot "list" name id) (hty : typeOf (.builtin id) = pure (.type "method_descriptor")) (hm : MtR X id r)
    (k : ∀ l xs y H Q, H l = some (.lst xs) → r' l xs y H Q → r (.ref l) [y] H Q) (ho : PE X o to) (he : PE X e te)
    (hbase : attributeBase o name X.env (eval o X.env) = eval o X.env := by rfl)
    (hfew : ((backTo cpos (starEach [e] X.env)).all (fun x => !x.1) && (backToKw cpos (keywordEach [] X.env)).all (fun x => x.1.isSome)
      && decide ([e].length + ([] : List Keyword).length + (if ([] : List Keyword).isEmpty then 0 else 1) < 30)) = true := by rfl)
    (hline : (apos.endLine == cpos.line) = true := by rfl) (hs : starEach [e] X.env = (false, eval e X.env) :: starEach [] X.env := by rfl) :
    PE X (.Call (.Attribute o name apos) [e] [] cpos) (tL1 r' to te) := by
  intro pins s σ H Q I h
  refine wpAny_Call_method_late hbase hfew hline rfl (thn (ho pins s σ H _ I h) fun v s1 ⟨x, H1, I1, r1, q1⟩ => ?_)
  dsimp only at q1
  split at q1
  · rename_i l
    obtain ⟨⟨xs, hl⟩, q1⟩ := q1
    obtain ⟨h1, h2⟩ := tyV_is (T := "list") I1 r1 (.inl ⟨rfl, xs, SqL.of hl⟩)
    refine ⟨"list", id, PySem.F.plainAttrs_list, slot, hty, h1, h2, ?_⟩
    rw [hs]
    refine Calls.callWith_builtin (by rfl) (Calls.evalArgs_plain ?_)
    have hA := pa_cons he (pa_nil (X := X)) hs cpos pins s1 σ H1 (fun vs H2 => match vs with | [y] => ∃ xs, H2 l = some (.lst xs) ∧ r' l xs y H2 Q | _ => False) I1 q1
    rw [hs] at hA
    refine thn hA fun us s2 ⟨vs, H2, I2, r2, q2⟩ => ?_
    dsimp only at q2
    split at q2
    · obtain ⟨xs', hl', q3⟩ := q2
      exact hm pins s2 σ H2 _ _ v us Q I2 r1 r2 (k l xs' _ H2 Q hl' q3)
    · exact q2.elim
  · exact q1.elim
theorem pm0 {id : String} {name : Str} {r : V → List V → Hp → VK → Prop} {r' : Addr → List V → Hp → VK → Prop} (slot : Slot "list" name id) (hty : typeOf (.builtin id) = pure (.type "method_descriptor")) (hm : MtR X id r)
    (k : ∀ l xs H Q, H l = some (.lst xs) → r' l xs H Q → r (.ref l) [] H Q) (ho : PE X o to)
    (hbase : attributeBase o name X.env (eval o X.env) = eval o X.env := by rfl) (hline : (apos.endLine == cpos.line) = true := by rfl) : PE X (.Call (.Attribute o name apos) [] [] cpos) (tL0 r' to) := by
  intro pins s σ H Q I h
  refine wpAny_Call_method0_late hbase hline (thn (ho pins s σ H _ I h) fun v s1 ⟨x, H1, I1, r1, q1⟩ => ?_)
  dsimp only at q1
  split at q1
  · rename_i l
    obtain ⟨xs, hl, q1⟩ := q1
    obtain ⟨h1, h2⟩ := tyV_is (T := "list") I1 r1 (.inl ⟨rfl, xs, SqL.of hl⟩)
    exact ⟨"list", id, PySem.F.plainAttrs_list, slot, hty, h1, h2, Calls.callWith_builtin rfl (PySem.evalArgs_none (hm pins s1 σ H1 _ [] v [] Q I1 r1 .nil (k l xs H1 Q hl q1)))⟩
  · exact q1.elim
def qAppend : Addr → List V → V → Hp → VK → Prop := fun l xs y H Q => xs.length < 1000000 ∧ Q .non (upd H l (.lst (xs ++ [y])))
theorem pappend (ho : PE X o to) (he : PE X e te) (hbase : attributeBase o "append" X.env (eval o X.env) = eval o X.env := by rfl)
    (hfew : ((backTo cpos (starEach [e] X.env)).all (fun x => !x.1) && (backToKw cpos (keywordEach [] X.env)).all (fun x => x.1.isSome)
      && decide ([e].length + ([] : List Keyword).length + (if ([] : List Keyword).isEmpty then 0 else 1) < 30)) = true := by rfl)
    (hline : (apos.endLine == cpos.line) = true := by rfl) (hs : starEach [e] X.env = (false, eval e X.env) :: starEach [] X.env := by rfl) :
    PE X (.Call (.Attribute o "append" apos) [e] [] cpos) (tL1 qAppend to te) :=
  pm1 (r := rAppend) PySem.F.slot_list_append PySem.F.type_list_append mt_append (fun l xs y H Q hl q => ⟨l, xs, y, rfl, rfl, hl, sml q.1, q.2⟩) ho he hbase hfew hline hs
def qPop : Addr → List V → Hp → VK → Prop := fun l xs H Q => ∃ ys y, xs = ys ++ [y] ∧ Q y (upd H l (.lst ys))
theorem ppop (ho : PE X o to) (hbase : attributeBase o "pop" X.env (eval o X.env) = eval o X.env := by rfl) (hline : (apos.endLine == cpos.line) = true := by rfl) :
    PE X (.Call (.Attribute o "pop" apos) [] [] cpos) (tL0 qPop to) :=
  pm0 (r := rPop) PySem.F.slot_list_pop PySem.F.type_list_pop mt_pop (fun l xs H Q hl q => by
    obtain ⟨ys, y, rfl, q⟩ := q
    exact ⟨l, _, y, rfl, rfl, hl, by simp, by simpa using q⟩) ho hbase hline
def qClear : Addr → List V → Hp → VK → Prop := fun l _ H Q => Q .non (upd H l (.lst []))
theorem pclear (ho : PE X o to) (hbase : attributeBase o "clear" X.env (eval o X.env) = eval o X.env := by rfl) (hline : (apos.endLine == cpos.line) = true := by rfl) :
    PE X (.Call (.Attribute o "clear" apos) [] [] cpos) (tL0 qClear to) :=
  pm0 (r := rClear) PySem.F.slot_list_clear PySem.F.type_list_clear mt_clear (fun l xs H Q hl q => ⟨l, xs, rfl, rfl, hl, q⟩) ho hbase hline
def tS1 (r : Str → V → Hp → VK → Prop) (to te : TE) : TE := fun σ H Q => to σ H fun x H1 => match x with
  | .str a => te σ H1 fun y H2 => r a y H2 Q
  | _ => False
theorem ps1 {id : String} {name : Str} {r : V → List V → Hp → VK → Prop} {r' : Str → V → Hp → VK → Prop} (slot : Slot "str" name id) (ty : typeOf (.builtin id) = pure (.type "method_descriptor")) (rule : MtR X id r)
    (k : ∀ a y H Q, r' a y H Q → r (.str a) [y] H Q) (ho : PE X o to) (he : PE X e te)
    (hs : starEach [e] X.env = [(false, eval e X.env)] := by rfl) (hbase : attributeBase o name X.env (eval o X.env) = eval o X.env := by rfl) (hline : (apos.endLine == pos.line) = true := by rfl) :
    PE X (.Call (.Attribute o name apos) [e] [] pos) (tS1 r' to te) := by
  intro pins s σ H Q I h
  refine PySem.Call_method1 hbase hs hline (thn (ho pins s σ H _ I h) fun v s1 ⟨x, H1, I1, r1, q1⟩ => ?_)
  dsimp only at q1
  split at q1
  · obtain ⟨t, rfl⟩ := _root_.id r1
    refine ⟨"str", _, F.plainAttrs_str, slot, ty, typeIs_str _ _ _, (fun _ e => nomatch e), Calls.callWith_builtin rfl (Calls.evalArgs_plain (Calls.spliced_cons ?_))⟩
    exact thn (he pins s1 σ H1 _ I1 q1) fun u s2 ⟨y, H2, I2, r2, q2⟩ => Calls.spliced_nil (rule pins s2 σ H2 _ [y] _ [u] Q I2 r1 (.cons r2 .nil) (k _ _ _ _ q2))
  · exact q1.elim
def joinL (g : List Nat) : List (List Nat) → List Nat
  | [] => []
  | [x] => x
  | x :: y :: r => x ++ g ++ joinL g (y :: r)
theorem join_S (a : Str) : ∀ ys : List (List Nat), Txt.join a (ys.map S) = S (joinL (Lc a) ys) := by
  intro ys
  unfold Txt.join
  rw [StrLaws.glued_eq_join]
  induction ys with
  | nil => rfl
  | cons x r ih =>
    cases r with
    | nil => rfl
    | cons y r =>
      show S x ++ a ++ Str.join a ((y :: r).map S) = _
      rw [ih, app_S, app_S]
      rfl
theorem joinL_nil : ∀ ys : List (List Nat), joinL [] ys = ys.flatten
  | [] => rfl
  | [x] => by simp [joinL]
  | x :: y :: r => by
    have ih := joinL_nil (y :: r)
    simp only [joinL, List.flatten_cons, List.append_nil] at ih ⊢
    rw [ih]
def qJoin (K : PySem.W.Frag) : Str → V → Hp → VK → Prop := fun a y H Q => match y with
  | .ref p => ∃ ys : List (List Nat), (SqL K H p (ys.map fun l => V.str (S l)) ∨ SqT K H p (ys.map fun l => V.str (S l))) ∧ ys.flatten.length + ys.length * (Lc a).length ≤ 1000000 ∧ Q (.str (S (joinL (Lc a) ys))) H
  | _ => False
theorem lens_flat : ∀ ys : List (List Nat), ((ys.map S).map (·.length)).sum = ys.flatten.length
  | [] => rfl
  | y :: r => by
    have ih := lens_flat r
    simp only [List.map_cons, List.sum_cons, List.flatten_cons, List.length_append, len_S] at ih ⊢
    rw [ih]
theorem pjoin (ho : PE X o to) (he : PE X e te) (hs : starEach [e] X.env = [(false, eval e X.env)] := by rfl) (hbase : attributeBase o "join" X.env (eval o X.env) = eval o X.env := by rfl) (hline : (apos.endLine == pos.line) = true := by rfl) :
    PE X (.Call (.Attribute o "join" apos) [e] [] pos) (tS1 (qJoin X.K) to te) :=
  ps1 F.slot_str_join F.type_str_join mt_join (fun a y H Q q => by
    unfold qJoin at q
    split at q
    · rename_i p
      obtain ⟨ys, h1, h2, q⟩ := q
      refine ⟨a, p, ys.map S, rfl, rfl, ?_, ?_, ?_⟩
      · rw [List.map_map]; exact h1
      · rw [lens_flat, List.length_map, len_Lc]; omega
      · rw [join_S]; exact q
    · exact q.elim) ho he hs hbase hline
end
end N1
set_option Elab.async false
set_option linter.all false
set_option maxRecDepth 100000
set_option maxHeartbeats 4000000
namespace N1
open PySem PySem.Spec PyProof.Rows L2
section
variable {X : Cx} {a b e o : Expr} {ta tb te to : TE} {pos apos cpos p2 : Pos}
def tRev (K : PySem.W.Frag) (te : TE) : TE := fun σ H Q => te σ H fun x H1 => match x with
  | .str z => (Lc z).length ≤ 1000000 ∧ Q (.str (S (Lc z).reverse)) H1
  | .ref p => ∃ xs, SqL K H1 p xs ∧ ∀ q, H1 q = none → Q (.ref q) (upd H1 q (.lst xs.reverse))
  | _ => False
theorem vals_rev : ∀ {xs : List V} {us : List Value}, Vals xs us → Vals xs.reverse us.reverse
  | _, _, .nil => .nil
  | _, _, .cons r t => by
    rw [List.reverse_cons, List.reverse_cons]
    exact (vals_rev t).append (.cons r .nil)
theorem prev {j : Nat} {c1 c2 : Pos} (he : PE X e te) : PE X (.Subscript e (.Slice none none (some (.UnaryOp .USub (.Constant (.int 1) j c1) c2)) p2) pos) (tRev X.K te) := by
  intro pins s σ H Q I h
  refine Subscript_ (thn (he pins s σ H _ I h) fun v s1 ⟨x, H1, I1, r1, q1⟩ => ?_)
  refine wpAny_Slice ?_
  rw [evalPart_none]
  refine wpAny_pure (wpAny_pure ?_)
  rw [evalPart_some]
  refine thn (pe_un (r := unI fun i => .int (-i)) unNeg pe_int pins s1 σ H1 (fun w' H' => w' = .int (-1) ∧ H' = H1) I1 ⟨rfl, rfl⟩) fun stv s2 ⟨y, H2, I2, r2, e2, e3⟩ => ?_
  subst e2 e3
  obtain ⟨tk, rfl⟩ := r2
  have I4 : Inv X pins σ H2 { s2 with heap := s2.heap.push { cls := .type "slice", data := .fields #[.none, .none, .int (-1) tk] } } := I2.kept (t' := s2.toks) fun b ob q => Heap.get?_push_of_some _ q
  have hsl : (s2.heap.push { cls := .type "slice", data := .fields #[.none, .none, .int (-1) tk] }).IsSliceOf s2.heap.objs.size .none .none (.int (-1) tk) := Heap.IsSliceOf.new ..
  split at q1
  · rename_i z
    obtain ⟨t, rfl⟩ := r1
    refine tail_any (ops := [.str z t, .ref s2.heap.objs.size]) (typeIs_str _ _ _) F.slot_str_getitem.lookup ?_ (by with_unfolding_all rfl)
    obtain ⟨os, hos, hcs, hds⟩ := hsl
    refine wpAny_getItem_str_slice (l := none) (u := none) (st := some (-1, tk)) ⟨os, hos, hcs, hds⟩ rfl ?_
    have e1 : (⟨((slicePicked z none none (some (-1, tk))).filterMap (z.cps[·]?)).toArray⟩ : Str) = S (Lc z).reverse := by
      show (⟨((Builtin.Str.strSliceIndices none none (-1) z.length).filterMap (z.cps[·]?)).toArray⟩ : Str) = _
      rw [picked_rev]
      have e2 : z.length = z.cps.size := rfl
      rw [e2, PySem.W.krv_range, List.filterMap_reverse, PySem.W.krv_all]
    show Made.post (if ((-1 : Int) == 1 && (slicePicked z none none (some (-1, tk))).length == z.length) = true then Made.val (.str z t) else Made.str ⟨((slicePicked z none none (some (-1, tk))).filterMap (z.cps[·]?)).toArray⟩) (EP X pins σ Q) _
    rw [if_neg (by simp), e1]
    refine ⟨?_, .str _, H2, I4.tok _, ⟨_, rfl⟩, q1.2⟩
    rw [len_S, List.length_reverse]
    exact mil q1.1
  · rename_i p
    obtain ⟨xs, h1, q⟩ := q1
    cases r1
    obtain ⟨its, r, ht, hz⟩ := I4.list h1
    have hlen := r.length
    refine tail_any (ops := [.ref p, .ref s2.heap.objs.size]) ht.isList.typeIs slot_list_getitem.lookup ?_ (by with_unfolding_all rfl)
    refine wpAny_getItem_list_slice ht.isList hsl .none .none (.int (-1) tk) (by decide) ?_ (by rw [List.size_toArray] <;> omega)
    rw [PySem.W.krv_pick]
    refine ⟨.ref _, _, I4.laid (t' := s2.toks) (o := .lst xs.reverse) (fun b ob q => Heap.get?_push_of_some _ q) (Nat.le_refl _) ?_, rfl, q _ (I4.hok.fresh (Nat.le_refl _))⟩
    exact ⟨by rw [List.length_reverse]; exact hz, its.reverse, 0, vals_rev r, Heap.get?_push_size _ rfl⟩
  · exact q1.elim
def Iens (x : Str) : It :=
  ⟨fun i _ => i < x.cps.size, fun i H v H' => ∃ T c, v = .ref T ∧ H T = none ∧ H' = upd H T (.tup [.int (i : Nat), sg c]) ∧ (Lc x)[i]? = some c, fun i _ => x.cps.size ≤ i⟩
theorem turn_enumS {P : Program} {w : World} {K : PySem.W.Frag} {elts : List Expr} {kk : Nat} {tpos : Pos} (x : Str) (t : Tok) (e it : Addr) :
    Turn P w K (.Tuple elts kk tpos) (Iens x) [e, it] e (fun i h => i ≤ x.cps.size ∧ (∃ old, IsEnum h e it ((i : Nat) : Int) old) ∧ h.IsStrIter it (strIterType x) x t i ∧ e ≠ it) where
  mem := by simp
  obj := fun i h st b hb => by
    obtain ⟨_, ⟨old, he⟩, ⟨o, ho, hc, hd⟩, _⟩ := st
    have e' : b = e ∨ b = it := by simpa using hb
    rcases e' with z | z
    · rw [z]; exact ⟨_, he, fun v q => nomatch q⟩
    · rw [z]; exact ⟨o, ho, fun v q => by rw [hd] at q; cases q⟩
  keep := fun i h h' st k => let ⟨hi, ⟨old, he⟩, ⟨o, ho, r⟩, hne⟩ := st; ⟨hi, ⟨old, k e (by simp) _ he⟩, ⟨o, k it (by simp) o ho, r⟩, hne⟩
  item := by
    intro X hP hw hK hc i pins s σ H E I hf st hg
    subst hP hw hK
    obtain ⟨hi, ⟨old, he⟩, hit, hne⟩ := st
    have hel : e < s.heap.objs.size := Heap.lt_size he
    have hil : it < s.heap.objs.size := by obtain ⟨_, q, _⟩ := hit; exact Heap.lt_size q
    have D : Draws X.prog X.w X.A.in1 it [it] x.cps.size (SignAt x) (fun i h => h.IsStrIter it (strIterType x) x t i) := by
      unfold strIterType
      by_cases c : (x.cps.all (· < 128)) = true
      · rw [if_pos c]; exact Draws.strAscii (A := X.A.in1) (I.ok.hd hc) it x t
      · rw [if_neg c]; exact Draws.strWide (A := X.A.in1) (I.ok.hd hc) it x t
    refine wpAny_pyNext_enum_itemD D he hit hg hne (by simpa using hne) fun u h' tk hu ho hit' hT hsz hk => ?_
    obtain ⟨c, t2, hcx, rfl⟩ := hu
    refine ⟨_, rfl, wpAny_letOwnedTupleGo_enum (s := { s with heap := h', toks := tk + 1 }) ho fun h'' he' sb => ?_⟩
    have hT2 : h''.get? s.heap.objs.size = some { cls := .type "tuple", data := .seq #[.int i tk, .str ⟨#[c]⟩ t2] } := (sb.2 _ (Nat.ne_of_gt hel)).trans hT
    have new : ObjOk X.prog X.w (upd H s.heap.objs.size (.tup [.int (i : Nat), sg c])) h'' s.heap.objs.size (.tup [.int (i : Nat), sg c]) :=
      ⟨by show 2 ≤ sizeLine; decide, [.int i tk, .str ⟨#[c]⟩ t2], .cons ⟨_, rfl⟩ (.cons ⟨_, rfl⟩ .nil), ⟨_, hT2, rfl, _, rfl⟩⟩
    have I1 : Inv X pins σ (upd H s.heap.objs.size (.tup [.int (i : Nat), sg c])) { s with heap := h'', toks := tk + 1 } :=
      I.turnedNew (ch := [e, it]) (fun b ob hb q => (sb.2 b (fun z => hb (by simp [z]))).trans (hk b ob (fun z => hb (by simp [z])) (fun z => hb (by simp [z])) q)) hf (Nat.le_refl _) new
    refine ⟨.ref s.heap.objs.size, _, I1, rfl, ⟨_, c, rfl, I.hok.fresh (Nat.le_refl _), rfl, by simpa using hcx⟩, ⟨hg, ⟨.str ⟨#[c]⟩ t2, ?_⟩, ?_, hne⟩, fun b hb => ?_⟩
    · have e1 : ((i + 1 : Nat) : Int) = (i : Int) + 1 := by omega
      rw [e1]; exact he'
    · obtain ⟨o2, ho2, r2⟩ := hit'
      exact ⟨o2, (sb.2 it (Ne.symm hne)).trans ho2, r2⟩
    · have hb' : b < s.heap.objs.size := by
        have e' : b = e ∨ b = it := by simpa using hb
        rcases e' with z | z
        · rw [z]; exact hel
        · rw [z]; exact hil
      rw [upd_ne (Nat.ne_of_lt hb')]
      exact (hf b hb).1
  done := by
    intro X hP hw hK hc i pins s σ H E I hf st hg
    subst hP hw hK
    obtain ⟨hi, ⟨old, he⟩, hit, hne⟩ := st
    have hii : i = x.cps.size := Nat.le_antisymm hi hg
    subst hii
    obtain ⟨f0, f1, f2, f3, f4, f5⟩ := hf it (by simp)
    have D : Draws X.prog X.w X.A.in1 it [it] x.cps.size (SignAt x) (fun i h => h.IsStrIter it (strIterType x) x t i) := by
      unfold strIterType
      by_cases c : (x.cps.all (· < 128)) = true
      · rw [if_pos c]; exact Draws.strAscii (A := X.A.in1) (I.ok.hd hc) it x t
      · rw [if_neg c]; exact Draws.strWide (A := X.A.in1) (I.ok.hd hc) it x t
    exact wpAny_pyNext_enum_endD D he hit fun h' eb => ⟨rfl, I.turned (t' := s.toks) (fun b o hb q => eb b o hb q) f0 f1 f3 f4 f5⟩
  self := fun A i s Q E st h => let ⟨_, ⟨_, he⟩, _⟩ := st; wpAny_pyIter_enum he h
def iEnumS (ta : TA) : TI := fun σ H R => ta σ H fun vs H1 => match vs with
  | [.str x] => R (Iens x) H1
  | _ => False
theorem pi_enumS {ta : TA} {p tpos : Pos} {elts : List Expr} {kk : Nat} (hg : Gl X "enumerate") (hm : X.mg "enumerate" = none) (ha : PA X [e] ta) (hs : starEach [e] X.env = [(false, eval e X.env)] := by rfl) :
    PI X (.Tuple elts kk tpos) (.Call (.Name "enumerate" p) [e] [] pos) (iEnumS ta) := by
  intro pins s σ H R I h
  refine Call_ (ld_blt I hg hm boot_enumerate (PyProof.Rows.callWith_type1 (thn (ha pos pins s σ H _ I h) fun us s1 ⟨vs, H1, I1, r1, q1⟩ => ?_) hs rfl))
  dsimp only at q1
  split at q1
  · rename_i x
    obtain ⟨u, rfl, t, rfl⟩ := vals1 r1
    refine call_enumerate_str fun h' he hit hsz hk => wpAny_pyIter_enum he ?_
    have I2 : Inv X pins σ H1 { s1 with heap := h' } := I1.kept (t' := s1.toks) hk
    refine ⟨s1.heap.objs.size + 1, [s1.heap.objs.size + 1, s1.heap.objs.size], _, _, H1, rfl, I2, turn_enumS x t (s1.heap.objs.size + 1) s1.heap.objs.size, ⟨Nat.zero_le _, ⟨.none, he⟩, hit, Nat.succ_ne_self _⟩, fun b hb => ?_, q1⟩
    have e' : b = s1.heap.objs.size + 1 ∨ b = s1.heap.objs.size := by simpa using hb
    have hle : s1.heap.objs.size ≤ b := by
      rcases e' with z | z
      · rw [z]; exact Nat.le_add_right _ _
      · rw [z]; exact Nat.le_refl _
    exact I1.fpOk hle (I1.hok.fresh hle)
  · exact q1.elim
end
end N1
set_option Elab.async false
set_option linter.all false
set_option maxRecDepth 100000
set_option maxHeartbeats 4000000
namespace N1
open PySem PySem.Spec PyProof.Rows L2
abbrev Tab := List (List Nat × List Nat)
def EntOk (P : Params) (e : DictEntry) (kv : List Nat × List Nat) : Prop := e.hash = PyData.keyHash P (S kv.1) ∧ (∃ t, e.key = .str (S kv.1) t) ∧ ∃ t, e.val = .str (S kv.2) t
structure TabK (K : PySem.W.Frag) (P : Params) (a : Addr) (kvs : Tab) : Prop where
  ex : ∃ (es : Array DictEntry) (ep : Nat), K.lookup a = some { cls := .type "dict", data := .dict es ep } ∧ Paired (EntOk P) es.toList kvs
  nd : (kvs.map (·.1)).Nodup
def tabV (kvs : Tab) (k : List Nat) : Option (List Nat) := (kvs.find? fun kv => decide (kv.1 = k)).map (·.2)
section
variable {X : Cx} {a b e o : Expr} {ta tb te to : TE} {pos apos cpos p2 : Pos}
theorem tab_pairs {prog : Program} {w : World} {P : Params} : ∀ {es : List DictEntry} {kvs : Tab}, Paired (EntOk P) es kvs → ∃ vs : List (Key × Value), Pairs (mixKind prog w) es vs ∧ vs.map (·.1) = kvs.map (fun kv => (Sum.inr (S kv.1) : Key)) ∧
    ∀ k, RelO ((tabV kvs k).map fun l => V.str (S l)) (valueAt vs (Sum.inr (S k)))
  | _, _, .nil => ⟨[], .nil, rfl, fun k => trivial⟩
  | _, _, .cons (a := e) (b := kv) (l₁ := es) (l₂ := kvs) r t => by
    obtain ⟨vs, h1, h2, h3⟩ := tab_pairs (prog := prog) (w := w) t
    obtain ⟨e1, ⟨t1, e2⟩, t2, e3⟩ := r
    refine ⟨(Sum.inr (S kv.1), e.val) :: vs, .cons ?_ rfl h1, by rw [List.map_cons, List.map_cons, h2], fun k => ?_⟩
    · rw [e2]; exact keyIs_str (S kv.1) t1
    · unfold tabV valueAt
      rw [List.find?_cons, List.find?_cons]
      by_cases c : kv.1 = k
      · have c1 : decide (kv.1 = k) = true := decide_eq_true c
        have c2 : decide ((Sum.inr (S kv.1) : Key) = Sum.inr (S k)) = true := decide_eq_true (by rw [c])
        rw [c1]
        dsimp only
        rw [c2]
        dsimp only [Option.map_some]
        rw [e3]
        exact ⟨t2, rfl⟩
      · have c1 : decide (kv.1 = k) = false := decide_eq_false c
        have c2 : decide ((Sum.inr (S kv.1) : Key) = Sum.inr (S k)) = false := decide_eq_false fun q => c (S_inj (Sum.inr.inj q))
        rw [c1]
        dsimp only
        rw [c2]
        exact h3 k
theorem tab_keys {prog : Program} {w : World} : ∀ {es : List DictEntry} {kvs : Tab}, Paired (EntOk w.params) es kvs → ∀ e ∈ es, ∃ k, (mixKind prog w).is k e.key = true ∧ e.hash = (mixKind prog w).hash k
  | _, _, .nil, e, h => by cases h
  | _, _, .cons (a := e0) (b := kv) (l₁ := es) (l₂ := kvs) r t, e, h => by
    rcases List.mem_cons.mp h with rfl | h
    · obtain ⟨e1, ⟨t1, e2⟩, t2, e3⟩ := r
      exact ⟨Sum.inr (S kv.1), by rw [e2]; exact keyIs_str (S kv.1) t1, by rw [e1]; rfl⟩
    · exact tab_keys t e h
theorem nodup_S : ∀ {kvs : Tab}, (kvs.map (·.1)).Nodup → (kvs.map (fun kv => (Sum.inr (S kv.1) : Key))).Nodup
  | [], _ => List.nodup_nil
  | kv :: r, h => by
    rw [List.map_cons, List.nodup_cons] at h ⊢
    refine ⟨fun m => h.1 ?_, nodup_S h.2⟩
    obtain ⟨q, hq, e⟩ := List.mem_map.mp m
    exact List.mem_map.mpr ⟨q, hq, S_inj (Sum.inr.inj e)⟩
theorem tab_dict {pins : List (Addr × Obj)} {σ : L2.St} {H : Hp} {s : Shared} {t : Addr} {kvs : Tab} (I : Inv X pins σ H s) (T : TabK X.K X.w.params t kvs) :
    ∃ vs : List (Key × Value), s.heap.DictOf (mixKind X.prog X.w) t vs ∧ ∀ k, RelO ((tabV kvs k).map fun l => V.str (S l)) (valueAt vs (Sum.inr (S k))) := by
  obtain ⟨es, ep, hk, hp⟩ := T.ex
  obtain ⟨vs, h1, h2, h3⟩ := tab_pairs (prog := X.prog) (w := X.w) hp
  refine ⟨vs, ⟨_, es, ep, I.kIn t _ hk, ⟨rfl, rfl, rfl⟩, rfl, fun e he => tab_keys hp e (Array.mem_toList_iff.mpr he), h1, ?_⟩, h3⟩
  rw [h2]
  exact nodup_S T.nd
def tTabGet (kvs : Tab) (te : TE) : TE := fun σ H Q => te σ H fun y H1 => match y with
  | .str k => ∃ l, tabV kvs (Lc k) = some l ∧ Q (.str (S l)) H1
  | _ => False
theorem ptab {x : Str} {t : Addr} {kvs : Tab} {px : Pos} (T : TabK X.K X.w.params t kvs) (hg : Gl X x) (hm : X.mg x = some (.ref t)) (he : PE X e te) (hs : PlainIx e := by intro _ _; rfl) (hd : (x == ("__debug__" : Str)) = false := by decide) :
    PE X (.Subscript (.Name x px) e pos) (tTabGet kvs te) := by
  intro pins s σ H Q I h
  refine Subscript_ (ld_glob I hg hm (thn (he pins s σ H _ I h) fun u s1 ⟨y, H1, I1, r1, q1⟩ => ?_) hd)
  dsimp only at q1
  split at q1
  · rename_i k
    obtain ⟨l, hl, q⟩ := q1
    obtain ⟨vs, hv, hr⟩ := tab_dict I1 T
    have hk := hr (Lc k)
    rw [hl, S_Lc] at hk
    obtain ⟨w', hw, rw'⟩ := RelO.some_of (v := V.str (S l)) (o := valueAt vs (Sum.inr k)) hk
    refine tail_any hv.typeIs PySem.F.slot_dict_getitem.lookup (wpAny_getItem_of (k := Sum.inr k) (kV_is (k := Sum.inr k) r1) hv.mapOf hw ?_) (hs _ _)
    exact ⟨.str (S l), H1, I1.tok _, rw', q⟩
  · exact q1.elim
end
def Cal (P : Program) (w : World) (K : PySem.W.Frag) (mg : Str → Option Value) (base : Heap) (k : Nat) (x : Str) (ps : List Str) (sp : Sp) : Prop :=
  ∃ (f : Addr) (fd : FuncData), FnOk P w K mg base CX0 k f fd ps sp ∧ Binds K fd ps [] ∧ PySem.W.keepIn K (.ref f) = true ∧ mg x = some (.ref f)
theorem Cal.mono {P : Program} {w : World} {K : PySem.W.Frag} {mg : Str → Option Value} {base : Heap} {j k : Nat} {x : Str} {ps : List Str} {sp : Sp} (c : Cal P w K mg base j x ps sp) (h : j ≤ k) : Cal P w K mg base k x ps sp :=
  let ⟨f, fd, F, b, kp, m⟩ := c; ⟨f, fd, F.mono h, b, kp, m⟩
section
variable {X : Cx} {a b e o : Expr} {es : List Expr} {ta tb te to : TE} {t : TA} {pos apos cpos p p2 : Pos}
theorem pcall {k : Nat} {x : Str} {ps : List Str} {sp : Sp} (c : Cal X.prog X.w X.K X.mg X.base k x ps sp) (hr : Room k X.A) (hg : Gl X x) (ha : PA X (e :: es) t) (hdb : (x == ("__debug__" : Str)) = false := by decide)
    (he : starEach (e :: es) X.env = (false, eval e X.env) :: starEach es X.env := by rfl) (hpl : (backTo pos (starEach es X.env)).any (·.1) = false := by rfl) :
    PE X (.Call (.Name x p) (e :: es) [] pos) (tCall sp [] E0 t) := by
  obtain ⟨f, fd, F, b, kp, m⟩ := c
  exact pe_call F hr hg m kp b .nil pass0 ha hdb he hpl
theorem pgs {x : Str} {l : List Nat} (m : ∃ t, X.mg x = some (.str (S l) t)) (hg : Gl X x) (hd : (x == ("__debug__" : Str)) = false := by decide) : PE X (.Name x pos) (tC (.str (S l))) := by
  obtain ⟨t, m⟩ := m
  exact pe_glob hg m ⟨t, rfl⟩ hd
theorem pgi {x : Str} {i : Int} (m : ∃ t, X.mg x = some (.int i t)) (hg : Gl X x) (hd : (x == ("__debug__" : Str)) = false := by decide) : PE X (.Name x pos) (tC (.int i)) := by
  obtain ⟨t, m⟩ := m
  exact pe_glob hg m ⟨t, rfl⟩ hd
theorem PG.imp {tg : Expr} {t u : TG} (h : PG X tg t) (k : ∀ v σ H Q, u v σ H Q → t v σ H Q) : PG X tg u := fun pins s σ H v w' Q I r q => h pins s σ H v w' Q I r (k v σ H Q q)
def gPair (K : PySem.W.Frag) (i j : Nat) : TG := fun v σ H Q => match v with
  | .ref a => ∃ x y, SqT K H a [x, y] ∧ Q ((σ.set i (some x)).set j (some y)) H
  | _ => False
theorem pg_pair {i j k : Nat} {x y : Str} {px py : Pos} (hN : X.N.Nodup) (hi : X.N[i]? = some x) (hx : Loc X.env.scope x) (hj : X.N[j]? = some y) (hy : Loc X.env.scope y) (hc : X.calm = true)
    (hfx : X.fn x = true ∨ X.env.scope.names.lookup x = some .local := by first | exact .inl rfl | exact .inr rfl | assumption) (hfy : X.fn y = true ∨ X.env.scope.names.lookup y = some .local := by first | exact .inl rfl | exact .inr rfl | assumption) :
    PG X (.Tuple [.Name x px, .Name y py] k pos) (gPair X.K i j) :=
  PG.imp (pg_tup hc (pgs_cons (pg_name hN hi hx hfx) (pgs_cons (pg_name hN hj hy hfy) pgs_nil))) fun v σ H Q q => by
    unfold gPair at q
    split at q
    · obtain ⟨x, y, h, q⟩ := q
      exact ⟨_, [x, y], rfl, h, rfl, x, [y], rfl, y, [], rfl, rfl, q⟩
    · exact q.elim
end
section
variable {g : TG} {tb : TS} {D : Ends} {σ : L2.St} {H : Hp}
theorem for_str {x : Str} (Pv : Nat → L2.St → Hp → Prop) (h0 : Pv 0 σ H)
    (hs : ∀ i c σ H, (Lc x)[i]? = some c → Pv i σ H → g (sg c) σ H fun σ2 H2 => tb { D with nx := Pv (i + 1), ct := Pv (i + 1), bk := D.nx } σ2 H2) (hd : ∀ σ H, Pv (Lc x).length σ H → D.nx σ H) :
    ∃ W : Nat → Nat → L2.St → Hp → Prop, (∃ m, W 0 m σ H) ∧ ∀ i m σ H, W i m σ H →
      ((Its x).stop i H ∧ D.nx σ H) ∨ ((Its x).go i H ∧ ∃ N : L2.St → Hp → Prop, (∀ σ' H', N σ' H' → ∃ m', m' < m ∧ W (i + 1) m' σ' H') ∧ ∀ y H', (Its x).yld i H y H' → g y σ H' fun σ2 H2 => tb { D with nx := N, ct := N, bk := D.nx } σ2 H2) := by
  have hl : (Lc x).length = x.cps.size := by simp
  refine ⟨fun i m σ H => m = (Lc x).length - i ∧ i ≤ (Lc x).length ∧ Pv i σ H, ⟨_, rfl, Nat.zero_le _, h0⟩, ?_⟩
  rintro i m σ H ⟨rfl, hi, p⟩
  by_cases hlt : i < (Lc x).length
  · refine .inr ⟨by rw [hl] at hlt; exact hlt, Pv (i + 1), fun σ' H' p' => ⟨_, by omega, rfl, hlt, p'⟩, fun y H' q => ?_⟩
    obtain ⟨e, c, hc, rfl⟩ := q
    subst e
    exact hs i c σ _ (by simpa using hc) p
  · have e : i = (Lc x).length := by omega
    subst e
    exact .inl ⟨by rw [hl]; exact Nat.le_refl _, hd σ H p⟩
theorem for_enumS {x : Str} (Pv : Nat → L2.St → Hp → Prop) (h0 : Pv 0 σ H)
    (hs : ∀ i c T σ H, (Lc x)[i]? = some c → Pv i σ H → H T = none → g (.ref T) σ (upd H T (.tup [.int (i : Nat), sg c])) fun σ2 H2 => tb { D with nx := Pv (i + 1), ct := Pv (i + 1), bk := D.nx } σ2 H2) (hd : ∀ σ H, Pv (Lc x).length σ H → D.nx σ H) :
    ∃ W : Nat → Nat → L2.St → Hp → Prop, (∃ m, W 0 m σ H) ∧ ∀ i m σ H, W i m σ H →
      ((Iens x).stop i H ∧ D.nx σ H) ∨ ((Iens x).go i H ∧ ∃ N : L2.St → Hp → Prop, (∀ σ' H', N σ' H' → ∃ m', m' < m ∧ W (i + 1) m' σ' H') ∧ ∀ y H', (Iens x).yld i H y H' → g y σ H' fun σ2 H2 => tb { D with nx := N, ct := N, bk := D.nx } σ2 H2) := by
  have hl : (Lc x).length = x.cps.size := by simp
  refine ⟨fun i m σ H => m = (Lc x).length - i ∧ i ≤ (Lc x).length ∧ Pv i σ H, ⟨_, rfl, Nat.zero_le _, h0⟩, ?_⟩
  rintro i m σ H ⟨rfl, hi, p⟩
  by_cases hlt : i < (Lc x).length
  · refine .inr ⟨by rw [hl] at hlt; exact hlt, Pv (i + 1), fun σ' H' p' => ⟨_, by omega, rfl, hlt, p'⟩, fun y H' q => ?_⟩
    obtain ⟨T, c, rfl, hT, rfl, hc⟩ := q
    exact hs i c T σ H hc p hT
  · have e : i = (Lc x).length := by omega
    subst e
    exact .inl ⟨by rw [hl]; exact Nat.le_refl _, hd σ H p⟩
theorem for_enumL {K : PySem.W.Frag} {a : Addr} {xs : List V} (Pv : Nat → L2.St → Hp → Prop) (h0 : Pv 0 σ H) (hl : ∀ i σ H, Pv i σ H → SqL K H a xs)
    (hs : ∀ i x T σ H, xs[i]? = some x → Pv i σ H → H T = none → g (.ref T) σ (upd H T (.tup [.int (i : Nat), x])) fun σ2 H2 => tb { D with nx := Pv (i + 1), ct := Pv (i + 1), bk := D.nx } σ2 H2) (hd : ∀ σ H, Pv xs.length σ H → D.nx σ H) :
    ∃ W : Nat → Nat → L2.St → Hp → Prop, (∃ m, W 0 m σ H) ∧ ∀ i m σ H, W i m σ H →
      ((Ite K a).stop i H ∧ D.nx σ H) ∨ ((Ite K a).go i H ∧ ∃ N : L2.St → Hp → Prop, (∀ σ' H', N σ' H' → ∃ m', m' < m ∧ W (i + 1) m' σ' H') ∧ ∀ y H', (Ite K a).yld i H y H' → g y σ H' fun σ2 H2 => tb { D with nx := N, ct := N, bk := D.nx } σ2 H2) := by
  refine ⟨fun i m σ H => m = xs.length - i ∧ i ≤ xs.length ∧ Pv i σ H, ⟨_, rfl, Nat.zero_le _, h0⟩, ?_⟩
  rintro i m σ H ⟨rfl, hi, p⟩
  have q := hl i σ H p
  by_cases hlt : i < xs.length
  · refine .inr ⟨⟨xs, xs[i], q, by simp [hlt]⟩, Pv (i + 1), fun σ' H' p' => ⟨_, by omega, rfl, hlt, p'⟩, fun y H' z => ?_⟩
    obtain ⟨T, x, rfl, hT, rfl, hx⟩ := z
    exact hs i x T σ H (hx xs q) p hT
  · have e : i = xs.length := by omega
    subst e
    exact .inl ⟨⟨xs, q, Nat.le_refl _⟩, hd σ H p⟩
theorem while_w {c : TT} (Pv : Nat → L2.St → Hp → Prop) (m0 : Nat) (h0 : Pv m0 σ H)
    (hs : ∀ m σ H, Pv m σ H → c σ H fun b H1 => if b = true then ∃ N : L2.St → Hp → Prop, (∀ σ' H', N σ' H' → ∃ m', m' < m ∧ Pv m' σ' H') ∧ tb { D with nx := N, ct := N, bk := D.nx } σ H1 else D.nx σ H1) : tWhile c tb D σ H :=
  ⟨Pv, ⟨m0, h0⟩, hs⟩
theorem turn_w {Pv : Nat → L2.St → Hp → Prop} {m : Nat} (h : tb { D with nx := fun σ' H' => ∃ m', m' < m ∧ Pv m' σ' H', ct := fun σ' H' => ∃ m', m' < m ∧ Pv m' σ' H', bk := D.nx } σ H) :
    ∃ N : L2.St → Hp → Prop, (∀ σ' H', N σ' H' → ∃ m', m' < m ∧ Pv m' σ' H') ∧ tb { D with nx := N, ct := N, bk := D.nx } σ H := ⟨_, fun _ _ h => h, h⟩
end
def Kp (p : Addr) (H H' : Hp) : Prop := ∀ b o, b ≠ p → H b = some o → H' b = some o
theorem Kp.refl {p : Addr} {H : Hp} : Kp p H H := fun _ _ _ h => h
theorem Kp.trans {p : Addr} {H H1 H2 : Hp} (a : Kp p H H1) (b : Kp p H1 H2) : Kp p H H2 := fun c o n h => b c o n (a c o n h)
theorem Kp.of_same {p : Addr} {H H1 : Hp} (a : Same H H1) : Kp p H H1 := fun c o _ h => a c o h
theorem Kp.at {p : Addr} {H H1 : Hp} (o : HO) (a : Kp p H H1) : Kp p H (upd H1 p o) := fun c u n h => by rw [upd_ne n]; exact a c u n h
theorem same_new {H : Hp} {p : Addr} (h : H p = none) (o : HO) : Same H (upd H p o) := fun b u q => by rw [upd_ne (ne_of_none q h)]; exact q
theorem Kp.new {p q : Addr} {H H1 : Hp} (a : Kp p H H1) (h : H1 q = none) (o : HO) : Kp p H (upd H1 q o) := a.trans (Kp.of_same (same_new h o))
theorem Kp.set {p : Addr} {H : Hp} (o : HO) : Kp p H (upd H p o) := Kp.refl.at o
end N1
set_option Elab.async false
set_option linter.all false
set_option maxRecDepth 100000
set_option maxHeartbeats 4000000
namespace N1
open PySem PySem.Spec PyProof.Rows L2
def isOp (c : Nat) : Bool := c == 40 || c == 60 || c == 91 || c == 123
def isCl (c : Nat) : Bool := c == 41 || c == 62 || c == 93 || c == 125
def isLt (c : Nat) : Bool := decide (97 ≤ c) && decide (c ≤ 122)
def isSg (c : Nat) : Bool := isLt c || isOp c || isCl c
def oth (c : Nat) : Nat := if c = 40 then 41 else if c = 60 then 62 else if c = 91 then 93 else if c = 123 then 125 else if c = 41 then 40 else if c = 62 then 60 else if c = 93 then 91 else if c = 125 then 123 else c
abbrev Sgs (l : List Nat) : Prop := ∀ c ∈ l, isSg c = true
theorem op_cases {c : Nat} (h : isOp c = true) : c = 40 ∨ c = 60 ∨ c = 91 ∨ c = 123 := by simpa [isOp, or_assoc] using h
theorem cl_cases {c : Nat} (h : isCl c = true) : c = 41 ∨ c = 62 ∨ c = 93 ∨ c = 125 := by simpa [isCl, or_assoc] using h
theorem op_not_cl {c : Nat} (h : isOp c = true) : isCl c = false := by rcases op_cases h with rfl | rfl | rfl | rfl <;> rfl
theorem cl_not_op {c : Nat} (h : isCl c = true) : isOp c = false := by rcases cl_cases h with rfl | rfl | rfl | rfl <;> rfl
theorem oth_op {c : Nat} (h : isOp c = true) : isCl (oth c) = true ∧ oth (oth c) = c := by rcases op_cases h with rfl | rfl | rfl | rfl <;> exact ⟨rfl, rfl⟩
theorem oth_cl {c : Nat} (h : isCl c = true) : isOp (oth c) = true ∧ oth (oth c) = c := by rcases cl_cases h with rfl | rfl | rfl | rfl <;> exact ⟨rfl, rfl⟩
theorem lt_not {c : Nat} (h : isLt c = true) : isOp c = false ∧ isCl c = false := by
  have h' : 97 ≤ c ∧ c ≤ 122 := by simpa [isLt] using h
  constructor
  · cases q : isOp c with
    | false => rfl
    | true => rcases op_cases q with rfl | rfl | rfl | rfl <;> omega
  · cases q : isCl c with
    | false => rfl
    | true => rcases cl_cases q with rfl | rfl | rfl | rfl <;> omega
def runB : List Nat → List Nat → Option (List Nat)
  | st, [] => some st
  | st, c :: r => if isOp c then runB (oth c :: st) r else if isCl c then (match st with
    | t :: st' => if t = c then runB st' r else none
    | [] => none) else runB st r
def Clean (l : List Nat) : Prop := runB [] l = some []
instance (l : List Nat) : Decidable (Clean l) := inferInstanceAs (Decidable (_ = _))
theorem runB_app : ∀ (a b st : List Nat), runB st (a ++ b) = (runB st a).bind fun st' => runB st' b
  | [], b, st => rfl
  | c :: a, b, st => by
    simp only [List.cons_append, runB]
    by_cases h1 : isOp c = true
    · rw [if_pos h1, if_pos h1]; exact runB_app a b _
    · rw [if_neg h1, if_neg h1]
      by_cases h2 : isCl c = true
      · rw [if_pos h2, if_pos h2]
        cases st with
        | nil => rfl
        | cons t st =>
          dsimp only
          by_cases h3 : t = c
          · rw [if_pos h3, if_pos h3]; exact runB_app a b _
          · rw [if_neg h3, if_neg h3]; rfl
      · rw [if_neg h2, if_neg h2]; exact runB_app a b _
theorem runB_closers : ∀ w : List Nat, (∀ c ∈ w, isCl c = true) → runB w w = some []
  | [], _ => rfl
  | c :: r, h => by
    have hc := h c List.mem_cons_self
    simp only [runB]
    rw [if_neg (by rw [cl_not_op hc]; decide), if_pos hc]
    simp only [if_true]
    exact runB_closers r fun d hd => h d (List.mem_cons_of_mem _ hd)
theorem atI_ex {α : Type} {xs : List α} {i : Int} (h0 : 0 ≤ i) (h1 : i < xs.length) : ∃ c, atI xs i = some c ∧ c ∈ xs ∧ xs[i.toNat]? = some c := by
  have hl : i.toNat < xs.length := by omega
  refine ⟨xs[i.toNat], ?_, List.getElem_mem hl, by simp [hl]⟩
  have e : i = ((i.toNat : Nat) : Int) := by omega
  have q : atI xs ((i.toNat : Nat) : Int) = some xs[i.toNat] := atI_nat (by simp [hl])
  rw [← e] at q
  exact q
theorem lit_at {x : Str} {n : Nat} (hn : (Lc x).length = n) {i : Int} (h0 : 0 ≤ i) (h1 : i < n) : ∃ c, atI (Lc x) i = some c ∧ c ∈ Lc x ∧ (Lc x)[i.toNat]? = some c := atI_ex h0 (by rw [hn]; exact h1)
theorem dT {p : Prop} [Decidable p] (h : decide p = true) : p := of_decide_eq_true h
theorem dN {p : Prop} [Decidable p] (h : (true != decide p) = true) : ¬ p := by
  intro q; rw [decide_eq_true q] at h; exact absurd h (by decide)
theorem dE {p : Prop} [Decidable p] (h : (false != decide p) = true) : p := by
  by_cases q : p
  · exact q
  · rw [decide_eq_false q] at h; exact absurd h (by decide)
theorem dEF {p : Prop} [Decidable p] (h : ¬ (false != decide p) = true) : ¬ p := fun q => h (by rw [decide_eq_true q]; rfl)
theorem Sgs.app {a b : List Nat} (ha : Sgs a) (hb : Sgs b) : Sgs (a ++ b) := fun c h => (List.mem_append.mp h).elim (ha c) (hb c)
theorem Sgs.cut {a : List Nat} (ha : Sgs a) (lo hi : Option Int) : Sgs (cutA a lo hi) := fun c h => ha c (cutA_mem h)
theorem Sgs.one {c : Nat} (h : isSg c = true) : Sgs [c] := fun d hd => by rw [List.mem_singleton.mp hd]; exact h
theorem sIx_none0 (n : Nat) : HT.sIx n 0 none = 0 := rfl
theorem cut_to {α : Type} (l : List α) {j : Int} (h0 : 0 ≤ j) : cutA l none (some j) = l.take j.toNat := by
  unfold cutA
  have e : HT.sIx l.length l.length (some j) = min j.toNat l.length := by
    unfold HT.sIx
    simp only [show ¬ j < 0 by omega, if_false]
  rw [e, sIx_none0, List.drop_zero, Nat.sub_zero]
  by_cases h : j.toNat ≤ l.length
  · rw [Nat.min_eq_left h]
  · rw [Nat.min_eq_right (by omega), List.take_of_length_le (Nat.le_refl _), List.take_of_length_le (by omega)]
end N1
set_option Elab.async false
set_option linter.all false
set_option maxRecDepth 100000
set_option maxHeartbeats 4000000
namespace N1
open PySem PySem.Spec PyProof.Rows L2
def dsg (c : Nat) : PyData := .str (S [c])
theorem dp_signs {K : PySem.W.Frag} {H : Hp} : ∀ w : List Nat, DpAll K H (w.map sg) (w.map dsg)
  | [] => .nil
  | c :: r => .cons (.str _) (dp_signs r)
theorem canLay_signs : ∀ w : List Nat, (∀ c ∈ w, c < 1114112) → PyData.canLayAll0 (w.map dsg) = true
  | [], _ => by simp [PyData.canLayAll0]
  | c :: r, h => by
    have := canLay_signs r fun d hd => h d (List.mem_cons_of_mem _ hd)
    have hc := h c List.mem_cons_self
    simp [PyData.canLayAll0, PyData.canLay0, dsg, this]
    simp [PyData.strOk, hc]
theorem depth_signs : ∀ w : List Nat, PyData.depthAll (w.map dsg) ≤ 1
  | [] => by simp [PyData.depthAll]
  | c :: r => by
    have := depth_signs r
    simp [PyData.depthAll, dsg, PyData.depth]
    exact this
theorem sg_small {c : Nat} (h : isSg c = true) : c < 1114112 := by
  unfold isSg at h
  rcases Bool.or_eq_true_iff.mp h with h | h
  · rcases Bool.or_eq_true_iff.mp h with h | h
    · have h' : 97 ≤ c ∧ c ≤ 122 := by simpa [isLt] using h
      omega
    · rcases op_cases h with rfl | rfl | rfl | rfl <;> decide
  · rcases cl_cases h with rfl | rfl | rfl | rfl <;> decide
theorem ne_empty {K : PySem.W.Frag} {H : Hp} {a e : Addr} {w : List Nat} (hw : ∀ c ∈ w, c < 1114112) (h1 : H a = some (.lst (w.map sg))) (h2 : H e = some (.lst [])) {Q : VK} (q : Q (.bl (!w.isEmpty)) H) : rEqC K true (.ref a) (.ref e) H Q := by
  refine ⟨_, _, .lst (SqL.of h1) (dp_signs w), .lst (SqL.of h2) .nil, ?_, by decide, ?_⟩
  · unfold SeqAt.shaped
    have h3 := depth_signs w
    rw [Bool.and_eq_true]
    refine ⟨by simp only [PyData.canLay0, canLay_signs w hw], decide_eq_true ?_⟩
    simp only [PyData.depth]
    omega
  · cases w with
    | nil => exact q
    | cons c r => exact q
abbrev abc : List Nat := Lc (Str.ofString "abcdefghijklmnopqrstuvwxyz")
theorem len_abc : abc.length = 26 := by decide +kernel
theorem sg_abc : abc.all isLt = true := by decide +kernel
abbrev ops : List Nat := Lc (Str.ofString "(<[{")
abbrev cls : List Nat := Lc (Str.ofString ")>]}")
theorem nil0 : Lc (Str.ofString "") = [] := by decide +kernel
theorem kinds {k : Int} (h0 : 0 ≤ k) (h1 : k < 4) : ∃ c, isOp c = true ∧ atI ops k = some c ∧ atI cls k = some (oth c) := by
  have : k = 0 ∨ k = 1 ∨ k = 2 ∨ k = 3 := by omega
  rcases this with rfl | rfl | rfl | rfl
  · exact ⟨40, rfl, by decide +kernel, by decide +kernel⟩
  · exact ⟨60, rfl, by decide +kernel, by decide +kernel⟩
  · exact ⟨91, rfl, by decide +kernel, by decide +kernel⟩
  · exact ⟨123, rfl, by decide +kernel, by decide +kernel⟩
theorem sg_of_lt {c : Nat} (h : isLt c = true) : isSg c = true := by unfold isSg; rw [h]; rfl
theorem sg_of_op {c : Nat} (h : isOp c = true) : isSg c = true := by unfold isSg; rw [h]; simp
theorem sg_of_cl {c : Nat} (h : isCl c = true) : isSg c = true := by unfold isSg; rw [h]; simp
theorem run_snoc {l st : List Nat} {c : Nat} (h : runB [] l = some st) : runB [] (l ++ [c]) = runB st [c] := by rw [runB_app, h]; rfl
theorem run_lt {st : List Nat} {c : Nat} (h : isLt c = true) : runB st [c] = some st := by
  obtain ⟨h1, h2⟩ := lt_not h
  simp only [runB]
  rw [if_neg (by rw [h1]; decide), if_neg (by rw [h2]; decide)]
theorem run_op {st : List Nat} {c : Nat} (h : isOp c = true) : runB st [c] = some (oth c :: st) := by
  simp only [runB]
  rw [if_pos h]
theorem run_cl {st : List Nat} {c : Nat} (h : isCl c = true) : runB (c :: st) [c] = some st := by
  simp only [runB]
  rw [if_neg (by rw [cl_not_op h]; decide), if_pos h, if_pos trivial]
theorem map_sg (w : List Nat) : (w.map fun c => [c]).map (fun l => V.str (S l)) = w.map sg := by rw [List.map_map]; rfl
theorem flat_one (w : List Nat) : (w.map fun c => [c]).flatten = w := by
  induction w with
  | nil => rfl
  | cons c r ih => rw [List.map_cons, List.flatten_cons, ih]; rfl
theorem and2 {c d : Bool} {T E : Prop} (hT : c = true → d = true → T) (hE : ¬ (c = true ∧ d = true) → E) : if c = true then (if d = true then T else E) else (if false = true then T else E) := by
  cases c with
  | true =>
    rw [if_pos rfl]
    cases d with
    | true => rw [if_pos rfl]; exact hT rfl rfl
    | false => rw [if_neg (by decide)]; exact hE (by simp)
  | false => rw [if_neg (by decide), if_neg (by decide)]; exact hE (by simp)
theorem ixN_of {n : Nat} {i : Int} (h0 : 0 ≤ i) (h1 : i < n) : ixN n i = some i.toNat := by
  unfold ixN
  rw [if_pos h0, if_pos h1]
theorem Sgs.set {l : List Nat} (h : Sgs l) {j c : Nat} (hc : isSg c = true) : Sgs (l.set j c) := fun d hd => (List.mem_or_eq_of_mem_set hd).elim (h d) fun e => by rw [e]; exact hc
theorem mem_ops {c : Nat} : c ∈ ops ↔ isOp c = true := by
  have e : ops = [40, 60, 91, 123] := by decide +kernel
  rw [e]
  simp [isOp, or_assoc]
theorem mem_cls {c : Nat} : c ∈ cls ↔ isCl c = true := by
  have e : cls = [41, 62, 93, 125] := by decide +kernel
  rw [e]
  simp [isCl, or_assoc]
theorem sU {H H' : Hp} {p : Addr} (k : Same H H') (h : H p = none) (o : HO) : Same H (L2.upd H' p o) := fun b u e => by rw [upd_ne (ne_of_none e h)]; exact k b u e
theorem sK {H H1 H2 : Hp} {p : Addr} (k : Same H H1) (h : H p = none) (k2 : Kp p H1 H2) : Same H H2 := fun b u e => k2 b u (ne_of_none e h) (k b u e)
end N1
set_option Elab.async false
set_option linter.all false
set_option maxRecDepth 100000
set_option maxHeartbeats 1000000
namespace N1
def pm : List Nat → List Nat → Nat → Option Nat
  | _, [], _ => none
  | st, c :: r, k => if isOp c = true then pm (oth c :: st) r (k + 1) else if isCl c = true then (match st with
      | [] => none
      | [s] => if s = c then some k else none
      | s :: s' :: st' => if s = c then pm (s' :: st') r (k + 1) else none) else pm st r (k + 1)
theorem pm_op {st r : List Nat} {c k : Nat} (h : isOp c = true) : pm st (c :: r) k = pm (oth c :: st) r (k + 1) := by
  rw [pm.eq_def]; dsimp only; rw [if_pos h]
theorem pm_lt {st r : List Nat} {c k : Nat} (h1 : isOp c = false) (h2 : isCl c = false) : pm st (c :: r) k = pm st r (k + 1) := by
  rw [pm.eq_def]; dsimp only; rw [if_neg (by rw [h1]; decide), if_neg (by rw [h2]; decide)]
theorem pm_cl1 {r : List Nat} {s c k : Nat} (h : isCl c = true) : pm [s] (c :: r) k = if s = c then some k else none := by
  rw [pm, if_neg (by rw [cl_not_op h]; decide), if_pos h]
theorem pm_cl2 {st r : List Nat} {s s' c k : Nat} (h : isCl c = true) : pm (s :: s' :: st) (c :: r) k = if s = c then pm (s' :: st) r (k + 1) else none := by
  rw [pm, if_neg (by rw [cl_not_op h]; decide), if_pos h]
theorem pm_ge : ∀ {r st : List Nat} {k j : Nat}, pm st r k = some j → k ≤ j ∧ j < k + r.length ∧ ∃ c, r[j - k]? = some c ∧ isCl c = true
  | [], st, k, j, h => by rw [pm] at h; cases h
  | c :: r, st, k, j, h => by
    have go : ∀ {st' : List Nat}, pm st' r (k + 1) = some j → k ≤ j ∧ j < k + (c :: r).length ∧ ∃ c', (c :: r)[j - k]? = some c' ∧ isCl c' = true := fun {st'} h => by
      obtain ⟨h1, h2, c', h3, h4⟩ := pm_ge h
      refine ⟨by omega, by rw [List.length_cons]; omega, c', ?_, h4⟩
      have : j - k = (j - (k + 1)) + 1 := by omega
      rw [this, List.getElem?_cons_succ]; exact h3
    by_cases h1 : isOp c = true
    · rw [pm_op h1] at h; exact go h
    · have h1' : isOp c = false := by simpa using h1
      by_cases h2 : isCl c = true
      · match st, h with
        | [], h => rw [pm, if_neg h1, if_pos h2] at h; cases h
        | [s], h =>
          rw [pm_cl1 h2] at h
          by_cases e : s = c
          · rw [if_pos e] at h; cases h
            exact ⟨Nat.le_refl _, by rw [List.length_cons]; omega, c, by simp, h2⟩
          · rw [if_neg e] at h; cases h
        | s :: s' :: st', h =>
          rw [pm_cl2 h2] at h
          by_cases e : s = c
          · rw [if_pos e] at h; exact go h
          · rw [if_neg e] at h; cases h
      · rw [pm_lt h1' (by simpa using h2)] at h; exact go h
theorem pm_over : ∀ (r p : List Nat) (s : Nat) (st : List Nat) (k : Nat), st ≠ [] → pm (p ++ s :: st) r k = (pm (p ++ [s]) r k).bind fun j => pm st (r.drop (j + 1 - k)) (j + 1)
  | [], p, s, st, k, _ => by rw [pm, pm]; rfl
  | c :: r, p, s, st, k, hs => by
    have go : ∀ (p : List Nat), pm (p ++ s :: st) r (k + 1) = (pm (p ++ [s]) r (k + 1)).bind fun j => pm st ((c :: r).drop (j + 1 - k)) (j + 1) := fun p => by
      rw [pm_over r p s st (k + 1) hs]
      cases e : pm (p ++ [s]) r (k + 1) with
      | none => rfl
      | some j =>
        obtain ⟨h1, _⟩ := pm_ge e
        show pm st (r.drop (j + 1 - (k + 1))) (j + 1) = pm st ((c :: r).drop (j + 1 - k)) (j + 1)
        have : j + 1 - k = (j + 1 - (k + 1)) + 1 := by omega
        rw [this, List.drop_succ_cons]
    by_cases h1 : isOp c = true
    · rw [pm_op h1, pm_op h1]; exact go (oth c :: p)
    · have h1' : isOp c = false := by simpa using h1
      by_cases h2 : isCl c = true
      · cases p with
        | nil =>
          match st, hs with
          | s' :: st', _ =>
            show pm (s :: s' :: st') (c :: r) k = (pm [s] (c :: r) k).bind _
            rw [pm_cl2 h2, pm_cl1 h2]
            by_cases e : s = c
            · rw [if_pos e, if_pos e]
              show _ = pm (s' :: st') ((c :: r).drop (k + 1 - k)) (k + 1)
              have : k + 1 - k = 1 := by omega
              rw [this, List.drop_succ_cons, List.drop_zero]
            · rw [if_neg e, if_neg e]; rfl
        | cons x p =>
          have e1 : ∃ y q, p ++ s :: st = y :: q := by cases p <;> exact ⟨_, _, rfl⟩
          have e2 : ∃ y q, p ++ [s] = y :: q := by cases p <;> exact ⟨_, _, rfl⟩
          obtain ⟨y, q, e1⟩ := e1
          obtain ⟨y', q', e2⟩ := e2
          rw [List.cons_append, List.cons_append, e1, e2, pm_cl2 h2, pm_cl2 h2, ← e1, ← e2]
          by_cases e : x = c
          · rw [if_pos e, if_pos e]; exact go p
          · rw [if_neg e, if_neg e]; rfl
      · have h2' : isCl c = false := by simpa using h2
        rw [pm_lt h1' h2', pm_lt h1' h2']; exact go p
def mate (l : List Nat) (i : Nat) : Option Nat := match l[i]? with
  | some c => if isOp c = true then pm [oth c] (l.drop (i + 1)) (i + 1) else none
  | none => none
theorem mate_op {l : List Nat} {i c : Nat} (h : l[i]? = some c) (hc : isOp c = true) : mate l i = pm [oth c] (l.drop (i + 1)) (i + 1) := by
  unfold mate; rw [h]; exact if_pos hc
theorem mate_some {l : List Nat} {i j : Nat} (h : mate l i = some j) : (∃ c, l[i]? = some c ∧ isOp c = true) ∧ i < j ∧ j < l.length ∧ ∃ c, l[j]? = some c ∧ isCl c = true := by
  unfold mate at h
  split at h
  · rename_i c e
    split at h
    · rename_i hc
      obtain ⟨h1, h2, c', h3, h4⟩ := pm_ge h
      have hl : i < l.length := (List.getElem?_eq_some_iff.mp e).1
      rw [List.length_drop] at h2
      refine ⟨⟨c, e, hc⟩, by omega, by omega, c', ?_, h4⟩
      rw [List.getElem?_drop] at h3
      have : i + 1 + (j - (i + 1)) = j := by omega
      rw [this] at h3; exact h3
    · cases h
  · cases h
structure Mates (l : List Nat) (arr : List (Option Nat)) : Prop where
  len : arr.length = l.length
  op : ∀ i c, l[i]? = some c → isOp c = true → arr[i]? = some (mate l i)
  cl : ∀ i j, mate l i = some j → arr[j]? = some (some i)
  non : ∀ j c, l[j]? = some c → isOp c = false → (∀ i, mate l i ≠ some j) → arr[j]? = some none
theorem Mates.uniq {l : List Nat} {a b : List (Option Nat)} (x : Mates l a) (y : Mates l b) : a = b := by
  apply List.ext_getElem?
  intro j
  cases e : l[j]? with
  | none =>
    have h : l.length ≤ j := List.getElem?_eq_none_iff.mp e
    rw [List.getElem?_eq_none (by rw [x.len]; exact h), List.getElem?_eq_none (by rw [y.len]; exact h)]
  | some c =>
    by_cases hc : isOp c = true
    · rw [x.op j c e hc, y.op j c e hc]
    · by_cases h : ∃ i, mate l i = some j
      · obtain ⟨i, h⟩ := h
        rw [x.cl i j h, y.cl i j h]
      · have h' : ∀ i, mate l i ≠ some j := fun i z => h ⟨i, z⟩
        rw [x.non j c e (by simpa using hc) h', y.non j c e (by simpa using hc) h']
abbrev clsr (l : List Nat) (W : List Nat) : List Nat := W.map fun i => oth (l.getD i 0)
structure Fwd (l : List Nat) (k : Nat) (W : List Nat) (arr : List (Option Nat)) : Prop where
  len : arr.length = l.length
  stk : ∀ p i q, W = p ++ i :: q → i < k ∧ (∃ c, l[i]? = some c ∧ isOp c = true) ∧ mate l i = pm (clsr l (p ++ [i])) (l.drop k) k
  wn : ∀ i ∈ W, arr[i]? = some none
  op : ∀ i c, l[i]? = some c → isOp c = true → i < k → i ∉ W → arr[i]? = some (mate l i) ∧ ∀ j, mate l i = some j → j < k
  cl : ∀ i j, mate l i = some j → j < k → arr[j]? = some (some i)
  non : ∀ j c, l[j]? = some c → isOp c = false → (∀ i, mate l i = some j → k ≤ j) → arr[j]? = some none
  fut : ∀ i c, l[i]? = some c → isOp c = true → k ≤ i → arr[i]? = some none
theorem fwd_start (l : List Nat) : Fwd l 0 [] (List.replicate l.length none) where
  len := by simp
  stk := fun p i q h => by cases p <;> cases h
  wn := fun i h => by cases h
  op := fun i c _ _ h => absurd h (Nat.not_lt_zero _)
  cl := fun i j _ h => absurd h (Nat.not_lt_zero _)
  non := fun j c h _ _ => by rw [List.getElem?_replicate, if_pos (List.getElem?_eq_some_iff.mp h).1]
  fut := fun i c h _ _ => by rw [List.getElem?_replicate, if_pos (List.getElem?_eq_some_iff.mp h).1]
theorem Fwd.done {l W : List Nat} {arr : List (Option Nat)} (x : Fwd l l.length W arr) : Mates l arr where
  len := x.len
  op := fun i c h hc => by
    by_cases hi : i ∈ W
    · obtain ⟨p, q, e⟩ := List.append_of_mem hi
      have := (x.stk p i q e).2.2
      rw [List.drop_length] at this
      rw [this, pm]
      exact x.wn i hi
    · exact (x.op i c h hc (List.getElem?_eq_some_iff.mp h).1 hi).1
  cl := fun i j h => x.cl i j h (mate_some h).2.2.1
  non := fun j c h hc hn => x.non j c h hc fun i e => absurd e (hn i)
theorem drop_at {l : List Nat} {k c : Nat} (h : l[k]? = some c) : l.drop k = c :: l.drop (k + 1) := by
  obtain ⟨hk, e⟩ := List.getElem?_eq_some_iff.mp h
  rw [List.drop_eq_getElem_cons hk, e]
theorem Fwd.lett {l W : List Nat} {k c : Nat} {arr : List (Option Nat)} (x : Fwd l k W arr) (h : l[k]? = some c) (h1 : isOp c = false) (h2 : isCl c = false) : Fwd l (k + 1) W arr where
  len := x.len
  stk := fun p i q e => by
    obtain ⟨a, b, d⟩ := x.stk p i q e
    refine ⟨by omega, b, ?_⟩
    rw [d, drop_at h, pm_lt h1 h2]
  wn := x.wn
  op := fun i c' hi hc hlt hw => by
    have : i ≠ k := by rintro rfl; rw [h] at hi; cases hi; rw [h1] at hc; cases hc
    obtain ⟨a, b⟩ := x.op i c' hi hc (by omega) hw
    exact ⟨a, fun j e => by have := b j e; omega⟩
  cl := fun i j e hj => by
    have : j ≠ k := by
      rintro rfl
      obtain ⟨_, _, _, c', e1, e2⟩ := mate_some e
      rw [h] at e1; cases e1; rw [h2] at e2; cases e2
    exact x.cl i j e (by omega)
  non := fun j c' hj hc hn => x.non j c' hj hc fun i e => by have := hn i e; omega
  fut := fun i c' hi hc hk => x.fut i c' hi hc (by omega)
theorem Fwd.opn {l W : List Nat} {k c : Nat} {arr : List (Option Nat)} (x : Fwd l k W arr) (h : l[k]? = some c) (h1 : isOp c = true) : Fwd l (k + 1) (k :: W) arr where
  len := x.len
  stk := fun p i q e => by
    have gd : l.getD k 0 = c := by rw [List.getD_eq_getElem?_getD, h]; rfl
    cases p with
    | nil =>
      cases e
      refine ⟨by omega, ⟨c, h, h1⟩, ?_⟩
      rw [mate_op h h1]
      show _ = pm [oth (l.getD k 0)] _ _
      rw [gd]
    | cons y p =>
      cases e
      obtain ⟨a, b, d⟩ := x.stk p i q rfl
      refine ⟨by omega, b, ?_⟩
      rw [d, drop_at h, pm_op h1]
      show _ = pm (oth (l.getD k 0) :: clsr l (p ++ [i])) _ _
      rw [gd]
  wn := fun i hi => by
    rcases List.mem_cons.mp hi with rfl | hi
    · exact x.fut i c h h1 (Nat.le_refl _)
    · exact x.wn i hi
  op := fun i c' hi hc hlt hw => by
    have hw' := fun z => hw (List.mem_cons.mpr z)
    have : i ≠ k := fun z => hw' (.inl z)
    obtain ⟨a, b⟩ := x.op i c' hi hc (by omega) fun z => hw' (.inr z)
    exact ⟨a, fun j e => by have := b j e; omega⟩
  cl := fun i j e hj => by
    have : j ≠ k := by
      rintro rfl
      obtain ⟨_, _, _, c', e1, e2⟩ := mate_some e
      rw [h] at e1; cases e1; rw [op_not_cl h1] at e2; cases e2
    exact x.cl i j e (by omega)
  non := fun j c' hj hc hn => x.non j c' hj hc fun i e => by have := hn i e; omega
  fut := fun i c' hi hc hk => x.fut i c' hi hc (by omega)
theorem Fwd.clear {l W : List Nat} {k c : Nat} {arr : List (Option Nat)} (x : Fwd l k W arr) (h : l[k]? = some c) (h1 : isCl c = true) (hW : ∀ i q, W = i :: q → oth (l.getD i 0) ≠ c) : Fwd l (k + 1) [] arr := by
  have dead : ∀ i ∈ W, mate l i = none := fun i hi => by
    obtain ⟨p, q, e⟩ := List.append_of_mem hi
    have d := (x.stk p i q e).2.2
    rw [d, drop_at h]
    cases p with
    | nil =>
      show pm [oth (l.getD i 0)] _ _ = none
      rw [pm_cl1 h1, if_neg (hW i q e)]
    | cons y p =>
      have hy := hW y _ e
      have e2 : ∃ z r, clsr l (p ++ [i]) = z :: r := by cases p <;> exact ⟨_, _, rfl⟩
      obtain ⟨z, r, e2⟩ := e2
      show pm (oth (l.getD y 0) :: clsr l (p ++ [i])) _ _ = none
      rw [e2, pm_cl2 h1, if_neg hy]
  have nok : ∀ i, mate l i ≠ some k := fun i e => by
    obtain ⟨⟨c', h2, h3⟩, h4, _⟩ := mate_some e
    by_cases hi : i ∈ W
    · rw [dead i hi] at e; cases e
    · exact Nat.lt_irrefl _ ((x.op i c' h2 h3 h4 hi).2 k e)
  exact {
    len := x.len
    stk := fun p i q h => by cases p <;> cases h
    wn := fun i h => by cases h
    op := fun i c' hi hc hlt _ => by
      have : i ≠ k := by rintro rfl; rw [h] at hi; cases hi; rw [cl_not_op h1] at hc; cases hc
      by_cases hw : i ∈ W
      · rw [dead i hw]; exact ⟨x.wn i hw, fun j e => by cases e⟩
      · obtain ⟨a, b⟩ := x.op i c' hi hc (by omega) hw
        exact ⟨a, fun j e => by have := b j e; omega⟩
    cl := fun i j e hj => by
      have : j ≠ k := by rintro rfl; exact nok i e
      exact x.cl i j e (by omega)
    non := fun j c' hj hc hn => x.non j c' hj hc fun i e => by have := hn i e; omega
    fut := fun i c' hi hc hk => x.fut i c' hi hc (by omega) }
theorem Fwd.pop {l W : List Nat} {k c i0 : Nat} {arr : List (Option Nat)} (x : Fwd l k (i0 :: W) arr) (h : l[k]? = some c) (h1 : isCl c = true) (he : oth (l.getD i0 0) = c) (nd : (i0 :: W).Nodup) : Fwd l (k + 1) W ((arr.set i0 (some k)).set k (some i0)) := by
  obtain ⟨i0k, ⟨c0, hc0, ho0⟩, hm⟩ := x.stk [] i0 W rfl
  have hk : k < l.length := (List.getElem?_eq_some_iff.mp h).1
  have m0 : mate l i0 = some k := by
    rw [hm, drop_at h]
    show pm [oth (l.getD i0 0)] _ _ = _
    rw [pm_cl1 h1, if_pos he]
  have deep : ∀ p i q, W = p ++ i :: q → i < k ∧ (∃ c, l[i]? = some c ∧ isOp c = true) ∧ mate l i = pm (clsr l (p ++ [i])) (l.drop (k + 1)) (k + 1) := fun p i q e => by
    obtain ⟨a, b, d⟩ := x.stk (i0 :: p) i q (by rw [e]; rfl)
    refine ⟨a, b, ?_⟩
    have e2 : ∃ z r, clsr l (p ++ [i]) = z :: r := by cases p <;> exact ⟨_, _, rfl⟩
    obtain ⟨z, r, e2⟩ := e2
    rw [d, drop_at h]
    show pm (oth (l.getD i0 0) :: clsr l (p ++ [i])) _ _ = _
    rw [e2, pm_cl2 h1, if_pos he]
  have only : ∀ i, mate l i = some k → i = i0 := fun i e => by
    obtain ⟨⟨c', h2, h3⟩, h4, _⟩ := mate_some e
    by_cases hi : i ∈ i0 :: W
    · rcases List.mem_cons.mp hi with z | hi
      · exact z
      · obtain ⟨p, q, e'⟩ := List.append_of_mem hi
        rw [(deep p i q e').2.2] at e
        have := (pm_ge e).1
        omega
    · exact absurd ((x.op i c' h2 h3 h4 hi).2 k e) (Nat.lt_irrefl _)
  have ne : i0 ≠ k := by omega
  have get : ∀ j, j ≠ k → j ≠ i0 → ((arr.set i0 (some k)).set k (some i0))[j]? = arr[j]? := fun j a b => by
    rw [List.getElem?_set_ne (Ne.symm a), List.getElem?_set_ne (Ne.symm b)]
  have nd' := List.nodup_cons.mp nd
  exact {
    len := by rw [List.length_set, List.length_set]; exact x.len
    stk := fun p i q e => by obtain ⟨a, b, d⟩ := deep p i q e; exact ⟨by omega, b, d⟩
    wn := fun i hi => by
      have hik : i < k := by obtain ⟨p, q, e⟩ := List.append_of_mem hi; exact (deep p i q e).1
      rw [get i (by omega) fun z => nd'.1 (z ▸ hi)]
      exact x.wn i (List.mem_cons_of_mem _ hi)
    op := fun i c' hi hc hlt hw => by
      have hik : i ≠ k := by rintro rfl; rw [h] at hi; cases hi; rw [cl_not_op h1] at hc; cases hc
      by_cases z : i = i0
      · subst z
        rw [List.getElem?_set_ne (Ne.symm hik), List.getElem?_set_self (by rw [x.len]; omega), m0]
        exact ⟨rfl, fun j e => by cases e; omega⟩
      · rw [get i hik z]
        obtain ⟨a, b⟩ := x.op i c' hi hc (by omega) fun q => (List.mem_cons.mp q).elim z hw
        exact ⟨a, fun j e => by have := b j e; omega⟩
    cl := fun i j e hj => by
      by_cases z : j = k
      · subst z
        rw [only i e, List.getElem?_set_self (by rw [List.length_set, x.len]; exact hk)]
      · have : j ≠ i0 := by
          rintro rfl
          obtain ⟨_, _, _, c', e1, e2⟩ := mate_some e
          rw [hc0] at e1; cases e1; rw [op_not_cl ho0] at e2; cases e2
        rw [get j z this]
        exact x.cl i j e (by omega)
    non := fun j c' hj hc hn => by
      have z : j ≠ k := by rintro rfl; have := hn i0 m0; omega
      have z2 : j ≠ i0 := by rintro rfl; rw [hc0] at hj; cases hj; rw [ho0] at hc; cases hc
      rw [get j z z2]
      exact x.non j c' hj hc fun i e => by have := hn i e; omega
    fut := fun i c' hi hc hk' => by
      rw [get i (by omega) (by omega)]
      exact x.fut i c' hi hc (by omega) }
theorem Fwd.push_nd {l W : List Nat} {k : Nat} {arr : List (Option Nat)} (x : Fwd l k W arr) (nd : W.Nodup) : (k :: W).Nodup :=
  List.nodup_cons.mpr ⟨fun h => by obtain ⟨p, q, e⟩ := List.append_of_mem h; exact Nat.lt_irrefl _ (x.stk p k q e).1, nd⟩
theorem not_sign {c : Nat} (h1 : ¬ isOp c = true) (h2 : ¬ isCl c = true) : isOp c = false ∧ isCl c = false := ⟨by simpa using h1, by simpa using h2⟩
theorem fwd_all (l : List Nat) : ∀ k, k ≤ l.length → ∃ W arr, Fwd l k W arr ∧ W.Nodup
  | 0, _ => ⟨[], _, fwd_start l, List.nodup_nil⟩
  | k + 1, hk => by
    obtain ⟨W, arr, x, nd⟩ := fwd_all l k (by omega)
    obtain ⟨c, h⟩ : ∃ c, l[k]? = some c := ⟨l[k], by simp⟩
    by_cases h1 : isOp c = true
    · exact ⟨_, _, x.opn h h1, x.push_nd nd⟩
    · by_cases h2 : isCl c = true
      · cases W with
        | nil => exact ⟨_, _, x.clear h h2 (fun i q e => by cases e), List.nodup_nil⟩
        | cons i q =>
          by_cases e : oth (l.getD i 0) = c
          · exact ⟨_, _, x.pop h h2 e nd, (List.nodup_cons.mp nd).2⟩
          · exact ⟨_, _, x.clear h h2 (fun i' q' e' => by cases e'; exact e), List.nodup_nil⟩
      · obtain ⟨a, b⟩ := not_sign h1 h2
        exact ⟨_, _, x.lett h a b, nd⟩
theorem mates_ex (l : List Nat) : ∃ arr, Mates l arr := by
  obtain ⟨W, arr, x, _⟩ := fwd_all l l.length (Nat.le_refl _)
  exact ⟨arr, x.done⟩
theorem mate_inj {l : List Nat} {i i' j : Nat} (h : mate l i = some j) (h' : mate l i' = some j) : i = i' := by
  obtain ⟨arr, x⟩ := mates_ex l
  have e := x.cl i j h
  rw [x.cl i' j h'] at e
  cases e; rfl
structure Bwd (l : List Nat) (a : Nat) (arr : List (Option Nat)) : Prop where
  len : arr.length = l.length
  op : ∀ i c, l[i]? = some c → isOp c = true → a ≤ i → arr[i]? = some (mate l i)
  rest : ∀ i c, l[i]? = some c → (i < a ∨ isOp c = false) → arr[i]? = some none
theorem Bwd.skip {l : List Nat} {a c : Nat} {arr : List (Option Nat)} (x : Bwd l (a + 1) arr) (h : l[a]? = some c) (hc : isOp c = false ∨ mate l a = none) : Bwd l a arr where
  len := x.len
  op := fun i c' hi ho hai => by
    by_cases z : i = a
    · subst z
      rw [h] at hi; cases hi
      rcases hc with hc | hc
      · rw [hc] at ho; cases ho
      · rw [hc]; exact x.rest i c h (.inl (by omega))
    · exact x.op i c' hi ho (by omega)
  rest := fun i c' hi hr => by
    rcases hr with hr | hr
    · exact x.rest i c' hi (.inl (by omega))
    · exact x.rest i c' hi (.inr hr)
theorem Bwd.put {l : List Nat} {a c j : Nat} {arr : List (Option Nat)} (x : Bwd l (a + 1) arr) (h : l[a]? = some c) (hm : mate l a = some j) : Bwd l a (arr.set a (some j)) where
  len := by rw [List.length_set]; exact x.len
  op := fun i c' hi ho hai => by
    by_cases z : i = a
    · subst z
      rw [List.getElem?_set_self (by rw [x.len]; exact (List.getElem?_eq_some_iff.mp hi).1), hm]
    · rw [List.getElem?_set_ne (Ne.symm z)]; exact x.op i c' hi ho (by omega)
  rest := fun i c' hi hr => by
    have z : i ≠ a := by
      rintro rfl
      rcases hr with hr | hr
      · omega
      · obtain ⟨⟨c2, h2, h3⟩, _⟩ := mate_some hm
        rw [hi] at h2; cases h2; rw [hr] at h3; cases h3
    rw [List.getElem?_set_ne (Ne.symm z)]
    rcases hr with hr | hr
    · exact x.rest i c' hi (.inl (by omega))
    · exact x.rest i c' hi (.inr hr)
structure Scan (l : List Nat) (a t s : Nat) : Prop where
  lt : a < s
  le : s ≤ l.length
  eq : mate l a = pm [t] (l.drop s) s
theorem Scan.lett {l : List Nat} {a t s c : Nat} (x : Scan l a t s) (h : l[s]? = some c) (h1 : isOp c = false) (h2 : isCl c = false) : Scan l a t (s + 1) :=
  ⟨by have := x.lt; omega, (List.getElem?_eq_some_iff.mp h).1, by rw [x.eq, drop_at h, pm_lt h1 h2]⟩
theorem Scan.pair {l : List Nat} {a t s c j : Nat} (x : Scan l a t s) (h : l[s]? = some c) (hm : mate l s = some j) : Scan l a t (j + 1) := by
  obtain ⟨⟨c', h1, h2⟩, h3, h4, _⟩ := mate_some hm
  rw [h] at h1; cases h1
  refine ⟨by have := x.lt; omega, h4, ?_⟩
  have e := pm_over (l.drop (s + 1)) [] (oth c) [t] (s + 1) (by simp)
  rw [mate_op h h2] at hm
  rw [x.eq, drop_at h, pm_op h2]
  show pm ([] ++ oth c :: [t]) _ _ = _
  rw [e]
  show (pm [oth c] _ _).bind _ = _
  rw [hm]
  show pm [t] ((l.drop (s + 1)).drop (j + 1 - (s + 1))) (j + 1) = _
  rw [List.drop_drop]
  have : s + 1 + (j + 1 - (s + 1)) = j + 1 := by omega
  rw [this]
structure Sec (l : List Nat) (a : Nat) (arr : List (Option Nat)) : Prop where
  len : arr.length = l.length
  op : ∀ i c, l[i]? = some c → isOp c = true → arr[i]? = some (mate l i)
  cl : ∀ i j, mate l i = some j → i < a → arr[j]? = some (some i)
  non : ∀ j c, l[j]? = some c → isOp c = false → (∀ i, mate l i = some j → a ≤ i) → arr[j]? = some none
theorem Sec.done {l : List Nat} {arr : List (Option Nat)} (x : Sec l l.length arr) : Mates l arr :=
  ⟨x.len, x.op, fun i j e => x.cl i j e (by have := mate_some e; omega), fun j c h hc hn => x.non j c h hc fun i e => absurd e (hn i)⟩
theorem Sec.keep {l : List Nat} {a : Nat} {arr : List (Option Nat)} (x : Sec l a arr) (h : mate l a = none) : Sec l (a + 1) arr :=
  ⟨x.len, x.op, fun i j e hi => x.cl i j e (by have : i ≠ a := (by rintro rfl; rw [h] at e; cases e); omega), fun j c hj hc hn => x.non j c hj hc fun i e => by have := hn i e; omega⟩
theorem Sec.put {l : List Nat} {a j : Nat} {arr : List (Option Nat)} (x : Sec l a arr) (h : mate l a = some j) : Sec l (a + 1) (arr.set j (some a)) := by
  obtain ⟨_, h2, h3, cj, h4, h5⟩ := mate_some h
  refine ⟨by rw [List.length_set]; exact x.len, fun i c hi hc => ?_, fun i j' e hi => ?_, fun j' c hj hc hn => ?_⟩
  · have z : i ≠ j := by rintro rfl; rw [hi] at h4; cases h4; rw [op_not_cl hc] at h5; cases h5
    rw [List.getElem?_set_ne (Ne.symm z)]; exact x.op i c hi hc
  · by_cases z : j' = j
    · subst z
      rw [mate_inj e h, List.getElem?_set_self (by rw [x.len]; exact h3)]
    · rw [List.getElem?_set_ne (Ne.symm z)]
      have : i ≠ a := by rintro rfl; rw [h] at e; cases e; exact z rfl
      exact x.cl i j' e (by omega)
  · have z : j' ≠ j := by rintro rfl; have := hn a h; omega
    rw [List.getElem?_set_ne (Ne.symm z)]
    exact x.non j' c hj hc fun i e => by have := hn i e; omega
end N1
set_option Elab.async false
set_option linter.all false
set_option maxRecDepth 100000
set_option maxHeartbeats 4000000
namespace N1
open PySem PySem.Spec PyProof.Rows L2
open Sem (wp)
theorem runs_more {M : Model} {G : PySem.Ctx} {q : Pos} {m : Sem Fin} {fr : List Frame} {a b : Shared} {e : End} (r : Runs M G q m fr a e b) : a.gens.size ≤ b.gens.size := by
  induction r <;> (try simp only [Shared.setGen, Array.size_push, Array.size_setIfInBounds] at *) <;> omega
theorem wakes_more {M : Model} {G : PySem.Ctx} {q : Pos} {g : Nat} {r : Resume} {a b : Shared} {res : GenResult} (k : Wakes M G q g r a res b) : a.gens.size ≤ b.gens.size := by
  have sz : ∀ (z : Shared) (x : GenState), (z.setGen g x).gens.size = z.gens.size := fun z x => by simp [Shared.setGen]
  unfold Wakes at k
  split at k
  · cases k
  · split at k
    · obtain ⟨_, c, hr, _, _, rfl⟩ := k
      have := runs_more hr
      rw [sz] at this ⊢
      exact this
    · rw [k.2]; first | exact Nat.le_refl _ | (rw [sz]; exact Nat.le_refl _)
    · rw [k.2]; first | exact Nat.le_refl _ | (rw [sz]; exact Nat.le_refl _)
  · obtain ⟨_, c, hr, _, _, rfl⟩ := k
    have := runs_more hr
    rw [sz] at this ⊢
    exact this
  · rw [k.2]; first | exact Nat.le_refl _ | (rw [sz]; exact Nat.le_refl _)
  · rw [k.2]; first | exact Nat.le_refl _ | (rw [sz]; exact Nat.le_refl _)
theorem wp_more {α : Type} (M : Model) (G : PySem.Ctx) (n : Nat) (m : Sem α) : ∀ (Q : α → Pos → Shared → Prop) (E : Value → Pos → Shared → Prop) (q : Pos) (a : Shared), n ≤ a.gens.size → wp M G m Q E q a →
    wp M G m (fun x q' b => n ≤ b.gens.size ∧ Q x q' b) (fun x q' b => n ≤ b.gens.size ∧ E x q' b) q a := by
  induction m with
  | pure x => exact fun Q E q a l h => ⟨l, h⟩
  | raise x => exact fun Q E q a l h => ⟨l, h⟩
  | unsupported _ => exact fun Q E q a _ h => h
  | finish _ => exact fun Q E q a _ h => h
  | register _ _ => exact fun Q E q a _ h => h
  | yield _ _ _ _ => exact fun Q E q a _ h => h
  | fork _ _ => exact fun Q E q a _ h => h
  | await _ _ _ _ _ => exact fun Q E q a _ h => h
  | rule _ k ih => exact fun Q E q a l h => ih () Q E q a l h
  | «at» q' k ih => exact fun Q E q a l h => ih () Q E q' a l h
  | point _ k ih => exact fun Q E q a l h => ih () Q E q a l h
  | loadIfAlive _ k ih => exact fun Q E q a l h => ih _ Q E q a l h
  | alloc o k ih => exact fun Q E q a l h => ih _ Q E q _ l h
  | fresh k ih => exact fun Q E q a l h => ih _ Q E q _ l h
  | ask k ih => exact fun Q E q a l h => ih _ Q E q a l h
  | os _ _ k ih => exact fun Q E q a l h => ih _ Q E q _ l h
  | handled _ k ih => exact fun Q E q a l h => ih _ Q E q a l h
  | stack k ih => exact fun Q E q a l h => ih _ Q E q a l h
  | thread k ih => exact fun Q E q a l h => ih _ Q E q a l h
  | load _ _ k ih => exact fun Q E q a l h => let ⟨o, ho, h'⟩ := h; ⟨o, ho, ih o Q E q a l h'⟩
  | update _ _ _ k ih => exact fun Q E q a l h => ⟨h.1, ih () Q E q _ l h.2⟩
  | choose _ _ k ih => exact fun Q E q a l h => ⟨h.1, ih _ Q E q _ l h.2⟩
  | genState _ k ih => exact fun Q E q a l h => let ⟨z, hz, h'⟩ := h; ⟨z, hz, ih _ Q E q a l h'⟩
  | call _ _ _ _ k ih => exact fun Q E q a l h => let ⟨z, b, hz, h'⟩ := h; ⟨z, b, hz, ih z Q E q b (Nat.le_trans l (runs_more hz)) h'⟩
  | resume _ _ _ k ih => exact fun Q E q a l h => let ⟨z, b, hz, h'⟩ := h; ⟨z, b, hz, ih z Q E q b (Nat.le_trans l (wakes_more hz)) h'⟩
  | newGen _ k ih => exact fun Q E q a l h => ih _ Q E q _ (by simpa using Nat.le_succ_of_le l) h
theorem any_more {α : Type} {M : Model} {A : Around} {a : Shared} {m : Sem α} {Q : α → Shared → Prop} {E : Value → Shared → Prop} {n : Nat} (l : n ≤ a.gens.size) (h : wpAny M A m Q E a) :
    wpAny M A m (fun x b => n ≤ b.gens.size ∧ Q x b) (fun x b => n ≤ b.gens.size ∧ E x b) a := fun G q hG => wp_more M G n m _ _ q a l (h G q hG)
def TbO (P : Addr) (h : Heap) : Prop := ∃ ps : Array Value, h.get? P = some (PySem.W.tabObj ps) ∧ TriplesOk ps.toList
abbrev Tb (P : Addr) (H : Hp) : Prop := H P = some (.ext (TbO P))
theorem Tb.same {P : Addr} {H H' : Hp} (t : Tb P H) (k : Same H H') : Tb P H' := k _ _ t
theorem Tb.kp {P p : Addr} {H H' : Hp} (t : Tb P H) (k : Kp p H H') {xs : List V} (hp : H p = some (.lst xs)) : Tb P H' := k _ _ (fun e => by subst e; unfold Tb at t; rw [hp] at t; cases t) t
def BMod (mg : Str → Option Value) (base : Heap) : Prop := ∃ (bm : Addr) (ob : Obj), mg "__builtins__" = some (.ref bm) ∧ bm ≠ builtinsNs ∧ base.get? bm = some ob ∧ ob.cls = .type "module" ∧ ob.dict = some builtinsNs ∧ ob.data = .plain
section
variable {X : Cx} {pins : List (Addr × Obj)} {σ : L2.St} {H : Hp} {s : Shared}
theorem upd_id {H : Hp} {a : Addr} {o : HO} (h : H a = some o) : upd H a o = H := by
  funext b
  by_cases e : b = a
  · subst e; rw [upd_same, h]
  · rw [upd_ne e]
theorem tb_ext {P : Addr} {h h' : Heap} (x : TbO P h) (k : ∀ o, h.get? P = some o → h'.get? P = some o) : TbO P h' := let ⟨ps, e, t⟩ := x; ⟨ps, k _ e, t⟩
theorem tb_ok {prog : Program} {w : World} {H : Hp} {h : Heap} {P : Addr} (x : TbO P h) : ObjOk prog w H h P (.ext (TbO P)) := ⟨x, let ⟨_, e, _⟩ := x; ⟨_, e⟩, fun _ _ y k => tb_ext y k⟩
theorem gcode {A : Around} {E : Value → Shared → Prop} {c P : Addr} {pos : Pos} {qn : Str} {scope : Scope} {Q : Value → Shared → Prop} (I : Inv X pins σ H s) (hc : X.env.code = .ref c) (hd : PySem.W.CodeHd X.base c P) (ht : Tb P H)
    (h : ∀ code s', Inv X pins σ H s' → s'.gens = s.gens → s.heap.objs.size ≤ s'.heap.objs.size → (∀ b o, b ≠ P → s.heap.get? b = some o → s'.heap.get? b = some o) → Q code s') : wpAny (model X.prog X.w) A (genexprCode X.env pos qn scope) Q E s := by
  obtain ⟨⟨ps, e, tr⟩, _, _⟩ := I.hok P _ ht
  have hd' := hd.keeps I.bk
  have hcode := hd'.code e tr
  have htab := hd'.tab e
  cases hf : codeAmong pos ps.toList with
  | some c' => exact wpAny_genexprCode_hit hc hcode hf (h c' s I rfl (Nat.le_refl _) fun _ _ _ z => z)
  | none =>
    refine wpAny_genexprCodeX hc hcode htab hf fun c' h' tk hx h1 h2 hcode' _ htab' _ => ?_
    obtain ⟨_, _, _, _, _, _, _, _, _, _, _, _, _, _, _, _, _, _, _, tr', _⟩ := hcode'
    have kp : ∀ b u, b ≠ P → s.heap.get? b = some u → h'.get? b = some u := fun b u n z => hx b u n z
    have I' := I.write (x := P) (e := P) (o := .ext (TbO P)) (h' := h') (t' := tk) (by rw [ht]; trivial) (.inl rfl) kp ⟨_, htab'.2⟩ (tb_ok ⟨_, htab'.2, tr'⟩)
    rw [upd_id ht] at I'
    exact h _ _ I' rfl (Nat.le_of_lt (Nat.lt_of_le_of_lt h1 h2)) kp
theorem gblt {M : Model} {A : Around} {E : Value → Shared → Prop} {Q : Addr → Shared → Prop} {run : Addr} (I : Inv X pins σ H s) (hb : BMod X.mg X.base) (h : Q builtinsNs s) : wpAny M A (builtinsFor X.env.globals run) Q E s := by
  obtain ⟨bm, ob, h1, h2, h3, h4, h5, h6⟩ := hb
  rw [I.ok.glob]
  exact wpAny_builtinsFor (I.ok.mod.glob.keeps I.bk) h1 h2 (I.bk _ _ h3) h4 h5 h6 h
end
end N1
set_option Elab.async false
set_option linter.all false
set_option maxRecDepth 100000
set_option maxHeartbeats 4000000
namespace N1
open PySem PySem.Spec PyProof.Rows L2
abbrev gx (X : Cx) (N : List Str) (A : Around) (s : Shared) (H : Hp) (env : Env) (fp : List Addr) : Cx := { X with A := A, N := N, s_0 := s, H_0 := H, env := env, outer := X.stack, stack := env :: X.stack, ex := fp, fn := fun _ => false, pn := [], xe := fun _ _ => False }
def capS (σ : L2.St) (cap : List (Option Nat)) : L2.St := cap.map fun c => match c with
  | none => none
  | some j => match σ[j]? with
    | some (some v) => some v
    | _ => none
structure GenOk (N : List Str) (sc scope : Scope) (Ng : List Str) (cap : List (Option Nat)) : Prop where
  kind : scope.kind = .function
  co : scope.isCoroutine = false
  nocell : ∀ y ∈ scope.names, y.2 ≠ .cell
  dot : scope.names.lookup (".0" : Str) = some .local
  uniq : ∀ y ∈ scope.names, scope.names.lookup y.1 = some y.2
  free : ∀ y ∈ scope.names, y.2 = .free → sc.names.lookup y.1 = some .cell
  nd : Ng.Nodup
  len : cap.length = Ng.length
  cap : ((cap.zip Ng).all fun p => match p.1 with | none => true | some j => decide (N[j]? = some p.2) && decide (scope.names.lookup p.2 = some .free)) = true
theorem GenOk.at {N : List Str} {sc scope : Scope} {Ng : List Str} {cap : List (Option Nat)} (ok : GenOk N sc scope Ng cap) {i j : Nat} {x : Str} (h1 : cap[i]? = some (some j)) (h2 : Ng[i]? = some x) : N[j]? = some x ∧ scope.names.lookup x = some .free := by
  have hm : (some j, x) ∈ cap.zip Ng := by
    apply List.mem_of_getElem? (i := i)
    simp [List.zip, List.getElem?_zipWith, h1, h2]
  have := List.all_eq_true.mp ok.cap _ hm
  simp only [Bool.and_eq_true, decide_eq_true_eq] at this
  exact this
section
variable {X : Cx} {pins : List (Addr × Obj)} {σ : L2.St} {H : Hp} {s : Shared}
theorem gen_start {scope : Scope} {Ng : List Str} {cap : List (Option Nat)} {fp : List Addr} {A : Around} {code : Value} {m : Str → Option Value} {h' : Heap} {g' : Array GenState} {t' : Nat} (I : Inv X pins σ H s) (ok : GenOk X.N X.env.scope scope Ng cap) (hfp : ∀ b ∈ fp, FpOk X pins H b ∧ b < s.heap.objs.size)
    (hA : A.frames = some (genEnv scope (cloFrom X.env.cells scope.names []) s.heap.objs.size code builtinsNs X.env :: X.stack)) (hh : A.handled = none)
    (hn : h'.Ns s.heap.objs.size m) (kp : ∀ b o, s.heap.get? b = some o → h'.get? b = some o) (hg : AllBare g') :
    Inv (gx X Ng A s H (genEnv scope (cloFrom X.env.cells scope.names []) s.heap.objs.size code builtinsNs X.env) fp) [] (capS σ cap) H { s with heap := h', gens := g', toks := t' } := by
  have hfree : ∀ y ∈ scope.names, y.2 = .free → ∃ c, X.env.cells.lookup y.1 = some c := fun y hy e => I.ok.has _ (.inl (ok.free y hy e))
  generalize hcenv : genEnv scope (cloFrom X.env.cells scope.names []) s.heap.objs.size code builtinsNs X.env = cenv at hA
  have hL : cenv.locals = s.heap.objs.size := by rw [← hcenv]; rfl
  have hcl : cenv.cells = cloFrom X.env.cells scope.names [] := by rw [← hcenv]; rfl
  have hsc : cenv.scope = scope := by rw [← hcenv]; rfl
  have mem : ∀ {y c}, cenv.cells.lookup y = some c → X.env.cells.lookup y = some c ∧ c < s.heap.objs.size := fun {y c} e => by
    rw [hcl] at e
    rcases cloFrom_mem (PySem.mem_of_lookup e) with hm | ⟨h1, rfl⟩
    · cases hm
    · obtain ⟨c, hc⟩ := hfree _ h1 rfl
      rw [hc]
      obtain ⟨w, z⟩ := I.cell _ _ hc
      exact ⟨rfl, z.lt⟩
  have look : ∀ {y}, scope.names.lookup y = some .free → ∃ c, cenv.cells.lookup y = some c ∧ X.env.cells.lookup y = some c := fun {y} hl => by
    obtain ⟨c', e'⟩ := mem_lookup (cloFrom_has (cells := X.env.cells) (acc := []) (PySem.mem_of_lookup hl))
    rw [← hcl] at e'
    exact ⟨c', e', (mem e').1⟩
  have okB : (gx X Ng A s H cenv fp).Ok := by
    refine ⟨I.ok.mod, by show cenv.scope.kind = _; rw [hsc]; exact ok.kind, by show cenv.globals = _; rw [← hcenv]; exact I.ok.glob, by show cenv.builtins = _; rw [← hcenv]; rfl, by show s.heap.objs.size ≤ cenv.locals; rw [hL]; exact Nat.le_refl _,
      fun y z c e1 e2 => I.ok.inj y z c (mem e1).1 (mem e2).1, fun y hy => ?_, fun y c z e => (by cases z), fun _ => hh, hA, .inr ⟨rfl, by show cenv.frame = some cenv.locals; rw [← hcenv]; rfl⟩, fun b hb => ⟨?_, fun y c e z => ?_⟩, I.bs, Nat.le_trans I.ok.bsz I.sz, fun b o e hb => ?_, fun b hb z => ?_, I.stack, I.stkFree⟩
    · rcases hy with hy | hy
      · have hy : cenv.scope.names.lookup y = some .cell := hy
        rw [hsc] at hy
        exact absurd rfl (ok.nocell _ (PySem.mem_of_lookup hy))
      · have hy : cenv.scope.names.lookup y = some .free := hy
        rw [hsc] at hy
        obtain ⟨c, h1, _⟩ := look hy
        exact ⟨c, h1⟩
    · show b ≠ cenv.locals
      rw [hL]; exact Nat.ne_of_lt (hfp b hb).2
    · exact (hfp b hb).1.2.2.2.2.1 y c (mem e).1 z
    · rcases (hfp b hb).1.2.2.2.1 with z | z
      · exact I.ok.noex b o e z
      · exact absurd (Nat.lt_of_lt_of_le (Heap.lt_size e) (Nat.le_trans I.ok.bsz z)) (Nat.lt_irrefl _)
    · rcases List.mem_cons.mp (I.stkSub b z) with z | z
      · exact (hfp b hb).1.2.1 z
      · exact (hfp b hb).1.2.2.1 z
  refine ⟨okB, rfl, hg, Un.kept kp, ⟨m, ?_, fun i y av e1 e2 e3 => ?_⟩, fun y c e => ?_, ?_, fun y c e => ?_, fun p hp => ?_, I.hok.kept kp, ?_⟩
  · show Heap.Ns _ cenv.locals _
    rw [hL]; exact hn
  · have e1 : Ng[i]? = some y := e1
    have e2 : (cap.map _)[i]? = some (some av) := e2
    rw [List.getElem?_map] at e2
    cases hc : cap[i]? with
    | none => rw [hc] at e2; cases e2
    | some o =>
      rw [hc] at e2
      cases o with
      | none => simp at e2
      | some j =>
        obtain ⟨n1, n2⟩ := ok.at hc e1
        have e2' : (match σ[j]? with | some (some v) => some v | _ => none) = some av := by simpa using e2
        have e2 : σ[j]? = some (some av) := by
          split at e2'
          · rename_i v hv; cases e2'; exact hv
          · cases e2'
        have hce := ok.free _ (PySem.mem_of_lookup n2) rfl
        obtain ⟨mm, _, hl⟩ := I.loc
        obtain ⟨w, r, q⟩ := hl j y av n1 e2 (.inr (.inl hce))
        obtain ⟨c, h1, h2⟩ := look n2
        refine ⟨w, r, .inr ⟨.inr (by show cenv.scope.names.lookup y = _; rw [hsc]; exact n2), c, h1, ?_⟩⟩
        rcases q with ⟨k, _⟩ | ⟨_, c', e', z⟩
        · have k : X.env.scope.names.lookup y = some .local := k
          rw [hce] at k; cases k
        · rw [h2] at e'; cases e'
          exact z.keeps kp
  · obtain ⟨w, z⟩ := I.cell y c (mem e).1
    exact ⟨w, z.keeps kp⟩
  · show H cenv.locals = none
    rw [hL]; exact I.hok.fresh (Nat.le_refl _)
  · exact I.freeC y c (mem e).1
  · exact absurd (show p ∈ ([] : List (Addr × Obj)) ++ [] from hp) (by simp)
  · show (cap.map _).length = Ng.length
    rw [List.length_map]; exact ok.len
theorem Inv.gens {g' : Array GenState} (I : Inv X pins σ H s) (hg : AllBare g') : Inv X pins σ H { s with gens := g' } := ⟨I.ok, I.os, hg, I.base, I.loc, I.cell, I.free, I.freeC, I.pin, I.hok, I.len⟩
theorem gen_end {Ng : List Str} {A : Around} {env : Env} {fp : List Addr} {pl : List (Addr × Obj)} {τ : L2.St} {H1 : Hp} {s1 : Shared} (I : Inv X pins σ H s) (hfp : ∀ b ∈ fp, FpOk X pins H b) (J : Inv (gx X Ng A s H env fp) pl τ H1 s1) : Inv X pins σ H1 s1 :=
  I.call' J.os J.base J.hok J.bare fun b hb => ⟨(hfp b hb).2.2.2.1, (hfp b hb).2.1, (hfp b hb).2.2.2.2.1, (hfp b hb).2.2.2.2.2⟩
end
end N1
set_option Elab.async false
set_option linter.all false
set_option maxRecDepth 100000
set_option maxHeartbeats 4000000
namespace N1
open PySem PySem.Spec PyProof.Rows L2
structure Gn where
  X : Cx
  pins : List (Addr × Obj)
  σ : L2.St
  H : Hp
  s : Shared
  Ng : List Str
  cap : List (Option Nat)
  own : List Nat
  scope : Scope
  code : Value
  fp : List Addr
  it : Addr
  tn : Nat → Heap → Prop
  J : It
  tg : Expr
  iter : Expr
  elt : Expr
  pos : Pos
  a : Addr
  g : Nat
  n : Nat
  val : Nat → V
  Pv : Nat → Hp → Prop
  A : Around
namespace Gn
abbrev env (G : Gn) : Env := genEnv G.scope (cloFrom G.X.env.cells G.scope.names []) G.s.heap.objs.size G.code builtinsNs G.X.env
abbrev e (G : Gn) : Expr := .GeneratorExp G.elt [⟨G.tg, G.iter, [], 0⟩] G.scope G.pos
abbrev loop (G : Gn) : Code := .compLoop G.e 0 (.ref G.it) .none G.env
abbrev start (G : Gn) : Code := .compStart G.e 0 (.ref G.it) .none G.env
abbrev Xg (G : Gn) : Cx := gx G.X G.Ng (G.A.in1.over G.loop []) G.s G.H G.env G.fp
abbrev τ (G : Gn) : L2.St := capS G.σ G.cap
structure Ok (G : Gn) (gT : TG) (te : TE) : Prop where
  I : Inv G.X G.pins G.σ G.H G.s
  fpo : ∀ b ∈ G.fp, FpOk G.X G.pins G.H b ∧ b < G.s.heap.objs.size
  T : Turn G.X.prog G.X.w G.X.K G.tg G.J G.fp G.it G.tn
  calm : G.X.calm = true
  hh : G.A.handled = none
  dp : G.A.depth < recursionLimit
  pg : PG G.Xg G.tg gT
  pe : PE G.Xg G.elt te
  co : G.scope.isCoroutine = false
  av : G.s.heap.objs.size < G.a
  turn : ∀ i H, i < G.n → G.Pv i H → G.J.go i H ∧ ∀ x H', G.J.yld i H x H' → gT x G.τ H' fun σ2 H2 => wipe σ2 G.own = G.τ ∧ te σ2 H2 fun y H3 => y = G.val i ∧ G.Pv (i + 1) H3
  stop : ∀ H, G.Pv G.n H → G.J.stop G.n H
abbrev Priv (G : Gn) (H : Hp) (s : Shared) (b : Addr) : Prop := G.s.heap.objs.size < b ∧ H b = none ∧ ∃ o, s.heap.get? b = some o ∧ ∀ v, o.data ≠ .cell v
def Gd (G : Gn) (S : List Addr) (i : Nat) (s : Shared) : Prop := ∃ H, G.Pv i H ∧ Inv G.Xg [] G.τ H s ∧ G.tn i s.heap ∧ (∀ b ∈ G.fp, H b = none) ∧ (∀ b ∈ G.a :: S, G.Priv H s b) ∧ s.heap.IsGen G.a G.g ∧ G.g < s.gens.size
def Gf (G : Gn) (S : List Addr) (s : Shared) : Prop := ∃ H, G.Pv G.n H ∧ Inv G.Xg [] G.τ H s ∧ (∀ b ∈ S, G.Priv H s b)
def Kept (G : Gn) (S : List Addr) (s s' : Shared) : Prop := (∀ b ∈ G.a :: S, ∀ o, s.heap.get? b = some o → s'.heap.get? b = some o)
theorem Kept.refl {G : Gn} {S : List Addr} {s : Shared} : G.Kept S s s := fun _ _ _ e => e
theorem Kept.trans {G : Gn} {S : List Addr} {s s' s'' : Shared} (x : G.Kept S s s') (y : G.Kept S s' s'') : G.Kept S s s'' := fun b hb o e => y b hb o (x b hb o e)
def P (G : Gn) (S : List Addr) : Nat → Shared → Shared → Prop := fun m s0 s1 => m = 0 ∧ G.Gf S s1 ∧ G.Kept S s0 s1
def Y (G : Gn) (S : List Addr) : Protocol := fun m s0 v s1 kap => ∃ i, i + m + 1 = G.n ∧ RelV (G.val i) v ∧ G.Gd S (i + 1) s1 ∧ G.Kept S s0 s1 ∧ ∀ s2, G.Gd S (i + 1) s2 → kap (.send .none) s2
end Gn
open Gn
section
variable {G : Gn} {gT : TG} {te : TE} {S : List Addr}
theorem bare_set {gs : Array GenState} {g : Nat} {x : GenState} (h : AllBare gs) (hx : x.bare = true) : AllBare (gs.setIfInBounds g x) := fun y hy => by
  obtain ⟨i, hi, rfl⟩ := Array.mem_iff_getElem.mp hy
  have hi' : i < gs.size := by simpa using hi
  rw [Array.getElem_setIfInBounds hi']
  split
  · exact hx
  · exact h _ (Array.getElem_mem hi')
theorem Gn.Gd.setGen {i : Nat} {s : Shared} {x : GenState} (h : G.Gd S i s) (hx : x.bare = true) : G.Gd S i (s.setGen G.g x) := by
  obtain ⟨H, p, I, t, f, pr, ig, gl⟩ := h
  refine ⟨H, p, ?_, t, f, pr, ig, by simpa [Shared.setGen] using gl⟩
  have := Inv.gens I (bare_set (g := G.g) (x := x) I.bare hx)
  simpa [Shared.setGen] using this
theorem Gn.Gf.setGen {s : Shared} {x : GenState} (h : G.Gf S s) (hx : x.bare = true) : G.Gf S (s.setGen G.g x) := by
  obtain ⟨H, p, I, pr⟩ := h
  refine ⟨H, p, ?_, pr⟩
  have := Inv.gens I (bare_set (g := G.g) (x := x) I.bare hx)
  simpa [Shared.setGen] using this
theorem priv_fp (ok : G.Ok gT te) {b : Addr} (hb : G.s.heap.objs.size < b) : b ≠ G.Xg.env.locals ∧ b ∉ G.Xg.fs ∧ (∀ x c, G.Xg.env.cells.lookup x = some c → c ≠ b) ∧ b ∉ G.fp := by
  refine ⟨Nat.ne_of_gt hb, ?_, fun x c e z => ?_, fun z => ?_⟩
  · intro z
    rcases List.mem_cons.mp (ok.I.stkSub b z) with z | z
    · exact absurd (Nat.lt_of_lt_of_le (z ▸ ok.I.lt) (Nat.le_of_lt hb)) (Nat.lt_irrefl _)
    · exact ok.I.nofs (Nat.le_of_lt hb) z
  · rcases cloFrom_mem (PySem.mem_of_lookup (show (cloFrom G.X.env.cells G.scope.names []).lookup x = some c from e)) with hm | ⟨h1, h2⟩
    · cases hm
    · cases q : G.X.env.cells.lookup x with
      | none =>
        rw [q] at h2
        have h2 : c = 0 := h2
        rw [← z, h2] at hb; cases hb
      | some c' =>
        rw [q] at h2
        have h2 : c = c' := h2
        obtain ⟨v, hv⟩ := ok.I.cell x c' q
        have := hv.lt
        rw [← h2, z] at this
        exact absurd (Nat.lt_trans this hb) (Nat.lt_irrefl _)
  · exact absurd (Nat.lt_trans (ok.fpo b z).2 hb) (Nat.lt_irrefl _)
theorem fp_of (ok : G.Ok gT te) {H : Hp} {pl : List (Addr × Obj)} (hf : ∀ b ∈ G.fp, H b = none) (hp : ∀ p ∈ pl, p.1 ∉ G.fp) {s : Shared} {σ : L2.St} (I : Inv G.Xg pl σ H s) : ∀ b ∈ G.fp, FpOk G.Xg pl H b := fun b hb => by
  refine ⟨hf b hb, (I.ok.exf b hb).1, I.ok.exfs b hb, .inl hb, fun x c e => (I.ok.exf b hb).2 x c e, fun p hpp z => ?_⟩
  exact hp p (by simpa using hpp) (z ▸ hb)
theorem pin_priv (ok : G.Ok gT te) {H : Hp} {s : Shared} {σ : L2.St} {S : List Addr} (I : Inv G.Xg [] σ H s) (hp : ∀ b ∈ S, G.Priv H s b) : Inv G.Xg (pinsAt S s.heap) σ H s :=
  I.pins_of fun p hpp => by
    obtain ⟨hb, e⟩ := of_pinsAt hpp
    obtain ⟨h1, h2, o, h3, h4⟩ := hp p.1 hb
    obtain ⟨q1, q2, _⟩ := priv_fp ok h1
    rw [e] at h3; cases h3
    exact ⟨e, h2, q1, q2, h4⟩
theorem seg_turns (ok : G.Ok gT te) : ∀ (k i : Nat) (s0 s : Shared), G.n - i = k → i ≤ G.n → G.Gd S i s → G.Kept S s0 s →
    Seg (model G.X.prog G.X.w) G.A.in1 (fun n s0 r s1 => r = .ok .next ∧ G.P S n s0 s1) (G.Y S) (G.n - i) s0 G.loop ((model G.X.prog G.X.w).den G.loop) [] s := by
  intro k
  induction k with
  | zero =>
    intro i s0 s hk hi gd kp
    have hin : i = G.n := by omega
    subst hin
    obtain ⟨H, p, I, t, f, pr, ig, gl⟩ := gd
    show Seg _ _ _ _ _ s0 _ ((compTurn G.e 0 (.ref G.it) .none G.env).onRaise (leaving G.env)) [] s
    rw [compTurn_gen, Sem.onRaise_eq_wrap]
    refine seg_bind_wrap (wpAny_standAt ?_)
    have I1 := pin_priv ok I pr
    have hpl : ∀ p ∈ pinsAt (G.a :: S) s.heap, p.1 ∉ G.fp := fun p hp => (priv_fp ok (pr p.1 (of_pinsAt hp).1).1).2.2.2
    refine seg_bind_wrap (thnF (ok.T.done G.Xg rfl rfl rfl ok.calm G.n _ s G.τ H (fun _ _ => False) I1 (fp_of ok f hpl I1) t (ok.stop H p)) fun r s1 h1 => ?_)
    obtain ⟨rfl, I2⟩ := h1
    have kp1 : G.Kept S s s1 := fun b hb o e => (I2.pin (b, o) (List.mem_append_right _ (mem_pinsAt hb e))).1
    refine seg_end (.ok .next) ⟨rfl, Nat.sub_self _, ⟨H, p, I2.pins_of (fun _ z => nomatch z), fun b hb => ?_⟩, kp.trans kp1⟩
    obtain ⟨h1, h2, o, h3, h4⟩ := pr b (List.mem_cons_of_mem _ hb)
    exact ⟨h1, h2, o, kp1 b (List.mem_cons_of_mem _ hb) o h3, h4⟩
  | succ k ih =>
    intro i s0 s hk hi gd kp
    have hlt : i < G.n := by omega
    obtain ⟨H, p, I, t, f, pr, ig, gl⟩ := gd
    obtain ⟨go, step⟩ := ok.turn i H hlt p
    rw [hk]
    show Seg _ _ _ _ _ s0 _ ((compTurn G.e 0 (.ref G.it) .none G.env).onRaise (leaving G.env)) [] s
    rw [compTurn_gen, Sem.onRaise_eq_wrap]
    refine seg_bind_wrap (wpAny_standAt ?_)
    have I1 := pin_priv ok I pr
    have hpl : ∀ p ∈ pinsAt (G.a :: S) s.heap, p.1 ∉ G.fp := fun p hp => (priv_fp ok (pr p.1 (of_pinsAt hp).1).1).2.2.2
    refine seg_bind_wrap (thnF (any_more (Nat.le_refl _) (ok.T.item G.Xg rfl rfl rfl ok.calm i _ s G.τ H (fun _ _ => False) I1 (fp_of ok f hpl I1) t go) |> fun z => wpAny_mono z (fun _ _ q => q) fun _ _ q => q.2) fun r s1 h1 => ?_)
    obtain ⟨l1, u, rfl, h1⟩ := h1
    refine seg_bind_wrap (thnF (any_more (Nat.le_refl _) h1 |> fun z => wpAny_mono z (fun _ _ q => q) fun _ _ q => q.2) fun _ s2 h2 => ?_)
    obtain ⟨l2, x, H2, I2, rx, y, t2, f2⟩ := h2
    have I2' := I2.pinned (fp_of ok f2 hpl I2) (ok.T.obj _ _ t2)
    refine seg_bind_wrap (thnF (any_more (Nat.le_refl _) (ok.pg _ s2 G.τ H2 x u _ I2' rx (step x H2 y)) |> fun z => wpAny_mono z (fun _ _ q => q) fun _ _ q => q.2) fun _ s3 h3 => ?_)
    obtain ⟨l3, σ3, H3, I3, w3, q3⟩ := h3
    refine seg_bind_wrap (wpAny_tests_nil ?_)
    simp only [if_true]
    have hy : ∀ v, yieldOut G.env v = yieldValue v := fun v => by
      have hc : G.env.scope.isCoroutine = false := ok.co
      simp only [yieldOut, hc, Bool.false_eq_true, if_false]
    simp only [hy]
    rw [Sem.bind_eq_wrap', Sem.bind_eq_wrap', Sem.wrap_wrap, Sem.wrap_wrap]
    refine seg_wrap (thnF (any_more (Nat.le_refl _) (ok.pe _ s3 σ3 H3 _ I3 q3) |> fun z => wpAny_mono z (fun _ _ q => q) fun _ _ q => q.2) fun v s4 h4 => ?_)
    obtain ⟨l4, yv, H4, I4, ry, e4, p4⟩ := h4
    subst e4
    have pk : ∀ b ∈ G.a :: S, ∀ o, s.heap.get? b = some o → s4.heap.get? b = some o ∧ H4 b = none := fun b hb o e =>
      have q := I4.pin (b, o) (List.mem_append_right _ (List.mem_append_left _ (mem_pinsAt hb e)))
      ⟨q.1, q.2.1⟩
    have kp4 : G.Kept S s s4 := fun b hb o e => (pk b hb o e).1
    have wk : Inv G.Xg [] G.τ H4 s4 := by
      refine (I4.pins_of (pins' := []) (fun _ z => nomatch z)).weak ?_ ?_
      · rw [← w3, wipe_length]
      · intro j v e
        rw [← w3] at e
        exact (wipe_some e).1
    have gd4 : G.Gd S (i + 1) s4 := by
      refine ⟨H4, p4, wk, ok.T.keep _ _ _ t2 fun b hb o e => (I4.pin (b, o) (List.mem_append_right _ (List.mem_append_right _ (mem_pinsAt hb e)))).1, fun b hb => ?_, fun b hb => ?_, ?_, ?_⟩
      · obtain ⟨o, e, _⟩ := ok.T.obj _ _ t2 b hb
        exact (I4.pin (b, o) (List.mem_append_right _ (List.mem_append_right _ (mem_pinsAt hb e)))).2.1
      · obtain ⟨h1, h2, o, h3, h4⟩ := pr b hb
        exact ⟨h1, (pk b hb o h3).2, o, (pk b hb o h3).1, h4⟩
      · obtain ⟨o, nm, qn, ho, r⟩ := ig
        exact ⟨o, nm, qn, kp4 _ List.mem_cons_self o ho, r⟩
      · exact Nat.lt_of_lt_of_le gl (Nat.le_trans (Nat.le_trans (Nat.le_trans l1 l2) l3) l4)
    refine seg_at (seg_yield rfl rfl rfl ⟨i, by omega, ry, gd4, kp.trans kp4, fun s5 g5 => ?_⟩)
    have := ih (i + 1) s5 s5 (by omega) hlt g5 Kept.refl
    rw [show G.n - (i + 1) = k by omega] at this
    exact seg_again rfl this
theorem seg_begin (ok : G.Ok gT te) (s : Shared) (gd : G.Gd S 0 s) :
    Seg (model G.X.prog G.X.w) G.A.in1 (fun n s0 r s1 => r = .ok .next ∧ G.P S n s0 s1) (G.Y S) G.n s G.start ((model G.X.prog G.X.w).den G.start) [] s := by
  have lp := seg_turns ok G.n 0 s s (Nat.sub_zero _) (Nat.zero_le _) gd Kept.refl
  rw [Nat.sub_zero] at lp
  have t := gd
  obtain ⟨_, _, _, t, _⟩ := t
  show Seg _ _ _ _ _ s _ ((compStart G.e 0 (.ref G.it) .none G.env).onRaise (leaving G.env)) [] s
  unfold compStart
  rw [Sem.onRaise_eq_wrap]
  show Seg _ _ _ _ _ s _ ((ask >>= _).wrap _ _ _ _) [] s
  refine seg_bind_wrap (wpAny_askSetting ?_)
  split
  · exact seg_again rfl lp
  · refine seg_bind_wrap (wpAny_rule ?_)
    show Seg _ _ _ _ _ s _ ((standAt G.iter.pos >>= _).wrap _ _ _ _) [] s
    exact seg_bind_wrap (wpAny_standAt (seg_bind_wrap (ok.T.self _ 0 s _ _ t (seg_again rfl lp))))
def Gn.St (G : Gn) (S : List Addr) (i : Nat) (s : Shared) : Prop := G.Gd S i s ∧ ∃ gs, s.gens[G.g]? = some gs ∧ ∀ s2, G.Gd S i s2 → gs.Goes (model G.X.prog G.X.w) G.A.in1 (fun n s0 r s1 => r = .ok .next ∧ G.P S n s0 s1) (G.Y S) (G.n - i) (.send .none) s2
theorem st_fresh (ok : G.Ok gT te) {s : Shared} (gd : G.Gd S 0 s) (hg : s.gens[G.g]? = some (.fresh G.start)) : G.St S 0 s := ⟨gd, _, hg, fun s2 g2 => ⟨rfl, seg_begin ok s2 g2⟩⟩
theorem gd_limit {i : Nat} {s : Shared} (gd : G.Gd S i s) : s.heap.NoLimit := let ⟨_, _, I, _⟩ := gd; I.nolimit
theorem draw {Q : Option Value → Shared → Prop} {E : Value → Shared → Prop} {i : Nat} {s : Shared} (ok : G.Ok gT te) (hi : i < G.n) (st : G.St S i s) (h : ∀ v s1, RelV (G.val i) v → G.St S (i + 1) s1 → G.Kept S s s1 → Q (some v) s1) :
    wpAny (model G.X.prog G.X.w) G.A (pyNext (.ref G.a)) Q E s := by
  obtain ⟨gd, gs, hgs, go⟩ := st
  have hm : G.n - i = (G.n - i - 1) + 1 := by omega
  refine wpAny_pyNext_genexpQ (P := G.P S) ok.hh (gd_limit gd) ok.dp (let ⟨_, _, _, _, _, _, x, _⟩ := gd; x) hgs (go _ (gd.setGen rfl)) (fun v s1 gs' hb hv => ?_) (fun s1 hp h' hk => ?_)
  · obtain ⟨j, hj, rv, gd1, kp, kap⟩ := hv
    have ej : j = i := by omega
    subst ej
    refine h v _ rv ⟨gd1.setGen hb, gs', ?_, fun s2 g2 => ?_⟩ kp
    · have gl : G.g < s1.gens.size := let ⟨_, _, _, _, _, _, _, x⟩ := gd1; x
      simp [Shared.setGen, gl]
    · have := kap s2 g2
      rw [hm] at this
      rw [show G.n - (j + 1) = G.n - j - 1 by omega]
      exact this
  · have := hp.1
    omega
theorem drawn {Q : Option Value → Shared → Prop} {E : Value → Shared → Prop} {s : Shared} (ok : G.Ok gT te) (st : G.St S G.n s) (h : ∀ s1, G.Gf S s1 → G.Kept S s s1 → Q none s1) :
    wpAny (model G.X.prog G.X.w) G.A (pyNext (.ref G.a)) Q E s := by
  obtain ⟨gd, gs, hgs, go⟩ := st
  refine wpAny_pyNext_genexpQ (P := G.P S) ok.hh (gd_limit gd) ok.dp (let ⟨_, _, _, _, _, _, x, _⟩ := gd; x) hgs (go _ (gd.setGen rfl)) (fun v s1 gs' hb hv => ?_) (fun s1 hp h' hk => ?_)
  · obtain ⟨j, _, _, gd1, _, kap⟩ := hv
    have z := kap s1 gd1
    rw [Nat.sub_self] at z
    exact z.elim
  · obtain ⟨_, gf, kp⟩ := hp
    obtain ⟨H, p, I, pr⟩ := gf.setGen (x := .finished) rfl
    refine h _ ⟨H, p, I.kept (t' := s1.toks) hk, fun b hb => ?_⟩ fun b hb o e => hk _ _ (kp b hb o e)
    obtain ⟨h1, h2, o, h3, h4⟩ := pr b hb
    exact ⟨h1, h2, o, hk _ _ h3, h4⟩
end
end N1
set_option Elab.async false
set_option linter.all false
set_option maxRecDepth 100000
set_option maxHeartbeats 4000000
namespace N1
open PySem PySem.Spec PyProof.Rows L2
theorem over_frames {A : Around} {elt : Expr} {cs : List Comprehension} {sc : Scope} {ps : Pos} {it acc : Value} {env : Env} {l : List Env} (h : A.frames = some l) : (A.over (.compLoop (.GeneratorExp elt cs sc ps) 0 it acc env) []).frames = some (env :: l) := by
  show pushEnvs [env] (pushEnvs (envsOf []) A.frames) = _
  rw [h]; rfl
theorem over_depth {A : Around} {elt : Expr} {cs : List Comprehension} {sc : Scope} {ps : Pos} {it acc : Value} {env : Env} : (A.over (.compLoop (.GeneratorExp elt cs sc ps) 0 it acc env) []).depth = A.depth + 1 := rfl
theorem over_units {A : Around} {elt : Expr} {cs : List Comprehension} {sc : Scope} {ps : Pos} {it acc : Value} {env : Env} : (A.over (.compLoop (.GeneratorExp elt cs sc ps) 0 it acc env) []).units = A.units + 3 := rfl
theorem over_handled {A : Around} {elt : Expr} {cs : List Comprehension} {sc : Scope} {ps : Pos} {it acc : Value} {env : Env} : (A.over (.compLoop (.GeneratorExp elt cs sc ps) 0 it acc env) []).handled = A.handled := rfl
theorem room_over {k : Nat} {A B : Around} (r : Room (k + 1) A) (h1 : B.handled = A.handled) (h2 : B.depth = A.depth) (h3 : B.units ≤ A.units + 4) {elt : Expr} {cs : List Comprehension} {sc : Scope} {ps : Pos} {it acc : Value} {env : Env} (h4 : B.guards = A.guards := by rfl) : Room k (B.over (.compLoop (.GeneratorExp elt cs sc ps) 0 it acc env) []) :=
  ⟨by rw [over_handled, h1]; exact r.hd, by have := r.dp; rw [over_depth, h2]; omega, by have := r.un; rw [over_units]; omega, by
    show pushGuards (Code.guards (.compLoop (.GeneratorExp elt cs sc ps) 0 it acc env)) (pushGuards (guardsOf []) B.guards) = some []
    rw [h4, r.gd]
    first | rfl | simp [Code.guards, Code.isGuard, pushGuards, guardIds, guardsOf]⟩
structure GCode (X : Cx) (c P : Addr) : Prop where
  code : X.env.code = .ref c
  hd : PySem.W.CodeHd X.base c P
  bm : BMod X.mg X.base
section
variable {X : Cx} {pins : List (Addr × Obj)} {σ : L2.St} {H : Hp} {s : Shared}
theorem gen_make {c P : Addr} {scope : Scope} {Ng : List Str} {cap : List (Option Nat)} {tg iter elt : Expr} {pos : Pos} {wi : TI} {R : It → Hp → Prop} {Q : Value → Shared → Prop} (I : Inv X pins σ H s) (gc : GCode X c P) (ok : GenOk X.N X.env.scope scope Ng cap) (hd : X.A.depth < recursionLimit) (hh : X.A.handled = none)
    (hi : PI X tg iter wi) (hs : ∀ x, genFold iter X.env x = pure x) (hw : wi σ H fun J H1 => Tb P H1 ∧ R J H1)
    (h : ∀ (G : Gn) (s5 : Shared), G.X = X → G.pins = pins → G.σ = σ → G.Ng = Ng → G.cap = cap → G.scope = scope → G.tg = tg → G.iter = iter → G.elt = elt → G.pos = pos → R G.J G.H → Inv G.X G.pins G.σ G.H G.s → (∀ b ∈ G.fp, FpOk G.X G.pins G.H b ∧ b < G.s.heap.objs.size) → Turn G.X.prog G.X.w G.X.K G.tg G.J G.fp G.it G.tn →
      G.s.heap.objs.size < G.a → (∀ A : Around, A.frames = some (G.env :: G.X.stack) → A.handled = none → Inv (gx G.X G.Ng A G.s G.H G.env G.fp) [] (capS G.σ G.cap) G.H s5) → G.tn 0 s5.heap → G.Priv G.H s5 G.a → s5.heap.IsGen G.a G.g → s5.gens[G.g]? = some (.fresh G.start) → Q (.ref G.a) s5) :
    wpAny (model X.prog X.w) X.A (eval (.GeneratorExp elt [⟨tg, iter, [], 0⟩] scope pos) X.env) Q X.xe s := by
  have hfree : ∀ y ∈ scope.names, y.2 = .free → ∃ c, X.env.cells.lookup y.1 = some c := fun y hy e => I.ok.has _ (.inl (ok.free y hy e))
  refine wpAny_GeneratorExp_make (cl := cloFrom X.env.cells scope.names []) ok.co (closure_ok hfree) ok.nocell ok.dot ok.kind hd ?_ hs
  refine thn (hi pins s σ H _ I hw) fun v s1 h1 => thn h1 fun itv s2 h2 => ?_
  obtain ⟨it, fp, tn, J, H2, rfl, I2, T, t2, f2, tb, r2⟩ := h2
  refine ⟨I2.nolimit, gcode I2 gc.code gc.hd tb fun code s3 I3 hg hz kp => gblt I3 gc.bm ?_⟩
  intro h' hn' hs'
  have hsz : h'.objs.size = s3.heap.objs.size + 1 := by rw [hs'.1, Heap.size_push]
  have kp' : ∀ b o, s3.heap.get? b = some o → h'.get? b = some o := fun b o e => hs'.extBut b o (Nat.ne_of_lt (Heap.lt_size e)) (Heap.get?_push_of_some _ e)
  have nP : ∀ b ∈ fp, b ≠ P := fun b hb e => by
    have := (f2 b hb).1
    rw [e] at this
    rw [tb] at this; cases this
  have t3 : tn 0 s3.heap := T.keep _ _ _ t2 fun b hb o e => kp b o (nP b hb) e
  have f3 : ∀ b ∈ fp, FpOk X pins H2 b ∧ b < s3.heap.objs.size := fun b hb => ⟨f2 b hb, let ⟨_, e, _⟩ := T.obj _ _ t3 b hb; Heap.lt_size e⟩
  generalize hob : ({ cls := .type "generator", data := .fields #[.int s3.gens.size 0, .str "<genexpr>" (s3.toks + 1), .str (X.env.qual ++ "<genexpr>") (s3.toks + 1 + 1)] } : Obj) = ob
  have kp5 : ∀ b o, s3.heap.get? b = some o → (h'.push ob).get? b = some o := fun b o e => Heap.get?_push_of_some _ (kp' b o e)
  have fresh : H2 h'.objs.size = none := I3.hok.fresh (by rw [hsz]; exact Nat.le_succ _)
  have hget : (h'.push ob).get? h'.objs.size = some ob := Heap.get?_push_size _ (by rw [← hob]; rfl)
  refine h ⟨X, pins, σ, H2, s3, Ng, cap, [], scope, code, fp, it, tn, J, tg, iter, elt, pos, h'.objs.size, s3.gens.size, 0, fun _ => .non, fun _ _ => True, X.A⟩ _ rfl rfl rfl rfl rfl rfl rfl rfl rfl rfl r2 I3 f3 T (by show s3.heap.objs.size < h'.objs.size; rw [hsz]; exact Nat.lt_succ_self _) (fun A hA hA' => ?_) ?_ ?_ ?_ ?_
  · exact gen_start I3 ok f3 hA hA' (hn'.push ob) kp5 (AllBare.push I3.bare rfl)
  · exact T.keep _ _ _ t3 fun b hb o e => kp5 b o e
  · exact ⟨by show s3.heap.objs.size < h'.objs.size; rw [hsz]; exact Nat.lt_succ_self _, fresh, ob, hget, fun v z => by rw [← hob] at z; cases z⟩
  · exact ⟨ob, _, _, hget, by rw [← hob], by rw [← hob], by rw [← hob]⟩
  · exact Array.getElem?_push_size ..
end
section
variable {G : Gn} {gT : TG} {te : TE} {S : List Addr}
theorem st_zero (ok : G.Ok gT te) {s : Shared} (I : Inv G.Xg [] G.τ G.H s) (p : G.Pv 0 G.H) (t : G.tn 0 s.heap) (pr : ∀ b ∈ G.a :: S, G.Priv G.H s b) (ig : s.heap.IsGen G.a G.g) (hg : s.gens[G.g]? = some (.fresh G.start)) : G.St S 0 s :=
  st_fresh ok ⟨G.H, p, I, t, fun b hb => (ok.fpo b hb).1.1, pr, ig, by
    rcases Nat.lt_or_ge G.g s.gens.size with l | l
    · exact l
    · rw [Array.getElem?_eq_none l] at hg; cases hg⟩ hg
def Gn.Out (G : Gn) (s : Shared) : Prop := ∃ i H, i ≤ G.n ∧ G.Pv i H ∧ Inv G.X G.pins G.σ H s
theorem out_st (ok : G.Ok gT te) {i : Nat} {s : Shared} (hi : i ≤ G.n) (st : G.St S i s) : G.Out s :=
  let ⟨⟨H, p, I, _⟩, _⟩ := st
  ⟨i, H, hi, p, gen_end ok.I (fun b hb => (ok.fpo b hb).1) I⟩
theorem out_gf (ok : G.Ok gT te) {s : Shared} (g : G.Gf S s) : G.Out s :=
  let ⟨H, p, I, _⟩ := g
  ⟨G.n, H, Nat.le_refl _, p, gen_end ok.I (fun b hb => (ok.fpo b hb).1) I⟩
theorem all_turns {A : Around} {R : Result → Shared → Prop} (ok : G.Ok gT te) (hA : G.A = A.in1) (bv : Nat → Bool) (hv : ∀ i, G.val i = .bl (bv i)) : ∀ (k i : Nat) (s : Shared), G.n - i = k → i ≤ G.n → G.St [] i s →
    (∀ s1, G.Out s1 → R (.ok (.ret (.bool (((List.range G.n).drop i).all bv)))) s1) → codeAny (model G.X.prog G.X.w) A (.builtin "all.loop" ⟨[.ref G.a], []⟩) R s := by
  intro k
  induction k with
  | zero =>
    intro i s hk hi st h
    have hin : i = G.n := by omega
    subst hin
    refine codeAny_builtin F.entry_all_loop ?_
    rw [Around.under_plainId F.plain_all_loop _, ← hA]
    show wpAny _ G.A (pyNext (.ref G.a) >>= _) _ _ s
    refine wpAny_bind (drawn ok st fun s1 gf _ => ?_)
    refine wpAny_bind (wpAny_rule (wpAny_pure ?_))
    have := h s1 (out_gf ok gf)
    rw [List.drop_of_length_le (by simp)] at this
    exact this
  | succ k ih =>
    intro i s hk hi st h
    have hlt : i < G.n := by omega
    have hd : (List.range G.n).drop i = i :: (List.range G.n).drop (i + 1) := by
      rw [List.drop_eq_getElem_cons (by simpa using hlt)]; simp
    refine codeAny_builtin F.entry_all_loop ?_
    rw [Around.under_plainId F.plain_all_loop _, ← hA]
    show wpAny _ G.A (pyNext (.ref G.a) >>= _) _ _ s
    refine wpAny_bind (draw ok hlt st fun v s1 rv st1 _ => ?_)
    rw [hv i] at rv
    obtain rfl : v = .bool (bv i) := rv
    refine wpAny_bind (wpAny_holding (wpAny_truthy_bool ?_))
    refine wpAny_bind (wpAny_letGo ?_)
    cases hb : bv i with
    | true =>
      simp only [if_true]
      refine wpAny_pure ⟨plainId_quiet F.plain_all_loop _, ih (i + 1) _ (by omega) hlt st1 fun s2 o2 => ?_⟩
      have := h s2 o2
      rw [hd, List.all_cons, hb, Bool.true_and] at this
      exact this
    | false =>
      simp only [Bool.false_eq_true, if_false]
      refine wpAny_bind (wpAny_rule (wpAny_pure ?_))
      have := h s1 (out_st ok hlt st1)
      rw [hd, List.all_cons, hb, Bool.false_and] at this
      exact this
theorem call_all {Q : Value → Shared → Prop} {E : Value → Shared → Prop} {A : Around} {s : Shared} (ok : G.Ok gT te) (hA : G.A = A.in1) (bv : Nat → Bool) (hv : ∀ i, G.val i = .bl (bv i)) (st : G.St [] 0 s) (h : ∀ s1, G.Out s1 → Q (.bool ((List.range G.n).all bv)) s1) :
    wpAny (model G.X.prog G.X.w) A (call (.builtin "all") [.ref G.a]) Q E s := by
  refine call_function_tree F.kind_all F.plain_all F.entry_all (F.args_all1 _) ?_
  unfold Builtin.«all»
  refine wpAny_bind (m := oneArg "all" _) (wpAny_pure ?_)
  refine wpAny_bind (wpAny_pyIter_gen (let ⟨⟨_, _, _, _, _, _, x, _⟩, _⟩ := st; x) ?_)
  exact wpAny_pure ⟨plainId_quiet F.plain_all_loop _, all_turns ok hA bv hv G.n 0 s rfl (Nat.zero_le _) st fun s1 o1 => by simpa using h s1 o1⟩
end
end N1
set_option Elab.async false
set_option linter.all false
set_option maxRecDepth 100000
set_option maxHeartbeats 4000000
namespace N1
open PySem PySem.Spec PyProof.Rows L2
def Turns (J : It) (g : TG) (te : TE) (τ : L2.St) (own : List Nat) (n : Nat) (val : Nat → V) (Pv : Nat → Hp → Prop) : Prop :=
  (∀ i H, i < n → Pv i H → J.go i H ∧ ∀ x H', J.yld i H x H' → g x τ H' fun σ2 H2 => wipe σ2 own = τ ∧ te σ2 H2 fun y H3 => y = val i ∧ Pv (i + 1) H3) ∧ ∀ H, Pv n H → J.stop n H
def tAllG (P : Addr) (wi : TI) (g : TG) (te : TE) (cap : List (Option Nat)) (own : List Nat) : TE := fun σ H Q => wi σ H fun J H1 => Tb P H1 ∧ ∃ (n : Nat) (bv : Nat → Bool) (Pv : Nat → Hp → Prop), Pv 0 H1 ∧ Turns J g te (capS σ cap) own n (fun i => .bl (bv i)) Pv ∧ ∀ i H, i ≤ n → Pv i H → Q (.bl ((List.range n).all bv)) H
def tJoinG (P : Addr) (sep : List Nat) (wi : TI) (g : TG) (te : TE) (cap : List (Option Nat)) (own : List Nat) : TE := fun σ H Q => wi σ H fun J H1 => Tb P H1 ∧ ∃ (n : Nat) (val : Nat → List Nat) (Pv : Nat → Hp → Prop), Pv 0 H1 ∧ Turns J g te (capS σ cap) own n (fun i => .str (S (val i))) Pv ∧
  n ≤ 100000 ∧ ((List.range n).map val).flatten.length + n * sep.length ≤ 1000000 ∧ ∀ H, Pv n H → Q (.str (S (joinL sep ((List.range n).map val)))) H
abbrev PGx (X : Cx) (k : Nat) (Ng : List Str) (scope : Scope) (tg : Expr) (g : TG) : Prop := ∀ (A : Around) (s : Shared) (H : Hp) (C : Addr) (cl : List (Str × Addr)) (code : Value) (bi : Addr) (fp : List Addr), Room k A → PG (gx X Ng A s H (genEnv scope cl C code bi X.env) fp) tg g
abbrev PEx (X : Cx) (k : Nat) (Ng : List Str) (scope : Scope) (elt : Expr) (te : TE) : Prop := ∀ (A : Around) (s : Shared) (H : Hp) (C : Addr) (cl : List (Str × Addr)) (code : Value) (bi : Addr) (fp : List Addr), Room k A → PE (gx X Ng A s H (genEnv scope cl C code bi X.env) fp) elt te
section
variable {X : Cx} {k : Nat} {c P : Addr} {scope : Scope} {Ng : List Str} {cap : List (Option Nat)} {own : List Nat} {tg iter elt : Expr} {p pos cpos apos p1 : Pos} {wi : TI} {g : TG} {te : TE}
theorem pall (gc : GCode X c P) (ok : GenOk X.N X.env.scope scope Ng cap) (hc : X.calm = true) (hr : Room (k + 1) X.A) (hi : PI X tg iter wi) (pg : PGx X k Ng scope tg g) (pe : PEx X k Ng scope elt te) (hg : Gl X "all") (hm : X.mg "all" = none)
    (hs : ∀ x, genFold iter X.env x = pure x := by intro _; rfl) : PE X (.Call (.Name "all" p) [.GeneratorExp elt [⟨tg, iter, [], 0⟩] scope pos] [] cpos) (tAllG P wi g te cap own) := by
  intro pins s σ H Q I h
  refine wpAny_Call_Name_kw (ld_blt I hg hm rfl ?_)
  refine PyProof.Rows.callWith_builtin1 ?_ rfl rfl
  refine Calls.spliced_cons (gen_make I gc ok hr.depth hr.hd hi hs h ?_)
  rintro ⟨X', p', σ', H', s', Ng', cap', own', sc', code, fp, it, tn, J, tg', iter', elt', pos', a, gn, n', val', Pv', A'⟩ s5 e1 e2 e3 e4 e5 e6 e7 e8 e9 e10 r5 I5 f5 T5 av st0 t5 pr ig hgs
  have e1 : X' = X := e1
  have e2 : p' = pins := e2
  have e3 : σ' = σ := e3
  have e4 : Ng' = Ng := e4
  have e5 : cap' = cap := e5
  have e6 : sc' = scope := e6
  have e7 : tg' = tg := e7
  have e8 : iter' = iter := e8
  have e9 : elt' = elt := e9
  have e10 : pos' = pos := e10
  subst e1 e2 e3 e4 e5 e6 e7 e8 e9 e10
  obtain ⟨n, bv, Pv, q0, ⟨tu, stp⟩, q⟩ := r5
  let G : Gn := ⟨X', p', σ', H', s', Ng', cap', own, sc', code, fp, it, tn, J, tg', iter', elt', pos', a, gn, n, fun i => .bl (bv i), Pv, X'.A.in1⟩
  have okG : G.Ok g te := ⟨I5, f5, T5, hc, hr.hd, hr.depth, pg _ _ _ _ _ _ _ _ (room_over (B := X'.A.in1.in1) hr rfl rfl (by show X'.A.units + 1 + 1 ≤ _; omega)), pe _ _ _ _ _ _ _ _ (room_over (B := X'.A.in1.in1) hr rfl rfl (by show X'.A.units + 1 + 1 ≤ _; omega)), ok.co, av, tu, stp⟩
  have st : G.St [] 0 s5 := st_zero okG (st0 _ (over_frames (show X'.A.in1.in1.frames = some X'.stack from I5.ok.frames)) hr.hd) q0 t5 (fun b hb => by
    have e : b = a := by simpa using hb
    rw [e]; exact pr) ig hgs
  refine Calls.spliced_nil ?_
  refine call_all (G := G) okG rfl bv (fun _ => rfl) st fun s6 o6 => ?_
  obtain ⟨i, H6, hi6, p6, I6⟩ := o6
  exact ⟨.bl _, H6, I6, rfl, q i H6 hi6 p6⟩
end
end N1
set_option Elab.async false
set_option linter.all false
set_option maxRecDepth 100000
set_option maxHeartbeats 4000000
namespace N1
open PySem PySem.Spec PyProof.Rows L2
open Builtin Builtin.Str Builtin.Int
section
variable {G : Gn} {gT : TG} {te : TE} {S : List Addr}
theorem st_put (ok : G.Ok gT te) {i : Nat} {s : Shared} {b : Addr} {h' : Heap} {o' : Obj} (st : G.St S i s) (hb : b ∈ S) (ha : b ≠ G.a) (k : ∀ c o, c ≠ b → s.heap.get? c = some o → h'.get? c = some o) (hn : h'.get? b = some o') (hd : ∀ v, o'.data ≠ .cell v) : G.St S i { s with heap := h' } := by
  obtain ⟨⟨H, p, I, t, f, pr, ig, gl⟩, gs, hgs, go⟩ := st
  obtain ⟨b1, b2, _⟩ := pr b (List.mem_cons_of_mem _ hb)
  obtain ⟨q1, q2, q3, q4⟩ := priv_fp ok b1
  refine ⟨⟨H, p, ?_, ?_, f, fun c hc => ?_, ?_, gl⟩, gs, hgs, go⟩
  · exact I.turned (t' := s.toks) (it := b) k b2 q1 (.inr (Nat.le_of_lt b1)) q3 (fun p hp => nomatch hp)
  · exact ok.T.keep _ _ _ t fun c hc o e => k c o (fun z => q4 (z ▸ hc)) e
  · obtain ⟨c1, c2, o, c3, c4⟩ := pr c hc
    by_cases e : c = b
    · subst e
      exact ⟨c1, c2, o', hn, hd⟩
    · exact ⟨c1, c2, o, k c o e c3, c4⟩
  · obtain ⟨o, nm, qn, ho, r⟩ := ig
    exact ⟨o, nm, qn, k _ o (Ne.symm ha) ho, r⟩
abbrev lstO (acc : Array Value) (c : Nat) : Obj := { cls := .type "list", data := .seq acc c }
theorem vals_snoc {n : Nat} {f : Nat → V} {us : List Value} {u : Value} (h : Vals ((List.range n).map f) us) (r : RelV (f n) u) : Vals ((List.range (n + 1)).map f) (us ++ [u]) := by
  rw [List.range_succ, List.map_append]
  exact h.append (.cons r .nil)
theorem ext_turns {A : Around} {R : Result → Shared → Prop} {l : Addr} {res : Value} (ok : G.Ok gT te) (hA : G.A = A.in1) (hl : l ≠ G.a) (hz : G.n ≤ 100000) : ∀ (k i : Nat) (s : Shared) (acc : Array Value) (c : Nat), G.n - i = k → i ≤ G.n → G.St [l] i s →
    s.heap.get? l = some (lstO acc c) → Vals ((List.range i).map G.val) acc.toList →
    (∀ s1 acc1 c1, (∃ H, G.Pv G.n H ∧ Inv G.X G.pins G.σ H s1) → s1.heap.get? l = some (lstO acc1 c1) → Vals ((List.range G.n).map G.val) acc1.toList → R (.ok (.ret res)) s1) →
    codeAny (model G.X.prog G.X.w) A (.builtin "list.extend.loop" ⟨[.ref l, .ref G.a, res], []⟩) R s := by
  intro k
  induction k with
  | zero =>
    intro i s acc c hk hi st ho rv h
    have hin : i = G.n := by omega
    subst hin
    refine codeAny_builtin F.entry_extend_loop ?_
    rw [Around.under_plainId F.plain_extend_loop _, ← hA]
    show wpAny _ G.A (pyNext (.ref G.a) >>= _) _ _ s
    refine wpAny_bind (drawn ok st fun s1 gf kp => wpAny_pure (h s1 acc c ?_ (kp l (List.mem_cons_of_mem _ List.mem_cons_self) _ ho) rv))
    obtain ⟨H, p, I, _⟩ := gf
    exact ⟨H, p, gen_end ok.I (fun b hb => (ok.fpo b hb).1) I⟩
  | succ k ih =>
    intro i s acc c hk hi st ho rv h
    have hlt : i < G.n := by omega
    have hsz : acc.size = i := by have := rv.length; simpa using this.symm
    refine codeAny_builtin F.entry_extend_loop ?_
    rw [Around.under_plainId F.plain_extend_loop _, ← hA]
    show wpAny _ G.A (pyNext (.ref G.a) >>= _) _ _ s
    refine wpAny_bind (draw ok hlt st fun v s1 r1 st1 kp => ?_)
    have ho1 := kp l (List.mem_cons_of_mem _ List.mem_cons_self) _ ho
    show wpAny _ G.A (updateSeq l (·.push v) >>= _) _ _ _
    have hsl : (100000 : Nat) ≤ sizeLine := by decide
    refine wpAny_bind (wpAny_updateSeq ho1 rfl (wpAny_pure ⟨plainId_quiet F.plain_extend_loop _, ?_⟩) (by omega) (by show (acc.push v).size ≤ _; rw [Array.size_push]; omega))
    have hn := Heap.get?_update_self (Obj.mapSeq (·.push v)) ho1 rfl
    refine ih (i + 1) _ (acc.push v) _ (by omega) hlt (st_put ok st1 List.mem_cons_self hl (fun c o hc e => (Heap.get?_update_other _ _ (Ne.symm hc)).trans e) hn (fun v z => by cases z)) hn ?_ h
    rw [Array.toList_push]
    exact vals_snoc rv r1
structure Raw (G : Gn) (s : Shared) : Prop where
  I : Inv G.Xg [] G.τ G.H s
  p : G.Pv 0 G.H
  t : G.tn 0 s.heap
  pr : G.Priv G.H s G.a
  ig : s.heap.IsGen G.a G.g
  hg : s.gens[G.g]? = some (.fresh G.start)
theorem Raw.grow {s : Shared} {h' : Heap} (r : Raw G s) (ok : G.Ok gT te) (k : ∀ b o, s.heap.get? b = some o → h'.get? b = some o) : Raw G { s with heap := h' } :=
  ⟨r.I.kept (t' := s.toks) k, r.p, ok.T.keep _ _ _ r.t fun b _ o e => k b o e, let ⟨h1, h2, o, h3, h4⟩ := r.pr; ⟨h1, h2, o, k _ _ h3, h4⟩, let ⟨o, nm, qn, ho, z⟩ := r.ig; ⟨o, nm, qn, k _ _ ho, z⟩, r.hg⟩
theorem collect_all {Q : List Value → Shared → Prop} {E : Value → Shared → Prop} {A : Around} {s : Shared} (ok : G.Ok gT te) (hA : G.A = A.in1) (hz : G.n ≤ 100000) (raw : Raw G s)
    (h : ∀ s1 us, (∃ H, G.Pv G.n H ∧ Inv G.X G.pins G.σ H s1) → Vals ((List.range G.n).map G.val) us → Q us s1) : wpAny (model G.X.prog G.X.w) A (collect (.ref G.a)) Q E s := by
  have hla : s.heap.objs.size ≠ G.a := by
    obtain ⟨_, _, o, e, _⟩ := raw.pr
    exact Nat.ne_of_gt (Heap.lt_size e)
  have hbig : G.s.heap.objs.size < s.heap.objs.size := by
    obtain ⟨b1, _, o, e, _⟩ := raw.pr
    exact Nat.lt_trans b1 (Heap.lt_size e)
  unfold collect
  refine wpAny_bind (wpAny_runValue (codeAny_builtin F.entry_proto_collect ?_))
  rw [Around.under_plainId F.plain_proto_collect _]
  show wpAny _ A.in1 (newList [] >>= fun l => again (.builtin "list.__iadd__" ⟨[l, .ref G.a], []⟩)) _ _ s
  refine wpAny_bind (wpAny_newObj_type (wpAny_pure ⟨plainId_quiet F.plain_list_iadd _, codeAny_builtin F.entry_list_iadd ?_⟩))
  rw [Around.under_plainId F.plain_list_iadd _]
  have raw1 := raw.grow ok (h' := s.heap.push (lstO #[] 0)) fun b o e => Heap.get?_push_of_some _ e
  show wpAny _ A.in1 (Builtin.List.listExtendWith (.ref s.heap.objs.size) (.ref G.a) (.ref s.heap.objs.size)) _ _ { s with heap := s.heap.push (lstO #[] 0) }
  unfold Builtin.List.listExtendWith
  refine wpAny_bind (wpAny_typeOf raw1.ig.typeIs ?_)
  have n1 : Builtin.List.listSameRef (.ref s.heap.objs.size) (.ref G.a) = false := by simp [Builtin.List.listSameRef, hla]
  simp only [n1, show (Value.type "generator" == Value.type "list") = false by decide, show (Value.type "generator" == Value.type "tuple") = false by decide, Bool.or_false, Bool.false_eq_true, if_false]
  refine wpAny_bind (wpAny_pyIter_gen raw1.ig (wpAny_bind (wpAny_holding ?_)))
  unfold Builtin.List.listLengthHint
  refine wpAny_bind (wpAny_specialOf raw1.ig.typeIs F.gen_no_len ?_)
  show wpAny _ A.in1 (specialOf (Value.ref G.a) (Str.ofString "__length_hint__") >>= _) _ _ _
  refine wpAny_bind (wpAny_specialOf raw1.ig.typeIs F.gen_no_hint (wpAny_pure ?_))
  show wpAny _ A.in1 (rule "list.extend.makes-room" >>= fun _ => Builtin.List.listTouch (.ref s.heap.objs.size) >>= fun _ => again (.builtin "list.extend.loop" ⟨[.ref s.heap.objs.size, .ref G.a, .ref s.heap.objs.size], []⟩)) _ _ _
  have o1 : (s.heap.push (lstO #[] 0)).get? s.heap.objs.size = some (lstO #[] 0) := Heap.get?_push_size _ rfl
  refine wpAny_bind (wpAny_rule (wpAny_bind ?_))
  show wpAny _ A.in1 (updateSeq s.heap.objs.size (·.push .none) >>= fun _ => updateSeq s.heap.objs.size (·.pop)) _ _ _
  refine wpAny_bind (wpAny_updateSeq o1 rfl ?_)
  have o2 := Heap.get?_update_self (Obj.mapSeq (·.push Value.none)) o1 rfl
  refine wpAny_updateSeq o2 rfl ?_
  have o3 := Heap.get?_update_self (Obj.mapSeq (·.pop)) o2 rfl
  have st1 : G.St [s.heap.objs.size] 0 { s with heap := s.heap.push (lstO #[] 0) } := st_zero ok raw1.I raw1.p raw1.t (fun b hb => by
    rcases List.mem_cons.mp hb with e | hb
    · rw [e]; exact raw1.pr
    · have e : b = s.heap.objs.size := by simpa using hb
      subst e
      exact ⟨hbig, raw.I.hok.fresh (Nat.le_refl _), _, o1, fun v z => by cases z⟩) raw1.ig raw1.hg
  have st2 := st_put ok st1 List.mem_cons_self hla (h' := (s.heap.push (lstO #[] 0)).update s.heap.objs.size (Obj.mapSeq (·.push Value.none))) (fun c o hc e => (Heap.get?_update_other _ _ (Ne.symm hc)).trans e) o2 (fun v z => by cases z)
  have st3 := st_put ok st2 List.mem_cons_self hla (h' := ((s.heap.push (lstO #[] 0)).update s.heap.objs.size (Obj.mapSeq (·.push Value.none))).update s.heap.objs.size (Obj.mapSeq (·.pop))) (fun c o hc e => (Heap.get?_update_other _ _ (Ne.symm hc)).trans e) o3 (fun v z => by cases z)
  refine wpAny_pure ⟨plainId_quiet F.plain_extend_loop _, ext_turns ok hA hla hz G.n 0 _ _ _ rfl (Nat.zero_le _) st3 o3 .nil fun s1 acc1 c1 out g1 rv => ?_⟩
  show wpAny _ A (load s.heap.objs.size >>= _) _ _ s1
  exact wpAny_bind (wpAny_load g1 (wpAny_pure (h s1 _ out rv)))
end
end N1
set_option Elab.async false
set_option linter.all false
set_option maxRecDepth 100000
set_option maxHeartbeats 4000000
namespace N1
open PySem PySem.Spec PyProof.Rows L2
open Builtin Builtin.Str Builtin.Int
theorem gives_tail {x : Str} : ∀ (l : List (Str × Tok)), tooLong ((l.map (·.1)).toArray.foldl (· + ·.length + x.length) 0) = false → Gives (joinTail x (strValues l)) (joinMade x l)
  | [], h => gives_joinTail x [] h
  | [q], h => gives_joinTail x [q] h
  | q :: r :: l, h => gives_joinTail x (q :: r :: l) h
section
variable {G : Gn} {gT : TG} {te : TE}
theorem call_join {Q : Value → Shared → Prop} {E : Value → Shared → Prop} {A : Around} {s : Shared} {x : Str} {t : Tok} (ok : G.Ok gT te) (hA : G.A = A.in1.in1) (hz : G.n ≤ 100000) (raw : Raw G s) (vs : List Str) (hv : (List.range G.n).map G.val = vs.map V.str)
    (hs : (vs.map (·.length)).sum + vs.length * x.length ≤ 16777216) (h : ∀ H s1 t1, G.Pv G.n H → Inv G.X G.pins G.σ H s1 → Q (.str (Txt.join x vs) t1) s1) : wpAny (model G.X.prog G.X.w) A (call (.builtin "str.join") [.str x t, .ref G.a]) Q E s := by
  refine wpAny_call (codeAny_call_builtin F.slot_str_join.plain F.entry_str_join (F.slot_str_join.check _ _ _ _ _ _ _ _ (typeIs_str _ _ _) (F.args_str_join_2 _ _) ?_))
  rw [join_tree_other]
  refine wpAny_bind (wpAny_typeOf raw.ig.typeIs ?_)
  show wpAny _ A.in1 ((pyIter (.ref G.a)).tryCatch _ >>= fun z => collect z >>= fun us => joinTail x us) _ _ s
  refine wpAny_bind (wpAny_tryCatch (wpAny_pyIter_gen raw.ig (wpAny_bind (collect_all ok hA hz raw fun s1 us o1 rv => ?_))))
  obtain ⟨H1, p1, I1⟩ := o1
  rw [hv] at rv
  obtain ⟨l, e1, e2⟩ := strsAre_values (strs_of_vals rv)
  subst e2
  rw [e1]
  have hok := joinOk_of hs
  unfold JoinOk at hok
  rw [Bool.not_eq_true'] at hok
  have gv : Gives (joinTail x (strValues l)) (joinMade x l) := gives_tail l hok
  exact gv _ _ A (wants Q E) s1 (post_join l ⟨joinFit_length hok, fun t' k => h H1 _ t' p1 (I1.tok k)⟩)
end
section
variable {X : Cx} {k : Nat} {c P : Addr} {scope : Scope} {Ng : List Str} {cap : List (Option Nat)} {own : List Nat} {tg iter elt o : Expr} {p pos cpos apos p1 : Pos} {wi : TI} {g : TG} {te : TE}
theorem pjoinG {sep : List Nat} (gc : GCode X c P) (ok : GenOk X.N X.env.scope scope Ng cap) (hc : X.calm = true) (hr : Room (k + 1) X.A) (ho : PE X o (tC (.str (S sep)))) (hi : PI X tg iter wi) (pg : PGx X k Ng scope tg g) (pe : PEx X k Ng scope elt te)
    (hs : ∀ x, genFold iter X.env x = pure x := by intro _; rfl) (hbase : attributeBase o "join" X.env (eval o X.env) = eval o X.env := by rfl) (hline : (apos.endLine == cpos.line) = true := by rfl) :
    PE X (.Call (.Attribute o "join" apos) [.GeneratorExp elt [⟨tg, iter, [], 0⟩] scope pos] [] cpos) (tJoinG P sep wi g te cap own) := by
  intro pins s σ H Q I h
  refine PySem.Call_method1 hbase rfl hline (thn (ho pins s σ H (fun v H1 => v = .str (S sep) ∧ H1 = H) I ⟨rfl, rfl⟩) fun v s1 ⟨x, H1, I1, r1, q1, q2⟩ => ?_)
  subst q1 q2
  obtain ⟨t, rfl⟩ := _root_.id r1
  refine ⟨"str", _, F.plainAttrs_str, F.slot_str_join, F.type_str_join, typeIs_str _ _ _, (fun _ e => nomatch e), Calls.callWith_builtin rfl (Calls.evalArgs_plain (Calls.spliced_cons ?_))⟩
  refine gen_make I1 gc ok hr.depth hr.hd hi hs h ?_
  rintro ⟨X', p', σ', H', s', Ng', cap', own', sc', code, fp, it, tn, J, tg', iter', elt', pos', a, gn, n', val', Pv', A'⟩ s5 e1 e2 e3 e4 e5 e6 e7 e8 e9 e10 r5 I5 f5 T5 av st0 t5 pr ig hgs
  have e1 : X' = X := e1
  have e2 : p' = pins := e2
  have e3 : σ' = σ := e3
  have e4 : Ng' = Ng := e4
  have e5 : cap' = cap := e5
  have e6 : sc' = scope := e6
  have e7 : tg' = tg := e7
  have e8 : iter' = iter := e8
  have e9 : elt' = elt := e9
  have e10 : pos' = pos := e10
  subst e1 e2 e3 e4 e5 e6 e7 e8 e9 e10
  obtain ⟨n, val, Pv, q0, ⟨tu, stp⟩, z1, z2, q⟩ := r5
  let G : Gn := ⟨X', p', σ', H', s', Ng', cap', own, sc', code, fp, it, tn, J, tg', iter', elt', pos', a, gn, n, fun i => .str (S (val i)), Pv, X'.A.in1.in1⟩
  have okG : G.Ok g te := ⟨I5, f5, T5, hc, hr.hd, hr.depth, pg _ _ _ _ _ _ _ _ (room_over (B := X'.A.in1.in1.in1) hr rfl rfl (by show X'.A.units + 1 + 1 + 1 ≤ _; omega)), pe _ _ _ _ _ _ _ _ (room_over (B := X'.A.in1.in1.in1) hr rfl rfl (by show X'.A.units + 1 + 1 + 1 ≤ _; omega)), ok.co, av, tu, stp⟩
  have raw : Raw G s5 := ⟨st0 _ (over_frames (show X'.A.in1.in1.in1.frames = some X'.stack from I5.ok.frames)) hr.hd, q0, t5, pr, ig, hgs⟩
  refine Calls.spliced_nil ?_
  refine call_join (G := G) okG rfl z1 raw (((List.range n).map val).map S) (by rw [List.map_map, List.map_map]; rfl) ?_ fun H6 s6 t6 p6 I6 => ?_
  · rw [lens_flat, List.length_map, List.length_map, List.length_range, len_S]
    omega
  · refine ⟨.str _, H6, I6, ⟨t6, rfl⟩, ?_⟩
    have := q H6 p6
    rw [join_S]
    simpa using this
end
end N1
set_option Elab.async false
set_option linter.all false
set_option maxRecDepth 100000
set_option maxHeartbeats 4000000
namespace N1
open PySem PySem.Spec PyProof.Rows L2
theorem okC {P : Program} {w : World} {K : PySem.W.Frag} {mg : Str → Option Value} {base : Heap} {c : Addr} {x qual : Str} {st : Stmt} {f : Addr} {fd : FuncData} {N ps : List Str} {k : Nat} {sp : Sp} (F : Fun K x qual st f fd) (hcd : fd.code = .ref c) (S : FnScope N ps (defScope st)) (len : ∀ vs H Q E, sp vs H Q E → vs.length = ps.length)
    (hbody : ∀ (A : Around) (outer : List Env) (s : Shared) (H : Hp) (vs : List V) (Q : VK) (E : XK), Room k (A.deeper (envOfC qual (defScope st) s.heap.objs.size f (.ref c))) → sp vs H Q E →
      ∃ t, PSs (cxOf CX0 P w K mg base N qual (defScope st) f (.ref c) A outer s H E).nox (defBody st) t ∧ t { nx := fun _ H' => Q .non H', rt := Q } (start N vs) H) : FnOk P w K mg base CX0 (k + 1) f fd ps sp := by
  obtain ⟨oc, od, kV, doc, pm, an, cdv, ct, osl, rfl, lk, hci⟩ := F.ex
  have e : cdv = .ref c := hcd
  subst e
  refine fn_of lk hci S len fun A outer s H vs Q E hr hsp => ?_
  obtain ⟨t, h, q⟩ := hbody A outer s H vs Q E hr hsp
  exact ⟨t, h.nox, q⟩
abbrev CodesAt (tabs : List (Addr × Addr)) (h : Heap) : Prop := ∀ q ∈ tabs, PySem.W.CodeHd h q.1 q.2
abbrev TbsAt (tabs : List (Addr × Addr)) (H : Hp) : Prop := ∀ q ∈ tabs, Tb q.2 H
theorem law_go {P : Program} {w : World} {K : PySem.W.Frag} {mg mb : Str → Option Value} {CX : CXT} {k : Nat} {fa a : Addr} {fd : FuncData} {x : Str} {sp : Sp} {s1 : Shared} {vs : List Value} {ns : List Int} {tabs : List (Addr × Addr)}
    (KX : K.In s1.heap) (hns : s1.heap.Ns mainGlobals mg) (hb : s1.heap.Ns builtinsNs mb) (hbb : ∀ x : Str, x ≠ "__name__" → mb x = bootBuiltins x) (hlim : s1.heap.NoLimit) (hg : s1.gens = #[])
    (ha : s1.heap.get? a = some { cls := .type "list", data := .seq vs.toArray }) (hi : IntsAre vs ns) (hl : ns.length ≤ sizeLine) (hr : Room k callerA)
    (hT : ∀ q ∈ tabs, PySem.W.CodeHd s1.heap q.1 q.2 ∧ s1.heap.get? q.2 = some (PySem.W.tabObj #[])) (hK : PySem.W.noTabs K = true) (hbm : BMod mg s1.heap)
    (F : ∀ base : Heap, K.In base → base.Ns mainGlobals mg → BMod mg base → CodesAt tabs base → FnOk P w K mg base CX k fa fd [x] sp) (hbind : ∀ (s : Shared) (u : Value), BindsTo s fd ⟨[u], []⟩ [(x, u)])
    (hsp : ∀ H : Hp, TbsAt tabs H → SqL K H a (ns.map V.int) → sp [.ref a] H (fun v H' => v = .bl true ∧ TbsAt tabs H') fun _ _ _ => False)
    (hCX : ∀ H e s', CX [] H s1 (fun _ _ _ => False) e s' → False) :
    codeAny (model P w) callerA (.call (.ref fa) ⟨[.ref a], []⟩) (fun r s' => r = .ok (.ret (.bool true)) ∧ OldK s1.heap s'.heap ∧ s'.os = s1.os ∧ AllBare s'.gens) s1 := by
  have rv := vals_ints hi
  have lenV := hi.length
  have noT : ∀ b, b ∈ tabs.map (·.2) → K.lookup b = none := fun b hb' => by
    obtain ⟨q, hq, rfl⟩ := List.mem_map.mp hb'
    cases e : K.lookup q.2 with
    | none => rfl
    | some o =>
      have e1 := KX _ _ e
      rw [(hT q hq).2] at e1
      cases e1
      have h2 := List.all_eq_true.mp hK _ (PySem.W.mem_of_lookupK e)
      exact absurd (show false = true from h2) Bool.false_ne_true
  have aT : a ∉ tabs.map (·.2) := fun hm => by
    obtain ⟨q, hq, e⟩ := List.mem_map.mp hm
    have := (hT q hq).2
    rw [e, ha] at this
    cases this
  have core : ∀ H : Hp, (∀ b, (H b = none ∧ b ∉ tabs.map (·.2)) ∨ (b ∈ tabs.map (·.2) ∧ H b = some (.ext (TbO b))) ∨ (b = a ∧ K.lookup b = none ∧ ∃ o xs, H b = some (.frz o (.lst xs)))) → SqL K H a (ns.map V.int) → HOk P w H s1.heap →
      codeAny (model P w) callerA (.call (.ref fa) ⟨[.ref a], []⟩) (fun r s' => r = .ok (.ret (.bool true)) ∧ OldK s1.heap s'.heap ∧ s'.os = s1.os ∧ AllBare s'.gens) s1 := by
    intro H hO hS hok
    have noD : ∀ {b : Addr} {o : Obj}, s1.heap.get? b = some o → o ≠ PySem.W.tabObj #[] → b ≠ a → H b = none := fun {b o} e n1 n2 => by
      rcases hO b with z | z | z
      · exact z.1
      · obtain ⟨q, hq, rfl⟩ := List.mem_map.mp z.1
        have := (hT q hq).2
        rw [e] at this
        exact absurd (Option.some.inj this) n1
      · exact absurd z.1 n2
    have nsK : ∀ {b : Addr} {m : Str → Option Value}, s1.heap.Ns b m → (hidT s1.heap H).Ns b m := fun {b m} ⟨o, es, ep, e, d, r⟩ => ⟨o, es, ep, hidT_get e (noD e (fun z => by rw [z] at d; cases d) (fun z => by rw [z, ha] at e; cases e; cases d)), d, r⟩
    have hKb : K.In (hidT s1.heap H) := fun b o e => hidT_get (KX b o e) (by
      rcases hO b with z | z | z
      · exact z.1
      · rw [noT b z.1] at e; cases e
      · rw [z.2.1] at e; cases e)
    have hM : Mod K mg (hidT s1.heap H) := ⟨hKb, nsK hns, ⟨mb, nsK hb, hbb⟩, let ⟨mc, h1, h2⟩ := hlim; ⟨mc, nsK h1, h2⟩⟩
    have hBM : BMod mg (hidT s1.heap H) := by
      obtain ⟨bm, ob, h1, h2, h3, h4, h5, h6⟩ := hbm
      exact ⟨bm, ob, h1, h2, hidT_get h3 (noD h3 (fun z => by rw [z] at h4; cases h4) (fun z => by rw [z, ha] at h3; cases h3; cases h6)), h4, h5, h6⟩
    have hCd : CodesAt tabs (hidT s1.heap H) := fun q hq => by
      obtain ⟨o, vs', file, tf, flags, tg, inF, text, tt, e1, e2, e3, r⟩ := (hT q hq).1
      exact ⟨o, vs', file, tf, flags, tg, inF, text, tt, hidT_get e1 (noD e1 (fun z => by rw [z] at e2; cases e2) (fun z => by rw [z, ha] at e1; cases e1; cases e3)), e2, e3, r⟩
    have e0 : Env0 P w K mg (hidT s1.heap H) callerA [] s1 H := ⟨rfl, hM, fun b o e => of_hidT e, Nat.le_of_eq (hidT_size _ _), trivial, fun b hb => absurd (show b ∈ ([] : List Addr) from hb) (by simp), hok, .of_eq hg⟩
    have tb : TbsAt tabs H := fun q hq => by
      rcases hO q.2 with z | z | z
      · exact absurd (List.mem_map_of_mem hq) z.2
      · exact z.2
      · exact absurd (List.mem_map_of_mem hq) (fun m => aT (z.1 ▸ m))
    refine codeAny_mono ((F _ hKb (nsK hns) hBM hCd).run callerA [] s1 H ⟨[.ref a], []⟩ [.ref a] [.ref a] _ _ hr e0 (hbind s1 (.ref a)) (.cons rfl .nil) (hsp H tb hS)) fun r s' h => ?_
    cases r with
    | error e => exact (hCX H e s' h).elim
    | ok fl =>
      cases fl with
      | next => exact False.elim h
      | brk => exact False.elim h
      | cont => exact False.elim h
      | ret u =>
        obtain ⟨v, H', os, bare, un, hok', r', q⟩ := h
        obtain ⟨q', tb'⟩ := q
        subst q'
        obtain rfl : u = Value.bool true := r'
        refine ⟨rfl, ⟨fun b o e => ?_, fun b o e => un.there b o e (by simp)⟩, os, bare⟩
        rcases hO b with z | ⟨z1, z2⟩ | ⟨z0, _, ob, xs, z⟩
        · exact .inl (un.keep b o e z.1 (by intro z; exact absurd (show b ∈ ([] : List Addr) from z) (by simp)) (by simp))
        · obtain ⟨q, hq, rfl⟩ := List.mem_map.mp z1
          obtain ⟨c1, c2⟩ := hT q hq
          rw [c2] at e; cases e
          obtain ⟨⟨oc, vc, d1, d2, d3, d4⟩, _⟩ := c1.tab c2
          obtain ⟨⟨ps, f1, _⟩, _⟩ := hok' q.2 _ (tb' q hq)
          exact .inr (.inl ⟨(c1.tab c2).isCodeTable, rfl, #[], ps, rfl, by rw [f1]; simp⟩)
        · have z2 := un.frzs b ob _ z
          obtain ⟨e1, _⟩ := hok b _ z
          obtain ⟨e2, _⟩ := hok' b _ z2
          rw [e] at e1; cases e1
          exact .inl e2
  have hTb : ∀ b, b ∈ tabs.map (·.2) → TbO b s1.heap := fun b hb' => by
    obtain ⟨q, hq, rfl⟩ := List.mem_map.mp hb'
    exact ⟨#[], (hT q hq).2, trivial⟩
  cases hk : K.lookup a with
  | some o =>
    have e := KX a o hk
    rw [ha] at e
    cases e
    refine core (fun b => if b ∈ tabs.map (·.2) then some (.ext (TbO b)) else none) (fun b => ?_) (.inr ⟨_, vs.toArray, _, hk, rfl, rfl, rfl, by rw [List.size_toArray, lenV]; exact hl, by simpa using rv⟩) fun b u z => ?_
    · by_cases hb' : b ∈ tabs.map (·.2)
      · exact .inr (.inl ⟨hb', if_pos hb'⟩)
      · exact .inl ⟨if_neg hb', hb'⟩
    · by_cases hb' : b ∈ tabs.map (·.2)
      · have z' := (if_pos hb').symm.trans z
        cases z'
        exact tb_ok (hTb b hb')
      · have z' := (if_neg hb').symm.trans z
        cases z'
  | none =>
    refine core (fun b => if b = a then some (.frz { cls := .type "list", data := .seq vs.toArray } (.lst (ns.map V.int))) else if b ∈ tabs.map (·.2) then some (.ext (TbO b)) else none) (fun b => ?_) (.inl (.inr ⟨{ cls := .type "list", data := .seq vs.toArray }, if_pos rfl⟩)) fun b u z => ?_
    · by_cases ea : b = a
      · exact .inr (.inr ⟨ea, ea ▸ hk, _, _, if_pos ea⟩)
      · by_cases hb' : b ∈ tabs.map (·.2)
        · exact .inr (.inl ⟨hb', (if_neg ea).trans (if_pos hb')⟩)
        · exact .inl ⟨(if_neg ea).trans (if_neg hb'), hb'⟩
    · by_cases ea : b = a
      · have z' := (if_pos ea).symm.trans z
        cases z'
        subst ea
        exact ⟨ha, by rw [List.length_map]; exact hl, vs, _, rv, ha⟩
      · by_cases hb' : b ∈ tabs.map (·.2)
        · have z' := ((if_neg ea).trans (if_pos hb')).symm.trans z
          cases z'
          exact tb_ok (hTb b hb')
        · have z' := ((if_neg ea).trans (if_neg hb')).symm.trans z
          cases z'
theorem walk_tb {l : PySem.W.OpenLaw} {n k : Nat} {q : Program} {loose : List Str} {XP : (Str → Option Value) → Heap → Prop} {YP : World → Heap → Prop} {d : DefRec} {K : Params → PySem.W.Frag} {CX : World → CXT} {sp : World → List (Addr × Addr) → Sp} {x : Str}
    (hn : l.most = some n) (hn2 : n ≤ sizeLine) (hdf : d.params.defaults = []) (hr : Room k callerA) (hK : ∀ w : World, PySem.W.noTabs (K w.params) = true)
    (hY : ∀ (w : World) (h : Heap), YP w h → (K w.params).In h)
    (F : ∀ (w : World) (mg : Str → Option Value) (fa : Addr) (h : Heap), (K w.params).In h → h.Ns mainGlobals mg → (∀ e ∈ recsOf q, ∃ a o fd c P, mg e.name = some (.ref a) ∧ h.get? a = some o ∧ o.data = .func fd ∧ fd.code = .ref c ∧ h.IsCode c P #[] ∧ h.TableAt c P #[]) → mg d.name = some (.ref fa) →
      ∃ (fd : FuncData) (tabs : List (Addr × Addr)), (∀ (s : Shared) (u : Value), BindsTo s fd ⟨[u], []⟩ [(x, u)]) ∧ (∀ q ∈ tabs, PySem.W.CodeHd h q.1 q.2 ∧ h.get? q.2 = some (PySem.W.tabObj #[])) ∧
        ∀ base : Heap, (K w.params).In base → base.Ns mainGlobals mg → BMod mg base → CodesAt tabs base → FnOk l.prog w (K w.params) mg base (CX w) k fa fd [x] (sp w tabs))
    (hsp : ∀ (w : World) (tabs : List (Addr × Addr)) (H : Hp) (a : Addr) (ns : List Int), ns.length ≤ n → TbsAt tabs H → SqL (K w.params) H a (ns.map V.int) → sp w tabs [.ref a] H (fun v H' => v = .bl true ∧ TbsAt tabs H') fun _ _ _ => False)
    (hCX : ∀ (w : World) (H : Hp) (s : Shared) (e : Value) (s' : Shared), CX w [] H s (fun _ _ _ => False) e s' → False) :
    PySem.W.WalkO q loose XP YP l.row.toRowW d [] (fun f vs => PySem.call f vs) := by
  refine Att.attach_call hn hdf fun w s₀ s₁ mg mb fa o pm cd doc a vs ns G Y ho hd hcd hmg hobj hints hlen hg => ?_
  have KX := hY w _ Y
  obtain ⟨fd, tabs, hb, hT, hF⟩ := F w mg fa _ KX G.T.g G.T.tab hmg
  exact law_go KX G.T.g G.T.b G.T.builtins G.T.nolimit hg hobj hints (Nat.le_trans hlen hn2) hr hT (hK w) G.T.bmain hF hb (fun H hO hS => hsp w tabs H a ns hlen hO hS) fun H e s' => hCX w H s₁ e s'
theorem tab_here {K : PySem.W.Frag} {h : Heap} {mg : Str → Option Value} {rs : List DefRec} {x : Str} {f : Addr} {oc : Value} {od : Option Addr} {sl : Array (Option Value)} {fd : FuncData} (T : ∀ e ∈ rs, ∃ a o fd c P, mg e.name = some (.ref a) ∧ h.get? a = some o ∧ o.data = .func fd ∧ fd.code = .ref c ∧ h.IsCode c P #[] ∧ h.TableAt c P #[])
    (X : K.In h) (hx : (rs.map (·.name)).contains x = true) (m : mg x = some (.ref f)) (l : K.lookup f = some ⟨oc, od, .func fd, sl⟩) : ∃ c P, fd.code = .ref c ∧ PySem.W.CodeHd h c P ∧ h.get? P = some (PySem.W.tabObj #[]) := by
  obtain ⟨e, he, en⟩ := List.mem_map.mp (List.contains_iff_mem.mp hx)
  obtain ⟨a, o, fd', c, P, h1, h2, h3, h4, h5, h6⟩ := T e he
  rw [en, m] at h1
  cases h1
  have := X _ _ l
  rw [h2] at this
  cases this
  cases h3
  exact ⟨c, P, h4, PySem.W.CodeHd.of h5 h6, h6.2⟩
end N1
set_option Elab.async false
set_option linter.all false
set_option maxRecDepth 100000
set_option maxHeartbeats 4000000
namespace N1
open PySem PySem.Spec PyProof.Rows L2
structure ZA (z TI TO i1 i2 : Addr) (fp1 fp2 : List Addr) : Prop where
  TIz : TI ≠ z
  TOz : TO ≠ z
  i1z : i1 ≠ z
  i2z : i2 ≠ z
  TITO : TI ≠ TO
  TIi1 : TI ≠ i1
  TIi2 : TI ≠ i2
  TOi1 : TO ≠ i1
  TOi2 : TO ≠ i2
  i12 : i1 ≠ i2
  z1 : z ∉ fp1
  T1 : TO ∉ fp1
  j1 : i2 ∉ fp1
  z2 : z ∉ fp2
  T2 : TO ∉ fp2
  j2 : i1 ∉ fp2
section
variable {prog : Program} {w : World} {A : Around} {E : Value → Shared → Prop} {s : Shared} {z TI TO i1 i2 : Addr} {fp1 fp2 : List Addr} {n1 n2 k1 k2 : Nat} {P1 P2 : Nat → Value → Prop} {St1 St2 : Nat → Heap → Prop} {a b : Value}
theorem zip_item {Q : Value → Shared → Prop} (D1 : Draws prog w A i1 fp1 n1 P1 St1) (D2 : Draws prog w A i2 fp2 n2 P2 St2) (D : ZA z TI TO i1 i2 fp1 fp2) (hz : IsZip s.heap z TI TO .none) (hTI : IsPair s.heap TI (.ref i1) (.ref i2)) (hTO : IsPair s.heap TO a b)
    (t1 : St1 k1 s.heap) (t2 : St2 k2 s.heap) (l1 : k1 < n1) (l2 : k2 < n2)
    (hQ : ∀ h' tk x y, P1 k1 x → P2 k2 y → IsZip h' z TI TO (rawInt s.heap.objs.size) → IsPair h' TO x y → St1 (k1 + 1) h' → St2 (k2 + 1) h' → IsPair h' s.heap.objs.size x y → h'.objs.size = s.heap.objs.size + 1 →
      (∀ c o, c ≠ z → c ≠ TO → c ≠ i1 → c ≠ i2 → s.heap.get? c = some o → h'.get? c = some o) → Q (.ref s.heap.objs.size) { s with heap := h', toks := tk }) :
    wpAny (model prog w) A (Builtin.«zip.__next__» ⟨[.ref z], []⟩) (fun fin s' => ∃ v, fin = .done (.ret v) ∧ Q v s') E s := by
  show wpAny _ _ (field (.ref z) 2 >>= _) _ _ _
  refine wpAny_bind (wpAny_field hz rfl (x := .bool false) rfl ?_)
  show wpAny _ _ (field (.ref z) 3 >>= _) _ _ _
  refine wpAny_bind (wpAny_field hz rfl (x := .ref TI) rfl (wpAny_bind (wpAny_seqItems hTI rfl ?_)))
  show wpAny _ _ (Builtin.SmallTypes.ownedTupleIsFree (.ref z) >>= _) _ _ _
  refine wpAny_bind ?_
  unfold Builtin.SmallTypes.ownedTupleIsFree
  refine wpAny_bind (wpAny_field hz rfl (x := .none) rfl (wpAny_pure ?_))
  simp only [if_true]
  refine wpAny_bind (wpAny_rule (wpAny_bind (wpAny_field hz rfl (x := .ref TO) rfl (wpAny_bind (wpAny_setField_rec hz (by simp) fun g1 q1 e1 => ?_)))))
  replace q1 : IsZip g1 z TI TO .ellipsis := q1
  refine wpAny_bind ?_
  simp only [List.zipIdx_cons, List.zipIdx_nil, List.forIn_cons, List.forIn_nil]
  refine wpAny_bind (wpAny_bind (wpAny_onRaise ?_))
  show wpAny _ _ (Builtin.SmallTypes.nextOf (.ref i1) >>= _) _ _ _
  have t1' : St1 k1 g1 := D1.frame _ _ _ t1 fun c hc o e => e1.extBut _ _ (fun y => D.z1 (y ▸ hc)) e
  refine wpAny_bind (D1.item k1 _ _ _ l1 t1' fun x g2 tk2 p1 u1 e2 => wpAny_pure ?_)
  have o2 : IsPair g2 TO a b := e2.extBut _ _ D.TOi1 (e1.extBut _ _ D.TOz hTO)
  refine wpAny_bind (wpAny_seqItems o2 rfl (wpAny_bind (wpAny_updateSeq_pair o2 fun g3 o3 e3 => ?_)))
  replace o3 : IsPair g3 TO x b := o3
  refine wpAny_bind (wpAny_letGo (wpAny_pure (wpAny_bind (wpAny_bind (wpAny_onRaise ?_)))))
  show wpAny _ _ (Builtin.SmallTypes.nextOf (.ref i2) >>= _) _ _ _
  have t2' : St2 k2 g3 := D2.frame _ _ _ t2 fun c hc o e => e3.extBut _ _ (fun y => D.T2 (y ▸ hc)) (e2.extBut _ _ (fun y => D.j2 (y ▸ hc)) (e1.extBut _ _ (fun y => D.z2 (y ▸ hc)) e))
  refine wpAny_bind (D2.item k2 _ _ _ l2 t2' fun y g4 tk4 p2 u2 e4 => wpAny_pure ?_)
  have o4 : IsPair g4 TO x b := e4.extBut _ _ D.TOi2 o3
  refine wpAny_bind (wpAny_seqItems o4 rfl (wpAny_bind (wpAny_updateSeq_pair o4 fun g5 o5 e5 => ?_)))
  replace o5 : IsPair g5 TO x y := o5
  refine wpAny_bind (wpAny_letGo (wpAny_pure (wpAny_pure (wpAny_bind (wpAny_seqItems o5 rfl (wpAny_bind (wpAny_newTuple ?_)))))))
  have hsz : g5.objs.size = s.heap.objs.size := by rw [e5.1, e4.1, e3.1, e2.1, e1.1]
  have z5 : IsZip g5 z TI TO .ellipsis := e5.extBut _ _ D.TOz.symm (e4.extBut _ _ D.i2z.symm (e3.extBut _ _ D.TOz.symm (e2.extBut _ _ D.i1z.symm q1)))
  have kp5 : ∀ c o, c ≠ z → c ≠ TO → c ≠ i1 → c ≠ i2 → s.heap.get? c = some o → g5.get? c = some o := fun c o c1 c2 c3 c4 e =>
    e5.extBut _ _ c2 (e4.extBut _ _ c4 (e3.extBut _ _ c2 (e2.extBut _ _ c3 (e1.extBut _ _ c1 e))))
  have v1 : St1 (k1 + 1) g5 := D1.frame _ _ _ u1 fun c hc o e => e5.extBut _ _ (fun y => D.T1 (y ▸ hc)) (e4.extBut _ _ (fun y => D.j1 (y ▸ hc)) (e3.extBut _ _ (fun y => D.T1 (y ▸ hc)) e))
  have v2 : St2 (k2 + 1) g5 := D2.frame _ _ _ u2 fun c hc o e => e5.extBut _ _ (fun y => D.T2 (y ▸ hc)) e
  have zlt : z < g5.objs.size := Heap.lt_size z5
  show wpAny _ _ (Builtin.SmallTypes.ownedTupleHandOut (.ref z) (.ref g5.objs.size) >>= _) _ _ _
  refine wpAny_bind ?_
  unfold Builtin.SmallTypes.ownedTupleHandOut
  have z6 : IsZip (g5.push { cls := .type "tuple", data := .seq #[x, y] }) z TI TO .ellipsis := Heap.get?_push_of_some _ z5
  refine wpAny_bind (wpAny_setField_rec z6 (by simp) fun g7 z7 e7 => ?_)
  replace z7 : IsZip g7 z TI TO (rawInt g5.objs.size) := z7
  refine wpAny_setField_rec z7 (by simp) fun g8 z8 e8 => ?_
  replace z8 : IsZip g8 z TI TO (rawInt g5.objs.size) := z8
  have up : ∀ c o, c ≠ z → g5.get? c = some o → g8.get? c = some o := fun c o c1 e => e8.extBut _ _ c1 (e7.extBut _ _ c1 (Heap.get?_push_of_some _ e))
  have T8 : IsPair g8 g5.objs.size x y := e8.extBut _ _ (Nat.ne_of_gt zlt) (e7.extBut _ _ (Nat.ne_of_gt zlt) (Heap.get?_push_size _ rfl))
  have sz8 : g8.objs.size = g5.objs.size + 1 := by rw [e8.1, e7.1, Heap.size_push]
  rw [hsz] at z8 T8 sz8
  refine wpAny_pure ⟨_, rfl, ?_⟩
  show Q (.ref g5.objs.size) _
  rw [hsz]
  exact hQ g8 _ x y p1 p2 z8 (up _ _ D.TOz o5) (D1.frame _ _ _ v1 fun c hc o e => up c o (fun y => D.z1 (y ▸ hc)) e) (D2.frame _ _ _ v2 fun c hc o e => up c o (fun y => D.z2 (y ▸ hc)) e) T8 sz8 fun c o c1 c2 c3 c4 e => up c o c1 (kp5 c o c1 c2 c3 c4 e)
theorem next_zip {Q : Option Value → Shared → Prop} (D1 : Draws prog w A.in1 i1 fp1 n1 P1 St1) (D2 : Draws prog w A.in1 i2 fp2 n2 P2 St2) (D : ZA z TI TO i1 i2 fp1 fp2) (hz : IsZip s.heap z TI TO .none) (hTI : IsPair s.heap TI (.ref i1) (.ref i2)) (hTO : IsPair s.heap TO a b)
    (t1 : St1 k1 s.heap) (t2 : St2 k2 s.heap) (l1 : k1 < n1) (l2 : k2 < n2)
    (hQ : ∀ h' tk x y, P1 k1 x → P2 k2 y → IsZip h' z TI TO (rawInt s.heap.objs.size) → IsPair h' TO x y → St1 (k1 + 1) h' → St2 (k2 + 1) h' → IsPair h' s.heap.objs.size x y → h'.objs.size = s.heap.objs.size + 1 →
      (∀ c o, c ≠ z → c ≠ TO → c ≠ i1 → c ≠ i2 → s.heap.get? c = some o → h'.get? c = some o) → Q (some (.ref s.heap.objs.size)) { s with heap := h', toks := tk }) : wpAny (model prog w) A (pyNext (.ref z)) Q E s := by
  have hT : s.TypeIs (.ref z) "zip" := ⟨_, hz, rfl⟩
  unfold pyNext
  exact wpAny_bind (wpAny_attempt (wpAny_callSpecial?_slot (name := Str.ofString "__next__") hT F.slot_zip_next
    (wpAny_call_entry F.slot_zip_next hT F.entry_zip_next (zip_item D1 D2 D hz hTI hTO t1 t2 l1 l2 fun h' tk x y b1 b2 a1 a2 a3 a4 a5 a6 a7 => wpAny_pure (hQ h' tk x y b1 b2 a1 a2 a3 a4 a5 a6 a7)) (F.args_zip_next_1 _))))
theorem end_zip {Q : Option Value → Shared → Prop} (D1 : Draws prog w A.in1 i1 fp1 n1 P1 St1) (D : ZA z TI TO i1 i2 fp1 fp2) (hz : IsZip s.heap z TI TO .none) (hTI : IsPair s.heap TI (.ref i1) (.ref i2)) (t1 : St1 n1 s.heap)
    (hQ : ∀ h', (∀ c o, c ≠ z → c ≠ TO → c ≠ i1 → c ≠ i2 → s.heap.get? c = some o → h'.get? c = some o) → Q none { s with heap := h' }) : wpAny (model prog w) A (pyNext (.ref z)) Q E s := by
  have hT : s.TypeIs (.ref z) "zip" := ⟨_, hz, rfl⟩
  unfold pyNext
  refine wpAny_bind (wpAny_attempt (wpAny_callSpecial?_slot (name := Str.ofString "__next__") hT F.slot_zip_next (wpAny_call_entry F.slot_zip_next hT F.entry_zip_next ?_ (F.args_zip_next_1 _))))
  show wpAny _ _ (field (.ref z) 2 >>= _) _ _ _
  refine wpAny_bind (wpAny_field hz rfl (x := .bool false) rfl ?_)
  show wpAny _ _ (field (.ref z) 3 >>= _) _ _ _
  refine wpAny_bind (wpAny_field hz rfl (x := .ref TI) rfl (wpAny_bind (wpAny_seqItems hTI rfl ?_)))
  show wpAny _ _ (Builtin.SmallTypes.ownedTupleIsFree (.ref z) >>= _) _ _ _
  refine wpAny_bind ?_
  unfold Builtin.SmallTypes.ownedTupleIsFree
  refine wpAny_bind (wpAny_field hz rfl (x := .none) rfl (wpAny_pure ?_))
  simp only [if_true]
  refine wpAny_bind (wpAny_rule (wpAny_bind (wpAny_field hz rfl (x := .ref TO) rfl (wpAny_bind (wpAny_setField_rec hz (by simp) fun g1 q1 e1 => ?_)))))
  replace q1 : IsZip g1 z TI TO .ellipsis := q1
  refine wpAny_bind ?_
  simp only [List.zipIdx_cons, List.zipIdx_nil, List.forIn_cons, List.forIn_nil]
  refine wpAny_bind (wpAny_bind (wpAny_onRaise ?_))
  show wpAny _ _ (Builtin.SmallTypes.nextOf (.ref i1) >>= _) _ _ _
  have t1' : St1 n1 g1 := D1.frame _ _ _ t1 fun c hc o e => e1.extBut _ _ (fun y => D.z1 (y ▸ hc)) e
  refine wpAny_bind (D1.done _ _ _ t1' fun g2 e e2 he => ?_)
  obtain ⟨oe, hoe, hce⟩ := he
  have z2 : IsZip g2 z TI TO .ellipsis := e2 _ _ D.i1z.symm q1
  have hez : e ≠ z := fun x => by subst x; rw [z2] at hoe; cases hoe; simp at hce
  refine wpAny_setField_rec z2 (by simp) fun g3 _ e3 => ?_
  refine wpAny_bind (wpAny_isInstance (T := "StopIteration") (b := true) ⟨oe, e3.extBut _ _ hez hoe, hce⟩ isSubtype_stop (wpAny_pure (hQ _ ?_)))
  exact fun c o c1 _ c3 _ x => e3.extBut _ _ c1 (e2 _ _ c3 (e1.extBut _ _ c1 x))
end
end N1
set_option Elab.async false
set_option linter.all false
set_option maxRecDepth 100000
set_option maxHeartbeats 4000000
namespace N1
open PySem PySem.Spec PyProof.Rows L2
abbrev sitO (x : Str) (t : Tok) : Obj := { cls := .type (strIterType x), data := .fields #[.str x t, .int 0 0] }
abbrev litO (l : Addr) : Obj := { cls := .type "list_iterator", data := .fields #[.ref l, .int 0 0] }
abbrev zp3 (h : Heap) (o1 o2 : Obj) : Heap := ((h.push o1).push o2).push { cls := .type "tuple", data := .seq #[.ref h.objs.size, .ref (h.push o1).objs.size] }
abbrev zp4 (h : Heap) (o1 o2 : Obj) : Heap := (zp3 h o1 o2).push { cls := .type "tuple", data := .seq #[.none, .none] }
abbrev zp5 (h : Heap) (o1 o2 : Obj) : Heap := (zp4 h o1 o2).push { cls := .type "zip", data := .fields #[.none, .bool false, .bool false, .ref ((h.push o1).push o2).objs.size, .ref (zp3 h o1 o2).objs.size] }
theorem meets_zipSL (x : Str) (t : Tok) (l : Addr) (ys : Array Value) : Meets (Builtin.«zip.__new__» ⟨[.type "zip", .str x t, .ref l], []⟩) (fun _ R s => s.heap.IsList l ys ∧ R (.ok (.ret (.ref (zp4 s.heap (sitO x t) (litO l)).objs.size))) { s with heap := zp5 s.heap (sitO x t) (litO l) }) :=
  .of_wp fun prog w A R s h => by
    obtain ⟨hp, g, d, tk, os⟩ := s
    obtain ⟨hl, h⟩ := h
    have hsub := sub_zip
    have hL : Heap.IsList (Shared.heap ⟨hp.push (sitO x t), g, d, tk, os⟩) l ys := Heap.IsList.push hl _
    wp_walk using wpAny_pyIter_strU, wpAny_pyIter_list hL
    exact ⟨_, rfl, h⟩
theorem meets_zipSS (x y : Str) (t u : Tok) : Meets (Builtin.«zip.__new__» ⟨[.type "zip", .str x t, .str y u], []⟩) (fun _ R s => R (.ok (.ret (.ref (zp4 s.heap (sitO x t) (sitO y u)).objs.size))) { s with heap := zp5 s.heap (sitO x t) (sitO y u) }) :=
  .of_wp fun prog w A R s h => by
    obtain ⟨hp, g, d, tk, os⟩ := s
    have hsub := sub_zip
    wp_walk using wpAny_pyIter_strU, wpAny_pyIter_strU
    exact ⟨_, rfl, h⟩
section
variable {prog : Program} {w : World} {A : Around} {E : Value → Shared → Prop} {s : Shared}
theorem zp_facts (h : Heap) (o1 o2 : Obj) (f1 : o1.isFreed = false) (f2 : o2.isFreed = false) : (zp4 h o1 o2).objs.size = h.objs.size + 4 ∧ IsZip (zp5 h o1 o2) (h.objs.size + 4) (h.objs.size + 2) (h.objs.size + 3) .none ∧ IsPair (zp5 h o1 o2) (h.objs.size + 2) (.ref h.objs.size) (.ref (h.objs.size + 1)) ∧
    IsPair (zp5 h o1 o2) (h.objs.size + 3) .none .none ∧ (zp5 h o1 o2).get? h.objs.size = some o1 ∧ (zp5 h o1 o2).get? (h.objs.size + 1) = some o2 ∧ ∀ c o, h.get? c = some o → (zp5 h o1 o2).get? c = some o := by
  have z1 : (h.push o1).objs.size = h.objs.size + 1 := Heap.size_push ..
  have z2 : ((h.push o1).push o2).objs.size = h.objs.size + 2 := by rw [Heap.size_push, z1]
  have z3 : (zp3 h o1 o2).objs.size = h.objs.size + 3 := by rw [Heap.size_push, z2]
  have z4 : (zp4 h o1 o2).objs.size = h.objs.size + 4 := by rw [Heap.size_push, z3]
  have g5 : (zp5 h o1 o2).get? (zp4 h o1 o2).objs.size = some _ := Heap.get?_push_size _ rfl
  have g4 : (zp5 h o1 o2).get? (zp3 h o1 o2).objs.size = some _ := Heap.get?_push_of_some _ (Heap.get?_push_size _ rfl)
  have g3 : (zp5 h o1 o2).get? ((h.push o1).push o2).objs.size = some _ := Heap.get?_push_of_some _ (Heap.get?_push_of_some _ (Heap.get?_push_size _ rfl))
  have g2 : (zp5 h o1 o2).get? (h.push o1).objs.size = some o2 := Heap.get?_push_of_some _ (Heap.get?_push_of_some _ (Heap.get?_push_of_some _ (Heap.get?_push_size _ f2)))
  have g1 : (zp5 h o1 o2).get? h.objs.size = some o1 := Heap.get?_push_of_some _ (Heap.get?_push_of_some _ (Heap.get?_push_of_some _ (Heap.get?_push_of_some _ (Heap.get?_push_size _ f1))))
  rw [z2, z3, z4] at g5
  rw [z1, z2] at g3
  rw [z3] at g4
  rw [z1] at g2
  exact ⟨z4, g5, g3, g4, g1, g2, fun c o x => Heap.get?_push_of_some _ (Heap.get?_push_of_some _ (Heap.get?_push_of_some _ (Heap.get?_push_of_some _ (Heap.get?_push_of_some _ x))))⟩
theorem call_zipSL {x : Str} {t : Tok} {l : Addr} {ys : Array Value} {Q : Value → Shared → Prop} (hl : s.heap.IsList l ys) (h : Q (.ref (s.heap.objs.size + 4)) { s with heap := zp5 s.heap (sitO x t) (litO l) }) : wpAny (model prog w) A (call (.type "zip") [.str x t, .ref l]) Q E s := by
  obtain ⟨z4, g5, _⟩ := zp_facts s.heap (sitO x t) (litO l) rfl rfl
  refine callType_new F.called_zip (by decide) (F.typeCall_zip_2 _ _) (F.newCall_zip_2 _ _) (fun obj => F.args_object_init_3 obj _ _) F.entry_zip_new (meets_zipSL x t l ys) ⟨hl, ?_⟩
  show _ ∧ _
  rw [z4]
  exact ⟨⟨_, g5, rfl⟩, h⟩
theorem call_zipSS {x y : Str} {t u : Tok} {Q : Value → Shared → Prop} (h : Q (.ref (s.heap.objs.size + 4)) { s with heap := zp5 s.heap (sitO x t) (sitO y u) }) : wpAny (model prog w) A (call (.type "zip") [.str x t, .str y u]) Q E s := by
  obtain ⟨z4, g5, _⟩ := zp_facts s.heap (sitO x t) (sitO y u) rfl rfl
  refine callType_new F.called_zip (by decide) (F.typeCall_zip_2 _ _) (F.newCall_zip_2 _ _) (fun obj => F.args_object_init_3 obj _ _) F.entry_zip_new (meets_zipSS x y t u) ?_
  show _ ∧ _
  rw [z4]
  exact ⟨⟨_, g5, rfl⟩, h⟩
theorem draws_str (hh : A.handled = none) (it : Addr) (x : Str) (t : Tok) : Draws prog w A it [it] x.cps.size (SignAt x) (fun i h => h.IsStrIter it (strIterType x) x t i) := by
  unfold strIterType
  by_cases c : (x.cps.all (· < 128)) = true
  · rw [if_pos c]; exact Draws.strAscii (A := A) hh it x t
  · rw [if_neg c]; exact Draws.strWide (A := A) hh it x t
end
def IzL (K : PySem.W.Frag) (x : Str) (b : Addr) : It :=
  ⟨fun i H => i < x.cps.size ∧ ∃ ys, SqL K H b ys ∧ x.cps.size ≤ ys.length, fun i H v H' => ∃ T c y, v = .ref T ∧ H T = none ∧ H' = upd H T (.tup [sg c, y]) ∧ (Lc x)[i]? = some c ∧ ∀ ys, SqL K H b ys → ys[i]? = some y, fun i _ => x.cps.size ≤ i⟩
def IzS (x y : Str) : It :=
  ⟨fun i H => i < x.cps.size ∧ i < y.cps.size, fun i H v H' => ∃ T c d, v = .ref T ∧ H T = none ∧ H' = upd H T (.tup [sg c, sg d]) ∧ (Lc x)[i]? = some c ∧ (Lc y)[i]? = some d, fun i _ => x.cps.size ≤ i⟩
theorem ltz {h : Heap} {x : Str} {t : Tok} {i1 : Addr} {i : Nat} (q : h.IsStrIter i1 (strIterType x) x t i) : i1 < h.objs.size := let ⟨_, e, _⟩ := q; Heap.lt_size e
section
variable {P : Program} {w : World} {K : PySem.W.Frag} {elts : List Expr} {kk : Nat} {tpos : Pos} {b z TI TO i1 i2 : Addr} {x y : Str} {t u : Tok}
theorem turn_zipSS (D : ZA z TI TO i1 i2 [i1] [i2]) : Turn P w K (.Tuple elts kk tpos) (IzS x y) [z, TI, TO, i1, i2] z (fun i h => i ≤ x.cps.size ∧ IsZip h z TI TO .none ∧ IsPair h TI (.ref i1) (.ref i2) ∧ (∃ p q, IsPair h TO p q) ∧ h.IsStrIter i1 (strIterType x) x t i ∧ h.IsStrIter i2 (strIterType y) y u i) where
  mem := by simp
  obj := fun i h st c hc => by
    obtain ⟨_, hz, hTI, ⟨p, q, hTO⟩, ⟨o1, e1, _, d1⟩, ⟨o2, e2, _, d2⟩⟩ := st
    have e' : c = z ∨ c = TI ∨ c = TO ∨ c = i1 ∨ c = i2 := by simpa using hc
    rcases e' with rfl | rfl | rfl | rfl | rfl
    · exact ⟨_, hz, fun v q => nomatch q⟩
    · exact ⟨_, hTI, fun v q => nomatch q⟩
    · exact ⟨_, hTO, fun v q => nomatch q⟩
    · exact ⟨o1, e1, fun v q => by rw [d1] at q; cases q⟩
    · exact ⟨o2, e2, fun v q => by rw [d2] at q; cases q⟩
  keep := fun i h h' st k => by
    obtain ⟨l, hz, hTI, ⟨p, q, hTO⟩, ⟨o1, e1, r1⟩, ⟨o2, e2, r2⟩⟩ := st
    exact ⟨l, k z (by simp) _ hz, k TI (by simp) _ hTI, ⟨p, q, k TO (by simp) _ hTO⟩, ⟨o1, k i1 (by simp) _ e1, r1⟩, ⟨o2, k i2 (by simp) _ e2, r2⟩⟩
  item := by
    intro X hP hw hK hc i pins s σ H E I hf st hg
    subst hP hw hK
    obtain ⟨l, hz, hTI, ⟨p, q, hTO⟩, h1, h2⟩ := st
    have zl : z < s.heap.objs.size := Heap.lt_size hz
    refine next_zip (draws_str (A := X.A.in1) (I.ok.hd hc) i1 x t) (draws_str (A := X.A.in1) (I.ok.hd hc) i2 y u) D hz hTI hTO h1 h2 hg.1 hg.2 fun h' tk v v2 p1 p2 z' TO' h1' h2' hT hsz hk => ?_
    obtain ⟨c, t1, cx, rfl⟩ := p1
    obtain ⟨d, t2, dx, rfl⟩ := p2
    refine ⟨_, rfl, wpAny_letOwnedTupleGo_zip (s := { s with heap := h', toks := tk }) z' fun h'' z'' sb => ?_⟩
    have hT2 := (sb.2 s.heap.objs.size (Nat.ne_of_gt zl)).trans hT
    have new : ObjOk X.prog X.w (upd H s.heap.objs.size (.tup [sg c, sg d])) h'' s.heap.objs.size (.tup [sg c, sg d]) := ⟨by show 2 ≤ sizeLine; decide, [.str ⟨#[c]⟩ t1, .str ⟨#[d]⟩ t2], .cons ⟨_, rfl⟩ (.cons ⟨_, rfl⟩ .nil), ⟨_, hT2, rfl, _, rfl⟩⟩
    have I1 : Inv X pins σ (upd H s.heap.objs.size (.tup [sg c, sg d])) { s with heap := h'', toks := tk } :=
      I.turnedNew (t' := tk) (ch := [z, TI, TO, i1, i2]) (fun c o hb q => (sb.2 c (fun q' => hb (by simp [q']))).trans (hk c o (fun q' => hb (by simp [q'])) (fun q' => hb (by simp [q'])) (fun q' => hb (by simp [q'])) (fun q' => hb (by simp [q'])) q)) hf (Nat.le_refl _) new
    refine ⟨.ref s.heap.objs.size, _, I1, rfl, ⟨_, c, d, rfl, I.hok.fresh (Nat.le_refl _), rfl, by simpa using cx, by simpa using dx⟩, ⟨hg.1, z'', (sb.2 _ D.TIz).trans (hk _ _ D.TIz D.TITO D.TIi1 D.TIi2 hTI), ⟨_, _, (sb.2 _ D.TOz).trans TO'⟩, ?_, ?_⟩, fun c hcm => ?_⟩
    · obtain ⟨o, e, r⟩ := h1'; exact ⟨o, (sb.2 _ D.i1z).trans e, r⟩
    · obtain ⟨o, e, r⟩ := h2'; exact ⟨o, (sb.2 _ D.i2z).trans e, r⟩
    · have hlt : c < s.heap.objs.size := by
        have e' : c = z ∨ c = TI ∨ c = TO ∨ c = i1 ∨ c = i2 := by simpa using hcm
        rcases e' with rfl | rfl | rfl | rfl | rfl
        · exact zl
        · exact Heap.lt_size hTI
        · exact Heap.lt_size hTO
        · exact ltz h1
        · exact ltz h2
      rw [upd_ne (Nat.ne_of_lt hlt)]
      exact (hf c hcm).1
  done := by
    intro X hP hw hK hc i pins s σ H E I hf st hg
    subst hP hw hK
    obtain ⟨l, hz, hTI, _, h1, h2⟩ := st
    have e : i = x.cps.size := Nat.le_antisymm l hg
    subst e
    exact end_zip (draws_str (A := X.A.in1) (I.ok.hd hc) i1 x t) D hz hTI h1 fun h' hk => ⟨rfl, I.turnedL (t' := s.toks) (ch := [z, TI, TO, i1, i2]) (fun c o hb q =>
      hk c o (fun q' => hb (by simp [q'])) (fun q' => hb (by simp [q'])) (fun q' => hb (by simp [q'])) (fun q' => hb (by simp [q'])) q) hf⟩
  self := fun A i s Q E st h => wpAny_pyIter_zip st.2.1 h
theorem turn_zipSL (D : ZA z TI TO i1 i2 [i1] [i2, b]) (hb : b ≠ i2) : Turn P w K (.Tuple elts kk tpos) (IzL K x b) [z, TI, TO, i1, i2] z (fun i h => i ≤ x.cps.size ∧ IsZip h z TI TO .none ∧ IsPair h TI (.ref i1) (.ref i2) ∧ (∃ p q, IsPair h TO p q) ∧ h.IsStrIter i1 (strIterType x) x t i ∧ h.IsListIter i2 b i) where
  mem := by simp
  obj := fun i h st c hc => by
    obtain ⟨_, hz, hTI, ⟨p, q, hTO⟩, ⟨o1, e1, _, d1⟩, ⟨o2, e2, _, d2⟩⟩ := st
    have e' : c = z ∨ c = TI ∨ c = TO ∨ c = i1 ∨ c = i2 := by simpa using hc
    rcases e' with rfl | rfl | rfl | rfl | rfl
    · exact ⟨_, hz, fun v q => nomatch q⟩
    · exact ⟨_, hTI, fun v q => nomatch q⟩
    · exact ⟨_, hTO, fun v q => nomatch q⟩
    · exact ⟨o1, e1, fun v q => by rw [d1] at q; cases q⟩
    · exact ⟨o2, e2, fun v q => by rw [d2] at q; cases q⟩
  keep := fun i h h' st k => by
    obtain ⟨l, hz, hTI, ⟨p, q, hTO⟩, ⟨o1, e1, r1⟩, h2⟩ := st
    exact ⟨l, k z (by simp) _ hz, k TI (by simp) _ hTI, ⟨p, q, k TO (by simp) _ hTO⟩, ⟨o1, k i1 (by simp) _ e1, r1⟩, h2.at fun o q => k i2 (by simp) o q⟩
  item := by
    intro X hP hw hK hc i pins s σ H E I hf st hg
    subst hP hw hK
    obtain ⟨l, hz, hTI, ⟨p, q, hTO⟩, h1, h2⟩ := st
    obtain ⟨g1, ys, hys, g2⟩ := hg
    obtain ⟨its, rv, pl, _⟩ := I.list hys
    have hlen := rv.length
    have zl : z < s.heap.objs.size := Heap.lt_size hz
    refine next_zip (draws_str (A := X.A.in1) (I.ok.hd hc) i1 x t) (Draws.list (A := X.A.in1) (I.ok.hd hc) i2 b hb its.toArray) D hz hTI hTO h1 ⟨h2, pl.isList⟩ g1 (by rw [List.size_toArray]; omega) fun h' tk v v2 p1 p2 z' TO' h1' h2' hT hsz hk => ?_
    obtain ⟨c, t1, cx, rfl⟩ := p1
    have hi : i < ys.length := Nat.lt_of_lt_of_le g1 g2
    obtain ⟨u2, hu2, ru2⟩ := rv.get (List.getElem?_eq_getElem hi)
    have ev : v2 = u2 := by
      have p2 : its[i]? = some v2 := by simpa using p2
      rw [hu2] at p2; exact (Option.some.inj p2).symm
    subst ev
    refine ⟨_, rfl, wpAny_letOwnedTupleGo_zip (s := { s with heap := h', toks := tk }) z' fun h'' z'' sb => ?_⟩
    have hT2 := (sb.2 s.heap.objs.size (Nat.ne_of_gt zl)).trans hT
    have new : ObjOk X.prog X.w (upd H s.heap.objs.size (.tup [sg c, ys[i]])) h'' s.heap.objs.size (.tup [sg c, ys[i]]) := ⟨by show 2 ≤ sizeLine; decide, [.str ⟨#[c]⟩ t1, v2], .cons ⟨_, rfl⟩ (.cons ru2 .nil), ⟨_, hT2, rfl, _, rfl⟩⟩
    have I1 : Inv X pins σ (upd H s.heap.objs.size (.tup [sg c, ys[i]])) { s with heap := h'', toks := tk } :=
      I.turnedNew (t' := tk) (ch := [z, TI, TO, i1, i2]) (fun c o hb q => (sb.2 c (fun q' => hb (by simp [q']))).trans (hk c o (fun q' => hb (by simp [q'])) (fun q' => hb (by simp [q'])) (fun q' => hb (by simp [q'])) (fun q' => hb (by simp [q'])) q)) hf (Nat.le_refl _) new
    refine ⟨.ref s.heap.objs.size, _, I1, rfl, ⟨_, c, _, rfl, I.hok.fresh (Nat.le_refl _), rfl, by simpa using cx, fun l hl => by rw [I.list_inj hl hys]; exact List.getElem?_eq_getElem hi⟩, ⟨g1, z'', (sb.2 _ D.TIz).trans (hk _ _ D.TIz D.TITO D.TIi1 D.TIi2 hTI), ⟨_, _, (sb.2 _ D.TOz).trans TO'⟩, ?_, ?_⟩, fun c hcm => ?_⟩
    · obtain ⟨o, e, r⟩ := h1'; exact ⟨o, (sb.2 _ D.i1z).trans e, r⟩
    · exact h2'.1.at fun o q => (sb.2 _ D.i2z).trans q
    · have hlt : c < s.heap.objs.size := by
        have e' : c = z ∨ c = TI ∨ c = TO ∨ c = i1 ∨ c = i2 := by simpa using hcm
        rcases e' with rfl | rfl | rfl | rfl | rfl
        · exact zl
        · exact Heap.lt_size hTI
        · exact Heap.lt_size hTO
        · exact ltz h1
        · obtain ⟨_, e2, _⟩ := h2; exact Heap.lt_size e2
      rw [upd_ne (Nat.ne_of_lt hlt)]
      exact (hf c hcm).1
  done := by
    intro X hP hw hK hc i pins s σ H E I hf st hg
    subst hP hw hK
    obtain ⟨l, hz, hTI, _, h1, h2⟩ := st
    have e : i = x.cps.size := Nat.le_antisymm l hg
    subst e
    exact end_zip (draws_str (A := X.A.in1) (I.ok.hd hc) i1 x t) D hz hTI h1 fun h' hk => ⟨rfl, I.turnedL (t' := s.toks) (ch := [z, TI, TO, i1, i2]) (fun c o hb q =>
      hk c o (fun q' => hb (by simp [q'])) (fun q' => hb (by simp [q'])) (fun q' => hb (by simp [q'])) (fun q' => hb (by simp [q'])) q) hf⟩
  self := fun A i s Q E st h => wpAny_pyIter_zip st.2.1 h
end
theorem ne_gt {a b : Nat} (h : b < a) : a ≠ b := Nat.ne_of_gt h
theorem za_of (I : Nat) (l : List Addr) (hl : ∀ b ∈ l, b < I) : ZA (I + 4) (I + 2) (I + 3) I (I + 1) [I] ((I + 1) :: l) := by
  have n1 : ∀ c : Nat, I < c → (c : Addr) ∉ ([I] : List Addr) := fun c hc h => ne_gt hc (List.mem_singleton.mp h)
  have n2 : ∀ c : Nat, I ≤ c → c ≠ I + 1 → (c : Addr) ∉ ((I + 1) :: l : List Addr) := fun c hc hn h => by
    rcases List.mem_cons.mp h with h | h
    · exact hn h
    · exact absurd (hl _ h) (Nat.not_lt.mpr hc)
  have m : ∀ a b : Nat, a ≠ b → (a : Addr) ≠ b := fun _ _ h => h
  exact ⟨m _ _ (by omega), m _ _ (by omega), m _ _ (by omega), m _ _ (by omega), m _ _ (by omega), m _ _ (by omega), m _ _ (by omega), m _ _ (by omega), m _ _ (by omega), m _ _ (by omega), n1 _ (by omega), n1 _ (by omega), n1 _ (by omega), n2 _ (by omega) (by omega), n2 _ (by omega) (by omega), n2 _ (by omega) (by omega)⟩
def iZipS (K : PySem.W.Frag) (ta : TA) : TI := fun σ H R => ta σ H fun vs H1 => match vs with
  | [.str x, .ref b] => (∃ ys, SqL K H1 b ys) ∧ R (IzL K x b) H1
  | [.str x, .str y] => R (IzS x y) H1
  | _ => False
theorem pi_zipS {X : Cx} {e e2 : Expr} {ta : TA} {p pos tpos : Pos} {elts : List Expr} {kk : Nat} (hg : Gl X "zip") (hm : X.mg "zip" = none) (ha : PA X [e, e2] ta)
    (hs : starEach [e, e2] X.env = (false, eval e X.env) :: starEach [e2] X.env := by rfl) (hpl : (backTo pos (starEach [e2] X.env)).any (·.1) = false := by rfl) :
    PI X (.Tuple elts kk tpos) (.Call (.Name "zip" p) [e, e2] [] pos) (iZipS X.K ta) := by
  intro pins s σ H R I h
  refine Call_ (ld_blt I hg hm boot_zip5 (PyProof.Rows.callWith_type1 (thn (ha pos pins s σ H _ I h) fun us s1 ⟨vs, H1, I1, r1, q1⟩ => ?_) hs hpl))
  have fpk : ∀ c ∈ [s1.heap.objs.size + 4, s1.heap.objs.size + 2, s1.heap.objs.size + 3, s1.heap.objs.size, s1.heap.objs.size + 1], FpOk X pins H1 c := fun c hcm => by
    have e' : c = s1.heap.objs.size + 4 ∨ c = s1.heap.objs.size + 2 ∨ c = s1.heap.objs.size + 3 ∨ c = s1.heap.objs.size ∨ c = s1.heap.objs.size + 1 := by simpa using hcm
    have hle : s1.heap.objs.size ≤ c := by
      rcases e' with z | z | z | z | z
      · rw [z]; exact Nat.le_add_right _ _
      · rw [z]; exact Nat.le_add_right _ _
      · rw [z]; exact Nat.le_add_right _ _
      · rw [z]; exact Nat.le_refl _
      · rw [z]; exact Nat.le_add_right _ _
    exact I1.fpOk hle (I1.hok.fresh hle)
  dsimp only at q1
  split at q1
  · rename_i x b
    obtain ⟨⟨ys, hys⟩, q⟩ := q1
    cases r1 with
    | cons r rr =>
      cases rr with
      | cons r' rr =>
        cases rr
        obtain ⟨t, rfl⟩ := r
        cases r'
        obtain ⟨its, rv, pl, _⟩ := I1.list hys
        have lb : b < s1.heap.objs.size := pl.lt
        obtain ⟨z4, g5, g3, g4, g1, g2, kp⟩ := zp_facts s1.heap (sitO x t) (litO b) rfl rfl
        refine call_zipSL pl.isList (wpAny_pyIter_zip (s := { s1 with heap := _ }) g5 ?_)
        have I2 := I1.kept (t' := s1.toks) kp
        exact ⟨s1.heap.objs.size + 4, _, _, _, H1, rfl, I2, turn_zipSL (t := t) (za_of s1.heap.objs.size [b] (by simpa using lb)) (fun e => absurd (e ▸ lb) (by intro h; have h : s1.heap.objs.size + 1 < s1.heap.objs.size := h; omega)), ⟨Nat.zero_le _, g5, g3, ⟨_, _, g4⟩, ⟨_, g1, rfl, rfl⟩, ⟨_, g2, rfl, rfl⟩⟩, fpk, q⟩
  · rename_i x y
    cases r1 with
    | cons r rr =>
      cases rr with
      | cons r' rr =>
        cases rr
        obtain ⟨t, rfl⟩ := r
        obtain ⟨u, rfl⟩ := r'
        obtain ⟨z4, g5, g3, g4, g1, g2, kp⟩ := zp_facts s1.heap (sitO x t) (sitO y u) rfl rfl
        refine call_zipSS (wpAny_pyIter_zip (s := { s1 with heap := _ }) g5 ?_)
        have I2 := I1.kept (t' := s1.toks) kp
        exact ⟨s1.heap.objs.size + 4, _, _, _, H1, rfl, I2, turn_zipSS (t := t) (u := u) (za_of s1.heap.objs.size [] (by simp)), ⟨Nat.zero_le _, g5, g3, ⟨_, _, g4⟩, ⟨_, g1, rfl, rfl⟩, ⟨_, g2, rfl, rfl⟩⟩, fpk, q1⟩
  · exact q1.elim
end N1
set_option Elab.async false
set_option linter.all false
set_option maxRecDepth 100000
set_option maxHeartbeats 4000000
namespace N1
open PySem PySem.Spec PyProof.Rows L2
def genC (N : List Str) (sc scope : Scope) (Ng : List Str) (cap : List (Option Nat)) : Bool :=
  decide (scope.kind = .function) && decide (scope.isCoroutine = false) && decide (∀ y ∈ scope.names, y.2 ≠ .cell) && decide (scope.names.lookup (".0" : Str) = some .local) && decide (∀ y ∈ scope.names, scope.names.lookup y.1 = some y.2) &&
  decide (∀ y ∈ scope.names, y.2 = .free → sc.names.lookup y.1 = some .cell) && decide Ng.Nodup && decide (cap.length = Ng.length) && ((cap.zip Ng).all fun p => match p.1 with | none => true | some j => decide (N[j]? = some p.2) && decide (scope.names.lookup p.2 = some .free))
theorem genOk_by {N : List Str} {sc scope : Scope} {Ng : List Str} {cap : List (Option Nat)} (h : genC N sc scope Ng cap = true) : GenOk N sc scope Ng cap := by
  unfold genC at h
  simp only [Bool.and_eq_true, decide_eq_true_eq] at h
  obtain ⟨⟨⟨⟨⟨⟨⟨⟨h1, h2⟩, h3⟩, h4⟩, h5⟩, h6⟩, h7⟩, h8⟩, h9⟩ := h
  exact ⟨h1, h2, h3, h4, h5, h6, h7, h8, h9⟩
section
variable {X : Cx} {o e f i value : Expr} {te tf to ty tx td tv : TE} {pos apos cpos pos' : Pos}
def tTabGet2 (kvs : Tab) (te tf : TE) : TE := fun σ H Q => te σ H fun y H1 => tf σ H1 fun z H2 => match y with
  | .str k => Q (match tabV kvs (Lc k) with | some l => .str (S l) | none => z) H2
  | _ => False
theorem ptget {x : Str} {t : Addr} {kvs : Tab} {px : Pos} (T : TabK X.K X.w.params t kvs) (hg : Gl X x) (hm : X.mg x = some (.ref t)) (hn : (t == sysModules) = false) (he : PE X e te) (hf : PE X f tf)
    (m : M2 X (.Name x px) "get" apos e f cpos := by exact ⟨rfl, rfl, rfl, rfl⟩) (hd : (x == ("__debug__" : Str)) = false := by decide) : PE X (.Call (.Attribute (.Name x px) "get" apos) [e, f] [] cpos) (tTabGet2 kvs te tf) := by
  intro pins s σ H Q I h
  refine wpAny_Call_method m.base m.few m.line PySem.F.plainAttrs_dict PySem.F.slot_dict_get PySem.F.type_dict_get (ld_glob I hg hm ?_ hd)
  obtain ⟨vs0, hv0, _⟩ := tab_dict I T
  refine ⟨hv0.typeIs, fun b q => ?_, ?_⟩
  · cases q
    obtain ⟨ob, _, _, h1, h2, _⟩ := hv0
    exact ⟨ob, h1, h2.2.1⟩
  rw [m.trees]
  refine Calls.callWith_builtin rfl (Calls.evalArgs_plain (Calls.spliced_cons (thn (he pins s σ H _ I h) fun u s1 ⟨y, H1, I1, r1, q1⟩ => Calls.spliced_cons (thn (hf pins s1 σ H1 _ I1 q1) fun v s2 ⟨z, H2, I2, r2, q2⟩ => Calls.spliced_nil ?_))))
  cases y with
  | str k =>
    obtain ⟨vs, hv, hr⟩ := tab_dict I2 T
    have hk := hr (Lc k)
    rw [S_Lc] at hk
    refine call_meetsIn PySem.F.slot_dict_get hv.typeIs PySem.F.entry_dict_get (PySem.F.args_dict_get_3 _ _ _) (meets_dict_get_default (mixKind X.prog X.w) t (kV_is (k := Sum.inr k) r1) hn v) ⟨_, hv.mapOf, _, H2, I2.tok _, ?_, q2⟩
    split
    · rename_i l hl
      rw [hl] at hk
      obtain ⟨w', hw, rw'⟩ := RelO.some_of (v := V.str (S l)) (o := valueAt vs (Sum.inr k)) hk
      rw [hw]; exact rw'
    · rename_i hl
      rw [hl] at hk
      rw [RelO.none_of hk]; exact r2
  | _ => exact q2.elim
theorem pe_strS {x : Str} {j : Nat} {p : Pos} : PE X (.Constant (.str x) j p) (tC (.str (S (Lc x)))) := by
  rw [S_Lc]
  exact pe_str
end
section
variable {g : TG} {te : TE} {τ : L2.St} {own : List Nat} {val : Nat → V} {tb : TS} {D : Ends} {σ : L2.St} {H : Hp}
theorem gen_str {l : List Nat} {Pv : Nat → Hp → Prop} (h : ∀ i c H, l[i]? = some c → Pv i H → g (sg c) τ H fun σ2 H2 => wipe σ2 own = τ ∧ te σ2 H2 fun y H3 => y = val i ∧ Pv (i + 1) H3) : Turns (Its (S l)) g te τ own l.length val Pv := by
  refine ⟨fun i H hi p => ⟨by show i < l.toArray.size; simpa using hi, fun x H' q => ?_⟩, fun H p => by show l.toArray.size ≤ l.length; simp⟩
  obtain ⟨e, c, hc, rfl⟩ := q
  subst e
  exact h i c _ (by simpa using hc) p
theorem gen_list {K : PySem.W.Frag} {a : Addr} {xs : List V} {Pv : Nat → Hp → Prop} (hl : ∀ i H, Pv i H → SqL K H a xs) (h : ∀ i x H, xs[i]? = some x → Pv i H → g x τ H fun σ2 H2 => wipe σ2 own = τ ∧ te σ2 H2 fun y H3 => y = val i ∧ Pv (i + 1) H3) : Turns (Itl K a) g te τ own xs.length val Pv := by
  refine ⟨fun i H hi p => ⟨⟨xs, xs[i], hl i H p, List.getElem?_eq_getElem hi⟩, fun x H' q => ?_⟩, fun H p => ⟨xs, hl _ H p, Nat.le_refl _⟩⟩
  obtain ⟨e, q⟩ := q
  subst e
  exact h i x _ (q xs (hl i _ p)) p
theorem gen_zip {K : PySem.W.Frag} {l : List Nat} {b : Addr} {ys : List V} {Pv : Nat → Hp → Prop} (hn : ys.length = l.length) (hl : ∀ i H, Pv i H → SqL K H b ys)
    (h : ∀ i c y T H, l[i]? = some c → ys[i]? = some y → H T = none → Pv i H → g (.ref T) τ (upd H T (.tup [sg c, y])) fun σ2 H2 => wipe σ2 own = τ ∧ te σ2 H2 fun y H3 => y = val i ∧ Pv (i + 1) H3) : Turns (IzL K (S l) b) g te τ own l.length val Pv := by
  refine ⟨fun i H hi p => ⟨⟨by show i < l.toArray.size; simpa using hi, ys, hl i H p, by show l.toArray.size ≤ _; simp [hn]⟩, fun x H' q => ?_⟩, fun H p => by show l.toArray.size ≤ l.length; simp⟩
  obtain ⟨T, c, y, rfl, hT, rfl, hc, hy⟩ := q
  exact h i c y T H hc (hy ys (hl i H p)) hT p
theorem flat_val (l : List Nat) (f : Nat → Nat) : ((List.range l.length).map fun i => [f (l.getD i 0)]).flatten = l.map f := by
  have e : ((List.range l.length).map fun i => [f (l.getD i 0)]) = (l.map f).map fun c => [c] := by
    apply List.ext_getElem
    · simp
    · intro i h1 h2
      have h3 : i < l.length := by simpa using h1
      simp [List.getD_eq_getElem?_getD, h3]
  rw [e]
  induction l.map f with
  | nil => rfl
  | cons c r ih => rw [List.map_cons, List.flatten_cons, ih]; rfl
end
end N1
set_option Elab.async false
set_option linter.all false
set_option maxRecDepth 100000
set_option maxHeartbeats 4000000
namespace N1
open PySem PySem.Spec PyProof.Rows L2
def othT : Tab := [([40], [41]), ([60], [62]), ([91], [93]), ([123], [125]), ([41], [40]), ([62], [60]), ([93], [91]), ([125], [123])]
theorem othT_eq : ([(Lc (Str.ofString "("), Lc (Str.ofString ")")), (Lc (Str.ofString "<"), Lc (Str.ofString ">")), (Lc (Str.ofString "["), Lc (Str.ofString "]")), (Lc (Str.ofString "{"), Lc (Str.ofString "}")), (Lc (Str.ofString ")"), Lc (Str.ofString "(")), (Lc (Str.ofString ">"), Lc (Str.ofString "<")), (Lc (Str.ofString "]"), Lc (Str.ofString "[")), (Lc (Str.ofString "}"), Lc (Str.ofString "{"))] : Tab) = othT := by decide +kernel
theorem othT_get {c : Nat} (h : isOp c = true ∨ isCl c = true) : tabV othT [c] = some [oth c] := by
  rcases h with h | h
  · rcases op_cases h with rfl | rfl | rfl | rfl <;> decide +kernel
  · rcases cl_cases h with rfl | rfl | rfl | rfl <;> decide +kernel
theorem no_op {c : Nat} (h : ¬ isOp c = true) : c ≠ 40 ∧ c ≠ 60 ∧ c ≠ 91 ∧ c ≠ 123 := by
  refine ⟨?_, ?_, ?_, ?_⟩ <;> (rintro rfl; exact h rfl)
theorem no_cl {c : Nat} (h : ¬ isCl c = true) : c ≠ 41 ∧ c ≠ 62 ∧ c ≠ 93 ∧ c ≠ 125 := by
  refine ⟨?_, ?_, ?_, ?_⟩ <;> (rintro rfl; exact h rfl)
theorem oth_id {c : Nat} (h1 : ¬ isOp c = true) (h2 : ¬ isCl c = true) : oth c = c := by
  obtain ⟨a1, a2, a3, a4⟩ := no_op h1
  obtain ⟨b1, b2, b3, b4⟩ := no_cl h2
  simp [oth, *]
theorem othT_no {c : Nat} (h1 : ¬ isOp c = true) (h2 : ¬ isCl c = true) : tabV othT [c] = none := by
  obtain ⟨a1, a2, a3, a4⟩ := no_op h1
  obtain ⟨b1, b2, b3, b4⟩ := no_cl h2
  simp [tabV, othT, List.find?, Ne.symm a1, Ne.symm a2, Ne.symm a3, Ne.symm a4, Ne.symm b1, Ne.symm b2, Ne.symm b3, Ne.symm b4]
theorem othT_d (c : Nat) : (match tabV othT [c] with | some l => V.str (S l) | none => sg c) = sg (oth c) := by
  by_cases h1 : isOp c = true
  · rw [othT_get (.inl h1)]
  · by_cases h2 : isCl c = true
    · rw [othT_get (.inr h2)]
    · rw [othT_no h1 h2, oth_id h1 h2]
def psOf (o : List Nat) : List (Nat × Nat) := [(40, o.getD 0 0), (41, oth (o.getD 0 0)), (60, o.getD 1 0), (62, oth (o.getD 1 0)), (91, o.getD 2 0), (93, oth (o.getD 2 0)), (123, o.getD 3 0), (125, oth (o.getD 3 0))]
def inK (o : List Nat) (c : Nat) : Nat := ((psOf o).lookup c).getD c
end N1
set_option Elab.async false
set_option linter.all false
set_option maxRecDepth 100000
set_option maxHeartbeats 4000000
namespace N1
open PySem PySem.Spec PyProof.Rows L2
theorem run_nil (st : List Nat) : runB st [] = some st := by rw [runB]
theorem run_o {st r : List Nat} {c : Nat} (h : isOp c = true) : runB st (c :: r) = runB (oth c :: st) r := by simp only [runB]; rw [if_pos h]
theorem run_l {st r : List Nat} {c : Nat} (h1 : ¬ isOp c = true) (h2 : ¬ isCl c = true) : runB st (c :: r) = runB st r := by simp only [runB]; rw [if_neg h1, if_neg h2]
theorem run_c {st r : List Nat} {t c : Nat} (h : isCl c = true) : runB (t :: st) (c :: r) = if t = c then runB st r else none := by
  simp only [runB]; rw [if_neg (by rw [cl_not_op h]; decide), if_pos h]
theorem run_c0 {r : List Nat} {c : Nat} (h : isCl c = true) : runB [] (c :: r) = none := by
  simp only [runB]; rw [if_neg (by rw [cl_not_op h]; decide), if_pos h]
theorem run_more (x : List Nat) : ∀ {m st st' : List Nat}, runB st m = some st' → runB (st ++ x) m = some (st' ++ x)
  | [], st, st', h => by rw [run_nil] at h ⊢; cases h; rfl
  | c :: m, st, st', h => by
    by_cases h1 : isOp c = true
    · rw [run_o h1] at h ⊢; exact run_more x (st := oth c :: st) h
    · by_cases h2 : isCl c = true
      · cases st with
        | nil => rw [run_c0 h2] at h; cases h
        | cons t st =>
          rw [run_c h2] at h
          show runB (t :: (st ++ x)) (c :: m) = _
          rw [run_c h2]
          split at h
          · rename_i e; rw [if_pos e]; exact run_more x h
          · cases h
      · rw [run_l h1 h2] at h ⊢; exact run_more x h
theorem clean_run {m : List Nat} (h : Clean m) (st : List Nat) : runB st m = some st := run_more st (st := []) h
theorem clean_mid {a m b : List Nat} (h : Clean m) : Clean (a ++ m ++ b) ↔ Clean (a ++ b) := by
  unfold Clean
  rw [runB_app, runB_app, runB_app]
  cases runB [] a with
  | none => exact Iff.rfl
  | some st => show ((runB st m).bind _ = _) ↔ _; rw [clean_run h]
theorem clean_app {a b : List Nat} (ha : Clean a) : Clean (a ++ b) ↔ Clean b := by
  have := clean_mid (a := []) (b := b) ha
  simpa using this
theorem clean_pair {c : Nat} {a : List Nat} (hc : isOp c = true) (ha : Clean a) : Clean (c :: (a ++ [oth c])) := by
  unfold Clean
  rw [run_o hc, runB_app, clean_run ha]
  show runB [oth c] [oth c] = some []
  rw [run_c (oth_op hc).1, if_pos rfl, run_nil]
theorem run_split : ∀ {r p : List Nat} {t : Nat} {st : List Nat}, runB (p ++ t :: st) r = some [] → ∃ a b, r = a ++ t :: b ∧ runB p a = some [] ∧ runB st b = some []
  | [], p, t, st, h => by rw [run_nil] at h; cases p <;> cases h
  | c :: r, p, t, st, h => by
    by_cases h1 : isOp c = true
    · rw [run_o h1] at h
      obtain ⟨a, b, rfl, h2, h3⟩ := run_split (p := oth c :: p) h
      exact ⟨c :: a, b, rfl, by rw [run_o h1]; exact h2, h3⟩
    · by_cases h2 : isCl c = true
      · cases p with
        | nil =>
          have h' : runB (t :: st) (c :: r) = some [] := h
          rw [run_c h2] at h'
          split at h'
          · rename_i e; subst e; exact ⟨[], r, rfl, rfl, h'⟩
          · cases h'
        | cons s p =>
          have h : runB (s :: (p ++ t :: st)) (c :: r) = some [] := h
          rw [run_c h2] at h
          split at h
          · rename_i e
            obtain ⟨a, b, rfl, h3, h4⟩ := run_split h
            exact ⟨c :: a, b, rfl, by rw [run_c h2, if_pos e]; exact h3, h4⟩
          · cases h
      · rw [run_l h1 h2] at h
        obtain ⟨a, b, rfl, h3, h4⟩ := run_split h
        exact ⟨c :: a, b, rfl, by rw [run_l h1 h2]; exact h3, h4⟩
inductive Dy : List Nat → Prop
  | nil : Dy []
  | lett (c : Nat) (l : List Nat) : ¬ isOp c = true → ¬ isCl c = true → Dy l → Dy (c :: l)
  | pair (c : Nat) (a b : List Nat) : isOp c = true → Dy a → Dy b → Dy (c :: (a ++ oth c :: b))
theorem Dy.clean {l : List Nat} (h : Dy l) : Clean l := by
  induction h with
  | nil => rfl
  | lett c l h1 h2 _ ih => unfold Clean; rw [run_l h1 h2]; exact ih
  | pair c a b hc _ _ ia ib =>
    have e : c :: (a ++ oth c :: b) = (c :: (a ++ [oth c])) ++ b := by simp
    rw [e]
    exact (clean_app (clean_pair hc ia)).mpr ib
theorem Dy.of : ∀ (n : Nat) (l : List Nat), l.length ≤ n → Clean l → Dy l
  | _, [], _, _ => .nil
  | n + 1, c :: l, hn, h => by
    have hl : l.length ≤ n := by simpa using hn
    by_cases h1 : isOp c = true
    · have h : runB [oth c] l = some [] := by rw [← run_o h1]; exact h
      obtain ⟨a, b, rfl, ha, hb⟩ := run_split (p := []) h
      rw [List.length_append, List.length_cons] at hl
      exact .pair c a b h1 (Dy.of n a (by omega) ha) (Dy.of n b (by omega) hb)
    · by_cases h2 : isCl c = true
      · have h : runB [] (c :: l) = some [] := h
        rw [run_c0 h2] at h; cases h
      · exact .lett c l h1 h2 (Dy.of n l hl (by have h : runB [] (c :: l) = some [] := h; rw [run_l h1 h2] at h; exact h))
theorem clean_iff_dy {l : List Nat} : Clean l ↔ Dy l := ⟨Dy.of _ l (Nat.le_refl _), Dy.clean⟩
theorem Dy.app {a b : List Nat} (ha : Dy a) (hb : Dy b) : Dy (a ++ b) := clean_iff_dy.mp ((clean_app ha.clean).mpr hb.clean)
theorem oth_oth (c : Nat) : oth (oth c) = c := by
  by_cases h1 : isOp c = true
  · exact (oth_op h1).2
  · by_cases h2 : isCl c = true
    · exact (oth_cl h2).2
    · rw [oth_id h1 h2, oth_id h1 h2]
theorem op_oth {c : Nat} : isOp (oth c) = isCl c := by
  by_cases h1 : isOp c = true
  · rw [cl_not_op (oth_op h1).1, op_not_cl h1]
  · by_cases h2 : isCl c = true
    · rw [(oth_cl h2).1, h2]
    · rw [oth_id h1 h2]
      rw [show isOp c = false by simpa using h1, show isCl c = false by simpa using h2]
theorem cl_oth {c : Nat} : isCl (oth c) = isOp c := by rw [← op_oth, oth_oth]
abbrev turn (l : List Nat) : List Nat := l.reverse.map oth
theorem turn_turn (l : List Nat) : turn (turn l) = l := by
  unfold turn
  rw [← List.map_reverse, List.reverse_reverse, List.map_map]
  have : (oth ∘ oth) = id := funext oth_oth
  rw [this, List.map_id]
theorem turn_app (a b : List Nat) : turn (a ++ b) = turn b ++ turn a := by unfold turn; rw [List.reverse_append, List.map_append]
theorem Dy.turn {l : List Nat} (h : Dy l) : Dy (turn l) := by
  induction h with
  | nil => exact .nil
  | lett c l h1 h2 _ ih =>
    have e : N1.turn (c :: l) = N1.turn l ++ [c] := by
      show (l.reverse ++ [c]).map oth |> fun z => (c :: l).reverse.map oth = _
      rw [List.reverse_cons, List.map_append]
      show _ ++ [oth c] = _
      rw [oth_id h1 h2]
    rw [e]
    exact ih.app (.lett c [] h1 h2 .nil)
  | pair c a b hc _ _ ia ib =>
    have e : N1.turn (c :: (a ++ oth c :: b)) = N1.turn b ++ (c :: (N1.turn a ++ oth c :: [])) := by
      have e1 : c :: (a ++ oth c :: b) = [c] ++ a ++ [oth c] ++ b := by simp
      rw [e1, turn_app, turn_app, turn_app]
      show _ ++ ([oth (oth c)] ++ (_ ++ [oth c])) = _
      rw [oth_oth]; rfl
    rw [e]
    exact ib.app (.pair c _ [] hc ia .nil)
theorem clean_turn {l : List Nat} : Clean (turn l) ↔ Clean l := by
  rw [clean_iff_dy, clean_iff_dy]
  exact ⟨fun h => by have := h.turn; rw [turn_turn] at this; exact this, Dy.turn⟩
theorem pm_iff : ∀ {r st : List Nat} {t k j : Nat}, isCl t = true → (pm (st ++ [t]) r k = some j ↔ ∃ m, j = k + m ∧ runB st (r.take m) = some [] ∧ r[m]? = some t)
  | [], st, t, k, j, _ => by
    rw [pm]
    exact ⟨fun h => (by cases h), fun ⟨m, _, _, h⟩ => (by simp at h)⟩
  | c :: r, st, t, k, j, ht => by
    by_cases h1 : isOp c = true
    · rw [pm_op h1]
      have ih := pm_iff (r := r) (st := oth c :: st) (k := k + 1) (j := j) ht
      refine Iff.trans ih ⟨fun ⟨m, e, a, b⟩ => ⟨m + 1, by omega, by rw [List.take_succ_cons, run_o h1]; exact a, by simpa using b⟩, fun ⟨m, e, a, b⟩ => ?_⟩
      cases m with
      | zero =>
        simp at b; subst b
        rw [cl_not_op ht] at h1; cases h1
      | succ m => exact ⟨m, by omega, by rw [List.take_succ_cons, run_o h1] at a; exact a, by simpa using b⟩
    · by_cases h2 : isCl c = true
      · cases st with
        | nil =>
          show pm [t] (c :: r) k = some j ↔ _
          rw [pm_cl1 h2]
          constructor
          · intro h
            split at h
            · rename_i e; cases h; exact ⟨0, rfl, rfl, by simp [e]⟩
            · cases h
          · rintro ⟨m, e, a, b⟩
            cases m with
            | zero => simp at b; rw [if_pos b.symm]; simp [e]
            | succ m => rw [List.take_succ_cons, run_c0 h2] at a; cases a
        | cons s st =>
          have e2 : ∃ z q, st ++ [t] = z :: q := by cases st <;> exact ⟨_, _, rfl⟩
          obtain ⟨z, q, e2⟩ := e2
          show pm (s :: (st ++ [t])) (c :: r) k = some j ↔ _
          rw [e2, pm_cl2 h2, ← e2]
          have ih := pm_iff (r := r) (st := st) (k := k + 1) (j := j) ht
          constructor
          · intro h
            split at h
            · rename_i e
              obtain ⟨m, e3, a, b⟩ := ih.mp h
              exact ⟨m + 1, by omega, by rw [List.take_succ_cons, run_c h2, if_pos e]; exact a, by simpa using b⟩
            · cases h
          · rintro ⟨m, e, a, b⟩
            cases m with
            | zero => rw [List.take_zero, run_nil] at a; cases a
            | succ m =>
              rw [List.take_succ_cons, run_c h2] at a
              split at a
              · rename_i e3
                rw [if_pos e3]
                exact ih.mpr ⟨m, by omega, a, by simpa using b⟩
              · cases a
      · rw [pm_lt (by simpa using h1) (by simpa using h2)]
        have ih := pm_iff (r := r) (st := st) (k := k + 1) (j := j) ht
        refine Iff.trans ih ⟨fun ⟨m, e, a, b⟩ => ⟨m + 1, by omega, by rw [List.take_succ_cons, run_l h1 h2]; exact a, by simpa using b⟩, fun ⟨m, e, a, b⟩ => ?_⟩
        cases m with
        | zero =>
          simp at b; subst b
          exact absurd ht h2
        | succ m => exact ⟨m, by omega, by rw [List.take_succ_cons, run_l h1 h2] at a; exact a, by simpa using b⟩
abbrev seg (l : List Nat) (i j : Nat) : List Nat := (l.drop i).take (j - i)
theorem mate_iff {l : List Nat} {i j : Nat} : mate l i = some j ↔ i < j ∧ ∃ c, l[i]? = some c ∧ isOp c = true ∧ l[j]? = some (oth c) ∧ Clean (seg l (i + 1) j) := by
  constructor
  · intro h
    obtain ⟨⟨c, h1, h2⟩, h3, _⟩ := mate_some h
    rw [mate_op h1 h2] at h
    obtain ⟨m, e, a, b⟩ := (pm_iff (st := []) (oth_op h2).1).mp h
    refine ⟨h3, c, h1, h2, ?_, ?_⟩
    · rw [List.getElem?_drop] at b; rw [e]; exact b
    · have : j - (i + 1) = m := by omega
      show runB [] ((l.drop (i + 1)).take (j - (i + 1))) = some []
      rw [this]; exact a
  · rintro ⟨h3, c, h1, h2, h4, h5⟩
    rw [mate_op h1 h2]
    refine (pm_iff (st := []) (oth_op h2).1).mpr ⟨j - (i + 1), by omega, h5, ?_⟩
    rw [List.getElem?_drop, show i + 1 + (j - (i + 1)) = j by omega]
    exact h4
structure AllM (l : List Nat) : Prop where
  op : ∀ i c, l[i]? = some c → isOp c = true → mate l i ≠ none
  cl : ∀ j c, l[j]? = some c → isCl c = true → ∃ i, mate l i = some j
structure Good (l : List Nat) (k : Nat) (W : List Nat) : Prop where
  fwd : ∃ arr, Fwd l k W arr
  nd : W.Nodup
  run : runB [] (l.take k) = some (clsr l W)
  op : ∀ i c, l[i]? = some c → isOp c = true → i < k → i ∉ W → mate l i ≠ none
  cl : ∀ j c, l[j]? = some c → isCl c = true → j < k → ∃ i, mate l i = some j
theorem take_s {l : List Nat} {k c : Nat} (h : l[k]? = some c) : l.take (k + 1) = l.take k ++ [c] := by rw [List.take_add_one, h]; rfl
theorem Good.opn {l W : List Nat} {k c : Nat} (g : Good l k W) (h : l[k]? = some c) (h1 : isOp c = true) : Good l (k + 1) (k :: W) := by
  obtain ⟨arr, x⟩ := g.fwd
  refine ⟨⟨arr, x.opn h h1⟩, x.push_nd g.nd, ?_, fun i c' hi ho hk hw => ?_, fun j c' hj hc hk => ?_⟩
  · rw [take_s h, run_snoc g.run, run_op h1]
    show _ = some (oth (l.getD k 0) :: clsr l W)
    rw [List.getD_eq_getElem?_getD, h]; rfl
  · have : i ≠ k := fun e => hw (e ▸ List.mem_cons_self)
    exact g.op i c' hi ho (by omega) fun z => hw (List.mem_cons_of_mem _ z)
  · have : j ≠ k := fun e => by subst e; rw [h] at hj; cases hj; rw [op_not_cl h1] at hc; cases hc
    exact g.cl j c' hj hc (by omega)
theorem Good.lett {l W : List Nat} {k c : Nat} (g : Good l k W) (h : l[k]? = some c) (h1 : ¬ isOp c = true) (h2 : ¬ isCl c = true) : Good l (k + 1) W := by
  obtain ⟨arr, x⟩ := g.fwd
  obtain ⟨a, b⟩ := not_sign h1 h2
  refine ⟨⟨arr, x.lett h a b⟩, g.nd, ?_, fun i c' hi ho hk hw => ?_, fun j c' hj hc hk => ?_⟩
  · rw [take_s h, run_snoc g.run, run_l h1 h2, run_nil]
  · have : i ≠ k := fun e => by subst e; rw [h] at hi; cases hi; exact h1 ho
    exact g.op i c' hi ho (by omega) hw
  · have : j ≠ k := fun e => by subst e; rw [h] at hj; cases hj; exact h2 hc
    exact g.cl j c' hj hc (by omega)
theorem Good.pop {l W : List Nat} {k c i0 : Nat} (g : Good l k (i0 :: W)) (h : l[k]? = some c) (h1 : isCl c = true) (he : oth (l.getD i0 0) = c) : Good l (k + 1) W := by
  obtain ⟨arr, x⟩ := g.fwd
  have m0 : mate l i0 = some k := by
    rw [(x.stk [] i0 W rfl).2.2, drop_at h]
    show pm [oth (l.getD i0 0)] _ _ = _
    rw [pm_cl1 h1, if_pos he]
  refine ⟨⟨_, x.pop h h1 he g.nd⟩, (List.nodup_cons.mp g.nd).2, ?_, fun i c' hi ho hk hw => ?_, fun j c' hj hc hk => ?_⟩
  · rw [take_s h, run_snoc g.run]
    show runB (oth (l.getD i0 0) :: clsr l W) [c] = _
    rw [run_c h1, if_pos he, run_nil]
  · have : i ≠ k := fun e => by subst e; rw [h] at hi; cases hi; rw [cl_not_op h1] at ho; cases ho
    by_cases z : i = i0
    · subst z; rw [m0]; exact fun e => by cases e
    · exact g.op i c' hi ho (by omega) fun q => (List.mem_cons.mp q).elim z hw
  · by_cases z : j = k
    · subst z; exact ⟨i0, m0⟩
    · exact g.cl j c' hj hc (by omega)
theorem good_start (l : List Nat) : Good l 0 [] := ⟨⟨_, fwd_start l⟩, List.nodup_nil, rfl, fun _ _ _ _ h => absurd h (Nat.not_lt_zero _), fun _ _ _ _ h => absurd h (Nat.not_lt_zero _)⟩
theorem clean_good {l : List Nat} (h : Clean l) : ∀ k, k ≤ l.length → ∃ W, Good l k W
  | 0, _ => ⟨[], good_start l⟩
  | k + 1, hk => by
    obtain ⟨W, g⟩ := clean_good h k (by omega)
    obtain ⟨c, hc⟩ : ∃ c, l[k]? = some c := ⟨l[k], by simp⟩
    by_cases h1 : isOp c = true
    · exact ⟨_, g.opn hc h1⟩
    · by_cases h2 : isCl c = true
      · have hs : ∃ st, runB [] (l.take (k + 1)) = some st := by
          have e : l = l.take (k + 1) ++ l.drop (k + 1) := (List.take_append_drop _ _).symm
          have h' : runB [] l = some [] := h
          rw [e, runB_app] at h'
          cases q : runB [] (l.take (k + 1)) with
          | none => rw [q] at h'; cases h'
          | some st => exact ⟨st, rfl⟩
        obtain ⟨st, hs⟩ := hs
        rw [take_s hc, run_snoc g.run] at hs
        cases W with
        | nil => rw [show clsr l [] = [] from rfl, run_c0 h2] at hs; cases hs
        | cons i0 W =>
          have hs : runB (oth (l.getD i0 0) :: clsr l W) [c] = some st := hs
          rw [run_c h2] at hs
          split at hs
          · rename_i e; exact ⟨W, g.pop hc h2 e⟩
          · cases hs
      · exact ⟨W, g.lett hc h1 h2⟩
theorem clean_allM {l : List Nat} (h : Clean l) : AllM l := by
  obtain ⟨W, g⟩ := clean_good h l.length (Nat.le_refl _)
  have e := g.run
  rw [List.take_length, show runB [] l = some [] from h] at e
  have : W = [] := by
    cases W with
    | nil => rfl
    | cons i W => cases e
  subst this
  exact ⟨fun i c hi ho => g.op i c hi ho (List.getElem?_eq_some_iff.mp hi).1 (by simp), fun j c hj hc => g.cl j c hj hc (List.getElem?_eq_some_iff.mp hj).1⟩
theorem allM_good {l : List Nat} (h : AllM l) : ∀ k, k ≤ l.length → ∃ W, Good l k W
  | 0, _ => ⟨[], good_start l⟩
  | k + 1, hk => by
    obtain ⟨W, g⟩ := allM_good h k (by omega)
    obtain ⟨c, hc⟩ : ∃ c, l[k]? = some c := ⟨l[k], by simp⟩
    by_cases h1 : isOp c = true
    · exact ⟨_, g.opn hc h1⟩
    · by_cases h2 : isCl c = true
      · obtain ⟨arr, x⟩ := g.fwd
        obtain ⟨i, hi⟩ := h.cl k c hc h2
        have bad : (∀ i q, W = i :: q → oth (l.getD i 0) ≠ c) → False := fun hW => by
          have y := x.clear hc h2 hW
          have e1 := y.cl i k hi (Nat.lt_succ_self _)
          rw [x.non k c hc (cl_not_op h2) fun _ _ => Nat.le_refl _] at e1
          cases e1
        cases W with
        | nil => exact (bad fun i q e => by cases e).elim
        | cons i0 W =>
          by_cases e : oth (l.getD i0 0) = c
          · exact ⟨W, g.pop hc h2 e⟩
          · exact (bad fun i' q' e' => by cases e'; exact e).elim
      · exact ⟨W, g.lett hc h1 h2⟩
theorem allM_clean {l : List Nat} (h : AllM l) : Clean l := by
  obtain ⟨W, g⟩ := allM_good h l.length (Nat.le_refl _)
  have e := g.run
  rw [List.take_length] at e
  cases W with
  | nil => exact e
  | cons i W =>
    obtain ⟨arr, x⟩ := g.fwd
    obtain ⟨_, ⟨c, h1, h2⟩, h3⟩ := x.stk [] i W rfl
    rw [List.drop_length, pm] at h3
    exact (h.op i c h1 h2 h3).elim
theorem clean_iff {l : List Nat} : Clean l ↔ AllM l := ⟨clean_allM, allM_clean⟩
theorem Mates.full {l : List Nat} {arr : List (Option Nat)} (x : Mates l arr) : Clean l ↔ ∀ (i c : Nat), l[i]? = some c → (isOp c = true ∨ isCl c = true) → ∃ j, arr[i]? = some (some j) := by
  rw [clean_iff]
  constructor
  · intro h i c hi hb
    rcases hb with hb | hb
    · rw [x.op i c hi hb]
      cases q : mate l i with
      | none => exact (h.op i c hi hb q).elim
      | some j => exact ⟨j, rfl⟩
    · obtain ⟨k, hk⟩ := h.cl i c hi hb
      exact ⟨k, x.cl k i hk⟩
  · intro h
    refine ⟨fun i c hi ho q => ?_, fun j c hj hc => ?_⟩
    · obtain ⟨j, e⟩ := h i c hi (.inl ho)
      rw [x.op i c hi ho, q] at e; cases e
    · obtain ⟨i, e⟩ := h j c hj (.inr hc)
      by_cases z : ∃ i, mate l i = some j
      · exact z
      · rw [x.non j c hj (cl_not_op hc) fun i q => z ⟨i, q⟩] at e; cases e
end N1
set_option Elab.async false
set_option linter.all false
set_option maxRecDepth 100000
set_option maxHeartbeats 4000000
namespace N1
open PySem PySem.Spec PyProof.Rows L2
inductive Dt where
  | non | int (i : Int) | str (l : List Nat) | lst (xs : List Dt) | tup (xs : List Dt)
inductive Dep : Nat → Dt → Prop
  | non {n} : Dep (n + 1) .non
  | int {n i} : Dep (n + 1) (.int i)
  | str {n l} : Dep (n + 1) (.str l)
  | lst {n xs} : (∀ x ∈ xs, Dep n x) → Dep (n + 1) (.lst xs)
  | tup {n xs} : (∀ x ∈ xs, Dep n x) → Dep (n + 1) (.tup xs)
inductive Rp (H : Hp) : V → Dt → Prop
  | non : Rp H .non .non
  | int (i) : Rp H (.int i) (.int i)
  | str (l) : Rp H (.str (S l)) (.str l)
  | lst {a xs ds} : H a = some (.lst xs) → xs.length ≤ 1000000 → xs.length = ds.length → (∀ (i : Nat) x d, xs[i]? = some x → ds[i]? = some d → Rp H x d) → Rp H (.ref a) (.lst ds)
  | tup {a xs ds} : H a = some (.tup xs) → xs.length ≤ 1000000 → xs.length = ds.length → (∀ (i : Nat) x d, xs[i]? = some x → ds[i]? = some d → Rp H x d) → Rp H (.ref a) (.tup ds)
theorem Rp.same {H H' : Hp} (k : Same H H') {v : V} {d : Dt} (h : Rp H v d) : Rp H' v d := by
  induction h with
  | non => exact .non
  | int i => exact .int i
  | str l => exact .str l
  | lst e z l _ ih => exact .lst (k _ _ e) z l ih
  | tup e z l _ ih => exact .tup (k _ _ e) z l ih
def tyD : Dt → Value
  | .non => .type "NoneType"
  | .int _ => .type "int"
  | .str _ => .type "str"
  | .lst _ => .type "list"
  | .tup _ => .type "tuple"
def knd : Dt → Nat
  | .non => 0
  | .int _ => 1
  | .str _ => 2
  | .lst _ => 3
  | .tup _ => 4
theorem Rp.ty {K : PySem.W.Frag} {H : Hp} {v : V} {d : Dt} (h : Rp H v d) : TyOf K H v (tyD d) := by
  cases h with
  | non => exact .non
  | int i => exact .int i
  | str l => exact .str _
  | lst e _ _ _ => exact .lst e
  | tup e _ _ _ => exact .tup e
theorem kit_str {K : PySem.W.Frag} (d : Dt) : PySem.W.kitOne K (tyD d) (.type "str") = some (knd d == 2) := by cases d <;> rfl
theorem kit_int {K : PySem.W.Frag} (d : Dt) : PySem.W.kitOne K (tyD d) (.type "int") = some (knd d == 1) := by cases d <;> rfl
theorem kit_bool {K : PySem.W.Frag} (d : Dt) : PySem.W.kitOne K (tyD d) (.type "bool") = some false := by cases d <;> rfl
theorem kit_list {K : PySem.W.Frag} (d : Dt) : PySem.W.kitOne K (tyD d) (.type "list") = some (knd d == 3) := by cases d <;> rfl
theorem kit_tuple {K : PySem.W.Frag} (d : Dt) : PySem.W.kitOne K (tyD d) (.type "tuple") = some (knd d == 4) := by cases d <;> rfl
theorem Rp.isNon {H : Hp} {v : V} {d : Dt} (h : Rp H v d) : isNon v = (knd d == 0) := by cases h <;> rfl
def vO : Option Nat → V
  | none => .non
  | some j => .int j
end N1
set_option Elab.async false
set_option linter.all false
set_option maxRecDepth 100000
set_option maxHeartbeats 4000000
namespace N1
open PySem PySem.Spec PyProof.Rows L2
section
variable {g : TG} {tt : TT} {te : TE} {vs : List Nat} {σ : L2.St} {H1 : Hp} {D : Addr} {Qd : Hp → Prop}
end
end N1
set_option Elab.async false
set_option linter.all false
set_option maxRecDepth 100000
set_option maxHeartbeats 4000000
namespace N1
open PySem PySem.Spec PyProof.Rows L2
structure Ren (φ : Nat → Nat) : Prop where
  op : ∀ c, isOp (φ c) = isOp c
  cl : ∀ c, isCl (φ c) = isCl c
  oth : ∀ c, φ (oth c) = oth (φ c)
  inj : ∀ a b, φ a = φ b → a = b
section
variable {φ : Nat → Nat}
theorem run_map (h : Ren φ) : ∀ (l st : List Nat), runB (st.map φ) (l.map φ) = (runB st l).map (List.map φ)
  | [], st => by rw [List.map_nil, run_nil, run_nil]; rfl
  | c :: l, st => by
    rw [List.map_cons]
    by_cases h1 : isOp c = true
    · rw [run_o h1, run_o (by rw [h.op]; exact h1), ← h.oth]
      exact run_map h l (oth c :: st)
    · by_cases h2 : isCl c = true
      · have h2' : isCl (φ c) = true := by rw [h.cl]; exact h2
        cases st with
        | nil => rw [List.map_nil, run_c0 h2, run_c0 h2']; rfl
        | cons t st =>
          rw [List.map_cons, run_c h2, run_c h2']
          by_cases e : t = c
          · rw [if_pos e, if_pos (by rw [e])]; exact run_map h l st
          · rw [if_neg e, if_neg fun z => e (h.inj _ _ z)]; rfl
      · rw [run_l h1 h2, run_l (by rw [h.op]; exact h1) (by rw [h.cl]; exact h2)]
        exact run_map h l st
theorem clean_map (h : Ren φ) {l : List Nat} : Clean (l.map φ) ↔ Clean l := by
  have e := run_map h l []
  unfold Clean
  rw [List.map_nil] at e
  rw [e]
  cases runB [] l with
  | none => exact ⟨fun z => (by cases z), fun z => (by cases z)⟩
  | some st =>
    show some (st.map φ) = some [] ↔ _
    cases st <;> simp
theorem mate_map (h : Ren φ) {l : List Nat} {i : Nat} : mate (l.map φ) i = mate l i := by
  have key : ∀ j, mate (l.map φ) i = some j ↔ mate l i = some j := fun j => by
    rw [mate_iff, mate_iff]
    have sg' : seg (l.map φ) (i + 1) j = (seg l (i + 1) j).map φ := by unfold seg; rw [List.map_take, List.map_drop]
    rw [sg', clean_map h, List.getElem?_map, List.getElem?_map]
    constructor
    · rintro ⟨hij, c, h1, h2, h3, h4⟩
      cases e1 : l[i]? with
      | none => rw [e1] at h1; cases h1
      | some c0 =>
        rw [e1] at h1; cases h1
        cases e2 : l[j]? with
        | none => rw [e2] at h3; cases h3
        | some d =>
          rw [e2] at h3
          have h3 : φ d = oth (φ c0) := Option.some.inj h3
          rw [← h.oth] at h3
          exact ⟨hij, c0, rfl, by rw [← h.op]; exact h2, by rw [h.inj _ _ h3], h4⟩
    · rintro ⟨hij, c, h1, h2, h3, h4⟩
      exact ⟨hij, φ c, by rw [h1]; rfl, by rw [h.op]; exact h2, by rw [h3]; show some (φ (oth c)) = _; rw [h.oth], h4⟩
  cases e : mate l i with
  | some j => exact (key j).mpr e
  | none =>
    cases e2 : mate (l.map φ) i with
    | none => rfl
    | some j => rw [(key j).mp e2] at e; cases e
theorem Mates.ren (h : Ren φ) {l : List Nat} {arr : List (Option Nat)} (x : Mates l arr) : Mates (l.map φ) arr where
  len := by rw [List.length_map]; exact x.len
  op := fun i c hi hc => by
    rw [List.getElem?_map] at hi
    cases e : l[i]? with
    | none => rw [e] at hi; cases hi
    | some d =>
      rw [e] at hi; cases hi
      rw [mate_map h]
      exact x.op i d e (by rw [← h.op]; exact hc)
  cl := fun i j e => x.cl i j (by rw [← mate_map h]; exact e)
  non := fun j c hj hc hn => by
    rw [List.getElem?_map] at hj
    cases e : l[j]? with
    | none => rw [e] at hj; cases hj
    | some d =>
      rw [e] at hj; cases hj
      exact x.non j d e (by rw [← h.op]; exact hc) fun i z => hn i (by rw [mate_map h]; exact z)
end
theorem turn_len (l : List Nat) : (turn l).length = l.length := by simp [turn]
theorem turn_at {l : List Nat} {i : Nat} (h : i < l.length) : (turn l)[i]? = (l[l.length - 1 - i]?).map oth := by
  unfold turn
  rw [List.getElem?_map, List.getElem?_reverse h]
theorem turn_seg {l : List Nat} {a b : Nat} (h1 : a ≤ b) (h2 : b ≤ l.length) : seg (turn l) a b = turn (seg l (l.length - b) (l.length - a)) := by
  unfold seg turn
  rw [← List.map_drop, ← List.map_take]
  congr 1
  rw [List.drop_reverse, List.take_reverse, List.length_take, List.drop_take]
  congr 2
  · omega
  · congr 1; omega
theorem mate_turn {l : List Nat} {i j : Nat} (h : mate l i = some j) : mate (turn l) (l.length - 1 - j) = some (l.length - 1 - i) := by
  obtain ⟨_, h3, h4, _⟩ := mate_some h
  obtain ⟨_, c, a1, a2, a3, a4⟩ := mate_iff.mp h
  refine mate_iff.mpr ⟨by omega, c, ?_, a2, ?_, ?_⟩
  · rw [turn_at (by omega), show l.length - 1 - (l.length - 1 - j) = j by omega, a3]
    show some (oth (oth c)) = _
    rw [oth_oth]
  · rw [turn_at (by omega), show l.length - 1 - (l.length - 1 - i) = i by omega, a1]; rfl
  · rw [turn_seg (by omega) (by omega), clean_turn, show l.length - (l.length - 1 - i) = i + 1 by omega, show l.length - (l.length - 1 - j + 1) = j by omega]
    exact a4
abbrev flip (n : Nat) (arr : List (Option Nat)) : List (Option Nat) := arr.reverse.map (Option.map fun j => n - 1 - j)
theorem flip_at {arr : List (Option Nat)} {i : Nat} (h : i < arr.length) : (flip arr.length arr)[i]? = (arr[arr.length - 1 - i]?).map (Option.map fun j => arr.length - 1 - j) := by
  unfold flip
  rw [List.getElem?_map, List.getElem?_reverse h]
theorem Mates.lt {l : List Nat} {arr : List (Option Nat)} (x : Mates l arr) {i j : Nat} (h : arr[i]? = some (some j)) : j < l.length := by
  have hi : i < l.length := by rw [← x.len]; exact (List.getElem?_eq_some_iff.mp h).1
  have hc : l[i]? = some l[i] := List.getElem?_eq_getElem hi
  by_cases ho : isOp l[i] = true
  · rw [x.op i _ hc ho] at h
    exact (mate_some (Option.some.inj h)).2.2.1
  · by_cases z : ∃ k, mate l k = some i
    · obtain ⟨k, z⟩ := z
      rw [x.cl k i z] at h
      cases h
      have := (mate_some z)
      omega
    · rw [x.non i _ hc (by simpa using ho) fun k q => z ⟨k, q⟩] at h
      cases h
theorem Mates.turn {l : List Nat} {arr : List (Option Nat)} (x : Mates l arr) : Mates (turn l) (flip l.length arr) := by
  have ln := x.len
  have back : ∀ {i j}, mate (N1.turn l) i = some j → i < l.length ∧ j < l.length ∧ mate l (l.length - 1 - j) = some (l.length - 1 - i) := fun {i j} h => by
    have hs := mate_some h
    rw [turn_len] at hs
    have := mate_turn h
    rw [turn_turn, turn_len] at this
    exact ⟨by omega, hs.2.2.1, this⟩
  refine ⟨by simp [flip, turn_len, ln], fun i c hi hc => ?_, fun i j e => ?_, fun j c hj hc hn => ?_⟩
  · have hil : i < l.length := by have := (List.getElem?_eq_some_iff.mp hi).1; rw [turn_len] at this; exact this
    rw [turn_at hil] at hi
    cases e : l[l.length - 1 - i]? with
    | none => rw [e] at hi; cases hi
    | some d =>
      rw [e] at hi
      have hi : oth d = c := Option.some.inj hi
      have hd : isCl d = true := by rw [← op_oth, hi]; exact hc
      rw [← ln, flip_at (by rw [ln]; exact hil), ln]
      by_cases z : ∃ k, mate l k = some (l.length - 1 - i)
      · obtain ⟨k, z⟩ := z
        rw [x.cl k _ z]
        have := mate_turn z
        rw [show l.length - 1 - (l.length - 1 - i) = i by omega] at this
        rw [this]; rfl
      · rw [x.non _ d e (cl_not_op hd) fun k q => z ⟨k, q⟩]
        cases q : mate (N1.turn l) i with
        | none => rfl
        | some j =>
          obtain ⟨_, _, b⟩ := back q
          exact absurd ⟨_, b⟩ z
  · obtain ⟨hi, hj, b⟩ := back e
    rw [← ln, flip_at (by rw [ln]; exact hj), ln]
    obtain ⟨⟨c, a1, a2⟩, _⟩ := mate_some b
    rw [x.op _ c a1 a2, b]
    show some (some (l.length - 1 - (l.length - 1 - i))) = _
    rw [show l.length - 1 - (l.length - 1 - i) = i by omega]
  · have hjl : j < l.length := by have := (List.getElem?_eq_some_iff.mp hj).1; rw [turn_len] at this; exact this
    rw [turn_at hjl] at hj
    cases e : l[l.length - 1 - j]? with
    | none => rw [e] at hj; cases hj
    | some d =>
      rw [e] at hj
      have hj : oth d = c := Option.some.inj hj
      rw [← ln, flip_at (by rw [ln]; exact hjl), ln]
      by_cases hd : isOp d = true
      · rw [x.op _ d e hd]
        cases q : mate l (l.length - 1 - j) with
        | none => rfl
        | some k =>
          have := mate_turn q
          rw [show l.length - 1 - (l.length - 1 - j) = j by omega] at this
          exact absurd this (hn _)
      · have hb : ∀ k, mate l k ≠ some (l.length - 1 - j) := fun k q => by
          obtain ⟨_, _, _, c2, b1, b2⟩ := mate_some q
          rw [e] at b1; cases b1
          rw [← hj, op_oth, b2] at hc; cases hc
        rw [x.non _ d e (by simpa using hd) hb]; rfl
def backO (o : List Nat) : List Nat := [40, 60, 91, 123].map fun c => [40, 60, 91, 123].getD (o.idxOf c) 0
structure Ord (o : List Nat) : Prop where
  ren : Ren (inK o)
  inv : ∀ c, inK (backO o) (inK o c) = c
  b4 : (backO o).length = 4
  bop : ∀ c ∈ backO o, isOp c = true
theorem sg_oth {c : Nat} (h : isSg c = true) : isSg (oth c) = true := by
  unfold isSg at h ⊢
  rw [op_oth, cl_oth]
  rcases Bool.or_eq_true_iff.mp h with h | h
  · rcases Bool.or_eq_true_iff.mp h with h | h
    · have := lt_not h
      rw [oth_id (by rw [this.1]; decide) (by rw [this.2]; decide), h]; rfl
    · rw [h]; simp
  · rw [h]; simp
theorem Sgs.turn {l : List Nat} (h : Sgs l) : Sgs (turn l) := fun c hc => by
  obtain ⟨d, hd, rfl⟩ := List.mem_map.mp hc
  exact sg_oth (h d (List.mem_reverse.mp hd))
theorem Sgs.ren {φ : Nat → Nat} (r : Ren φ) (hφ : ∀ c, isOp c = false → isCl c = false → φ c = c) {l : List Nat} (h : Sgs l) : Sgs (l.map φ) := fun c hc => by
  obtain ⟨d, hd, rfl⟩ := List.mem_map.mp hc
  have := h d hd
  unfold isSg at this ⊢
  rw [r.op, r.cl]
  by_cases z1 : isOp d = true
  · rw [z1]; simp
  · by_cases z2 : isCl d = true
    · rw [z2]; simp
    · rw [hφ d (by simpa using z1) (by simpa using z2)]; exact this
end N1
set_option Elab.async false
set_option linter.all false
set_option maxRecDepth 100000
set_option maxHeartbeats 4000000
namespace N1
open PySem PySem.Spec PyProof.Rows L2
theorem cut_mid {α : Type} (l : List α) {a b : Nat} (hb : b ≤ l.length) (ha : a ≤ l.length) : cutA l (some (a : Int)) (some (b : Int)) = (l.drop a).take (b - a) := by
  unfold cutA
  have e : ∀ (k d : Nat), k ≤ l.length → HT.sIx l.length d (some (k : Int)) = k := fun k d hk => by
    unfold HT.sIx
    simp only [show ¬ ((k : Int) < 0) by omega, if_false]
    omega
  rw [e a _ ha, e b _ hb]
end N1
set_option Elab.async false
set_option linter.all false
set_option maxRecDepth 100000
set_option maxHeartbeats 4000000
namespace N1
open PySem PySem.Spec PyProof.Rows L2
section
variable {X : Cx} {K : PySem.W.Frag} {e o : Expr} {te to : TE} {pos apos : Pos}
theorem ixK (h : X.K = K := by rfl) : IxR X (rIxC K) := h ▸ ixC
theorem opAddK (h : X.K = K := by rfl) : OpR X (binaryOp .Add) (rAddC K) := h ▸ opAdd
theorem opNeK (hu : X.A.units + 64 < cLine) (h : X.K = K := by rfl) : OpR X (compareOp .NotEq) (rEqC K true) := h ▸ opNe hu
theorem cIsiK (h : X.K = K := by rfl) : CallR X (.builtin "isinstance") (rIsi K) := h ▸ cIsi
theorem cLenK (h : X.K = K := by rfl) : CallR X (.builtin "len") (rLenC K) := h ▸ cLen
theorem ptruK {a : Expr} {ta : TE} (ha : PE X a ta) (h : X.K = K := by rfl) (he : ∀ whole, isTrue a X.env whole = (do let v ← whole; standAt a.pos; holding [v] (truthy v)) := by intro _; rfl) : PT X a (tTruC K ta) := h ▸ ptru ha he
end
end N1
set_option Elab.async false
set_option linter.all false
set_option maxRecDepth 100000
set_option maxHeartbeats 4000000
namespace N1
open PySem PySem.Spec PyProof.Rows L2
inductive Nd where
  | nil
  | lett (c : Nat) (r : Nd)
  | br (c : Nat) (t a : Addr) (n r : Nd)
namespace Nd
def vals : Nd → List V
  | nil => []
  | lett c r => sg c :: vals r
  | br _ t _ _ r => .ref t :: vals r
def Holds (H : Hp) : Nd → Prop
  | nil => True
  | lett _ r => Holds H r
  | br c t a n r => H t = some (.tup [sg c, .ref a]) ∧ H a = some (.lst (vals n)) ∧ Holds H n ∧ Holds H r
def lists : Nd → List Addr
  | nil => []
  | lett _ r => lists r
  | br _ _ a n r => a :: (lists n ++ lists r)
def tx : Nd → List Nat
  | nil => []
  | lett c r => c :: tx r
  | br c _ _ n r => c :: (tx n ++ oth c :: tx r)
def dt : Nd → List Dt
  | nil => []
  | lett c r => .str [c] :: dt r
  | br c _ _ n r => .tup [.str [c], .lst (dt n)] :: dt r
def WF : Nd → Prop
  | nil => True
  | lett c r => isLt c = true ∧ WF r
  | br c _ _ n r => isOp c = true ∧ WF n ∧ WF r
def lv : Nd → Nat
  | nil => 0
  | lett _ r => max 1 (lv r)
  | br _ _ _ n r => max (lv n + 1) (lv r)
def app : Nd → Nd → Nd
  | nil, m => m
  | lett c r, m => lett c (app r m)
  | br c t a n r, m => br c t a n (app r m)
theorem vals_app (m : Nd) : ∀ n, vals (app n m) = vals n ++ vals m
  | nil => rfl
  | lett c r => by show _ :: vals (app r m) = _; rw [vals_app m r]; rfl
  | br c t a n r => by show _ :: vals (app r m) = _; rw [vals_app m r]; rfl
theorem holds_app {H : Hp} (m : Nd) : ∀ n, Holds H (app n m) ↔ Holds H n ∧ Holds H m
  | nil => ⟨fun h => ⟨trivial, h⟩, fun h => h.2⟩
  | lett c r => holds_app m r
  | br c t a n r => by
    show (_ ∧ _ ∧ _ ∧ Holds H (app r m)) ↔ _
    rw [holds_app m r]
    exact ⟨fun ⟨a, b, c, d, e⟩ => ⟨⟨a, b, c, d⟩, e⟩, fun ⟨⟨a, b, c, d⟩, e⟩ => ⟨a, b, c, d, e⟩⟩
theorem lists_app (m : Nd) : ∀ n, lists (app n m) = lists n ++ lists m
  | nil => rfl
  | lett c r => lists_app m r
  | br c t a n r => by show a :: (lists n ++ lists (app r m)) = _; rw [lists_app m r]; simp [lists]
theorem tx_app (m : Nd) : ∀ n, tx (app n m) = tx n ++ tx m
  | nil => rfl
  | lett c r => by show c :: tx (app r m) = _; rw [tx_app m r]; rfl
  | br c t a n r => by show c :: (tx n ++ oth c :: tx (app r m)) = _; rw [tx_app m r]; simp [tx]
theorem wf_app (m : Nd) : ∀ n, WF (app n m) ↔ WF n ∧ WF m
  | nil => ⟨fun h => ⟨trivial, h⟩, fun h => h.2⟩
  | lett c r => by show (_ ∧ WF (app r m)) ↔ _; rw [wf_app m r]; exact ⟨fun ⟨a, b, c⟩ => ⟨⟨a, b⟩, c⟩, fun ⟨⟨a, b⟩, c⟩ => ⟨a, b, c⟩⟩
  | br c t a n r => by show (_ ∧ _ ∧ WF (app r m)) ↔ _; rw [wf_app m r]; exact ⟨fun ⟨a, b, c, d⟩ => ⟨⟨a, b, c⟩, d⟩, fun ⟨⟨a, b, c⟩, d⟩ => ⟨a, b, c, d⟩⟩
theorem Holds.same {H H' : Hp} (k : Same H H') : ∀ {n : Nd}, Holds H n → Holds H' n
  | nil, _ => trivial
  | lett _ r, h => Holds.same (n := r) k h
  | br _ _ _ n r, h => ⟨k _ _ h.1, k _ _ h.2.1, Holds.same (n := n) k h.2.2.1, Holds.same (n := r) k h.2.2.2⟩
theorem Holds.upd {H : Hp} {b : Addr} {xs ys : List V} (hb : H b = some (.lst xs)) : ∀ {n : Nd}, b ∉ lists n → Holds H n → Holds (upd H b (.lst ys)) n
  | nil, _, _ => trivial
  | lett _ r, hn, h => Holds.upd (n := r) hb hn h
  | br c t a n r, hn, h => by
    have hn : b ∉ a :: (lists n ++ lists r) := hn
    simp only [List.mem_cons, List.mem_append, not_or] at hn
    refine ⟨?_, ?_, Holds.upd (n := n) hb hn.2.1 h.2.2.1, Holds.upd (n := r) hb hn.2.2 h.2.2.2⟩
    · rw [upd_ne fun e => by have h1 := h.1; rw [e, hb] at h1; cases h1]; exact h.1
    · rw [upd_ne fun e => hn.1 e.symm]; exact h.2.1
def Kps (L : List Addr) (H H' : Hp) : Prop := ∀ b o, b ∉ L → H b = some o → H' b = some o
theorem Holds.kps {L : List Addr} {H H' : Hp} (k : Kps L H H') (hL : ∀ b ∈ L, ∃ xs, H b = some (.lst xs)) : ∀ {n : Nd}, (∀ b ∈ lists n, b ∉ L) → Holds H n → Holds H' n
  | nil, _, _ => trivial
  | lett _ r, hn, h => Holds.kps (n := r) k hL hn h
  | br c t a n r, hn, h => by
    refine ⟨k _ _ (fun m => ?_) h.1, k _ _ (hn a List.mem_cons_self) h.2.1, Holds.kps (n := n) k hL (fun b hb => hn b (List.mem_cons_of_mem _ (List.mem_append_left _ hb))) h.2.2.1, Holds.kps (n := r) k hL (fun b hb => hn b (List.mem_cons_of_mem _ (List.mem_append_right _ hb))) h.2.2.2⟩
    obtain ⟨xs, e⟩ := hL t m
    rw [h.1] at e; cases e
theorem Holds.lst {H : Hp} : ∀ {n : Nd}, Holds H n → ∀ b ∈ lists n, ∃ xs, H b = some (.lst xs)
  | nil, _, _, hb => by cases hb
  | lett _ r, h, b, hb => Holds.lst (n := r) h b hb
  | br c t a n r, h, b, hb => by
    rcases List.mem_cons.mp hb with e | hb
    · subst e; exact ⟨_, h.2.1⟩
    · rcases List.mem_append.mp hb with hb | hb
      · exact Holds.lst (n := n) h.2.2.1 b hb
      · exact Holds.lst (n := r) h.2.2.2 b hb
theorem len_vals : ∀ n : Nd, (vals n).length ≤ (tx n).length
  | nil => Nat.le_refl _
  | lett c r => by have := len_vals r; show (vals r).length + 1 ≤ (tx r).length + 1; omega
  | br c t a n r => by
    have := len_vals r
    show (vals r).length + 1 ≤ (c :: (tx n ++ oth c :: tx r)).length
    simp; omega
theorem len_dt : ∀ n : Nd, (dt n).length = (vals n).length
  | nil => rfl
  | lett c r => by show (dt r).length + 1 = (vals r).length + 1; rw [len_dt r]
  | br c t a n r => by show (dt r).length + 1 = (vals r).length + 1; rw [len_dt r]
theorem rp {H : Hp} : ∀ {n : Nd}, Holds H n → (tx n).length ≤ 1000 → ∀ (i : Nat) x d, (vals n)[i]? = some x → (dt n)[i]? = some d → Rp H x d
  | nil, _, _, i, x, d, h1, _ => by simp [vals] at h1
  | lett c r, h, hz, i, x, d, h1, h2 => by
    cases i with
    | zero =>
      cases (show some (sg c) = some x from h1)
      cases (show some (Dt.str [c]) = some d from h2)
      exact .str [c]
    | succ i => exact rp (n := r) h (by have : (tx r).length + 1 ≤ 1000 := hz; omega) i x d h1 h2
  | br c t a n r, h, hz, i, x, d, h1, h2 => by
    have hz : (c :: (tx n ++ oth c :: tx r)).length ≤ 1000 := hz
    simp at hz
    cases i with
    | zero =>
      cases (show some (V.ref t) = some x from h1)
      cases (show some (Dt.tup [.str [c], .lst (dt n)]) = some d from h2)
      have ln := len_vals n
      have inner : Rp H (.ref a) (.lst (dt n)) := .lst h.2.1 (by omega) (len_dt n).symm (rp (n := n) h.2.2.1 (by omega))
      refine .tup h.1 (by show 2 ≤ 1000000; decide) rfl fun j y e h3 h4 => ?_
      match j with
      | 0 => cases h3; cases h4; exact .str [c]
      | 1 => cases h3; cases h4; exact inner
      | j + 2 => simp at h3
    | succ i => exact rp (n := r) h.2.2.2 (by omega) i x d h1 h2
structure At (H : Hp) (a : Addr) (n : Nd) : Prop where
  top : H a = some (.lst (vals n))
  holds : Holds H n
  nd : (a :: lists n).Nodup
theorem At.rp {H : Hp} {a : Addr} {n : Nd} (x : At H a n) (hz : (tx n).length ≤ 1000) : Rp H (.ref a) (.lst (dt n)) := .lst x.top (by have := len_vals n; omega) (len_dt n).symm (Nd.rp x.holds hz)
theorem At.same {H H' : Hp} {a : Addr} {n : Nd} (x : At H a n) (k : Same H H') : At H' a n := ⟨k _ _ x.top, x.holds.same k, x.nd⟩
theorem At.kps {L : List Addr} {H H' : Hp} {a : Addr} {n : Nd} (x : At H a n) (k : Kps L H H') (hL : ∀ b ∈ L, ∃ xs, H b = some (.lst xs)) (hn : ∀ b ∈ a :: lists n, b ∉ L) : At H' a n :=
  ⟨k _ _ (hn a List.mem_cons_self) x.top, x.holds.kps k hL fun b hb => hn b (List.mem_cons_of_mem _ hb), x.nd⟩
theorem At.lst {H : Hp} {a : Addr} {n : Nd} (x : At H a n) : ∀ b ∈ a :: lists n, ∃ xs, H b = some (.lst xs) := fun b hb => by
  rcases List.mem_cons.mp hb with e | hb
  · subst e; exact ⟨_, x.top⟩
  · exact x.holds.lst b hb
theorem dep : ∀ (n : Nd) (k : Nat), 2 * lv n ≤ k → ∀ d ∈ dt n, Dep (k + 1) d
  | nil, _, _, d, h => by cases h
  | lett c r, k, hk, d, h => by
    have hk : 2 * max 1 (lv r) ≤ k := hk
    rcases List.mem_cons.mp h with e | h
    · subst e; exact .str
    · exact dep r k (by omega) d h
  | br c t a n r, k, hk, d, h => by
    have hk : 2 * max (lv n + 1) (lv r) ≤ k := hk
    rcases List.mem_cons.mp h with e | h
    · subst e
      obtain ⟨k', rfl⟩ : ∃ k', k = k' + 2 := ⟨k - 2, by omega⟩
      refine .tup fun x hx => ?_
      rcases List.mem_cons.mp hx with e | hx
      · subst e; exact .str
      · have e := List.mem_singleton.mp hx
        subst e
        exact .lst fun y hy => dep n k' (by omega) y hy
    · exact dep r k (by omega) d h
theorem lv_len : ∀ n : Nd, 2 * lv n ≤ (tx n).length + 1
  | nil => by show 0 ≤ _; omega
  | lett c r => by have := lv_len r; show 2 * max 1 (lv r) ≤ (tx r).length + 1 + 1; omega
  | br c t a n r => by
    have h1 := lv_len n
    have h2 := lv_len r
    show 2 * max (lv n + 1) (lv r) ≤ (c :: (tx n ++ oth c :: tx r)).length + 1
    simp; omega
def sh : Nd → Nd
  | nil => nil
  | lett c r => lett c (sh r)
  | br c _ _ n r => br c 0 0 (sh n) (sh r)
def Ends (x : List Nat) : Prop := ∀ c r, x = c :: r → isCl c = true
theorem tx_inj : ∀ (n m : Nd) (x y : List Nat), WF n → WF m → Ends x → Ends y → tx n ++ x = tx m ++ y → sh n = sh m ∧ x = y
  | nil, nil, x, y, _, _, _, _, h => ⟨rfl, h⟩
  | nil, lett c r, x, y, _, wm, ex, _, h => by
    have := ex c _ (by simpa [tx] using h)
    rw [(lt_not wm.1).2] at this; cases this
  | nil, br c t a n r, x, y, _, wm, ex, _, h => by
    have := ex c _ (by simpa [tx] using h)
    rw [op_not_cl wm.1] at this; cases this
  | lett c r, nil, x, y, wn, _, _, ey, h => by
    have := ey c _ (by simpa [tx] using h.symm)
    rw [(lt_not wn.1).2] at this; cases this
  | br c t a n r, nil, x, y, wn, _, _, ey, h => by
    have := ey c _ (by simpa [tx] using h.symm)
    rw [op_not_cl wn.1] at this; cases this
  | lett c r, lett c' r', x, y, wn, wm, ex, ey, h => by
    have h : c :: (tx r ++ x) = c' :: (tx r' ++ y) := h
    injection h with h1 h2
    obtain ⟨e1, e2⟩ := tx_inj r r' x y wn.2 wm.2 ex ey h2
    exact ⟨by show lett c (sh r) = lett c' (sh r'); rw [h1, e1], e2⟩
  | lett c r, br c' t a n r', x, y, wn, wm, _, _, h => by
    have h : c :: (tx r ++ x) = c' :: (tx n ++ oth c' :: tx r' ++ y) := h
    injection h with h1 _
    rw [h1] at wn
    have := (lt_not wn.1).1
    rw [wm.1] at this; cases this
  | br c t a n r, lett c' r', x, y, wn, wm, _, _, h => by
    have h : c :: (tx n ++ oth c :: tx r ++ x) = c' :: (tx r' ++ y) := h
    injection h with h1 _
    rw [← h1] at wm
    have := (lt_not wm.1).1
    rw [wn.1] at this; cases this
  | br c t a n r, br c' t' a' n' r', x, y, wn, wm, ex, ey, h => by
    have h : c :: (tx n ++ oth c :: tx r ++ x) = c' :: (tx n' ++ oth c' :: tx r' ++ y) := h
    injection h with h1 h2
    subst h1
    have ce : ∀ z, Ends (oth c :: z) := fun z d q e => by cases e; exact (oth_op wn.1).1
    obtain ⟨e1, e2⟩ := tx_inj n n' (oth c :: (tx r ++ x)) (oth c :: (tx r' ++ y)) wn.2.1 wm.2.1 (ce _) (ce _) (by simpa using h2)
    injection e2 with _ e2
    obtain ⟨e3, e4⟩ := tx_inj r r' x y wn.2.2 wm.2.2 ex ey e2
    exact ⟨by show br c 0 0 (sh n) (sh r) = br c 0 0 (sh n') (sh r'); rw [e1, e3], e4⟩
theorem tx_sh {n m : Nd} (wn : WF n) (wm : WF m) (h : tx n = tx m) : sh n = sh m := (tx_inj n m [] [] wn wm (fun c r e => by cases e) (fun c r e => by cases e) (by simpa using h)).1
theorem tx_clean : ∀ {n : Nd}, WF n → Clean (tx n)
  | nil, _ => rfl
  | lett c r, w => by
    have := tx_clean (n := r) w.2
    obtain ⟨a, b⟩ := lt_not w.1
    show runB [] (c :: tx r) = some []
    rw [run_l (by rw [a]; decide) (by rw [b]; decide)]; exact this
  | br c t a n r, w => by
    have e : tx (br c t a n r) = (c :: (tx n ++ [oth c])) ++ tx r := by simp [tx]
    rw [e]
    exact (clean_app (clean_pair w.1 (tx_clean (n := n) w.2.1))).mpr (tx_clean (n := r) w.2.2)
end Nd
end N1
set_option Elab.async false
set_option linter.all false
set_option maxRecDepth 100000
set_option maxHeartbeats 4000000
namespace N1
open PySem PySem.Spec PyProof.Rows L2
namespace Nd
def dnum : Nd → Int → List Dt × Int
  | nil, i => ([], i)
  | lett c r, i => (.str [c] :: (dnum r i).1, (dnum r i).2)
  | br c _ _ n r, i => (.tup [.str [c], .lst ((dnum n i).1 ++ [.int (dnum n i).2])] :: (dnum r ((dnum n i).2 + 1)).1, (dnum r ((dnum n i).2 + 1)).2)
def Hn (H : Hp) : Nd → Int → Int → Prop
  | nil, i, j => j = i
  | lett _ r, i, j => Hn H r i j
  | br c t a n r, i, j => ∃ k, H t = some (.tup [sg c, .ref a]) ∧ H a = some (.lst (vals n ++ [.int k])) ∧ Hn H n i k ∧ Hn H r (k + 1) j
theorem Hn.num {H : Hp} : ∀ {n : Nd} {i j : Int}, Hn H n i j → j = (dnum n i).2
  | nil, _, _, h => h
  | lett _ r, _, _, h => Hn.num (n := r) h
  | br c t a n r, i, j, ⟨k, _, _, h3, h4⟩ => by
    have e1 := Hn.num (n := n) h3
    have e2 := Hn.num (n := r) h4
    rw [e1] at e2; exact e2
theorem Hn.app {H : Hp} (m : Nd) : ∀ {n : Nd} {i j k : Int}, Hn H n i j → Hn H m j k → Hn H (app n m) i k
  | nil, _, _, _, h, h2 => by cases (show _ = _ from h); exact h2
  | lett _ r, _, _, _, h, h2 => Hn.app m (n := r) h h2
  | br c t a n r, _, _, _, ⟨q, h1, h3, h4, h5⟩, h2 => ⟨q, h1, h3, h4, Hn.app m (n := r) h5 h2⟩
theorem Hn.kps {L : List Addr} {H H' : Hp} (k : Kps L H H') (hL : ∀ b ∈ L, ∃ xs, H b = some (.lst xs)) : ∀ {n : Nd} {i j : Int}, (∀ b ∈ lists n, b ∉ L) → Hn H n i j → Hn H' n i j
  | nil, _, _, _, h => h
  | lett _ r, _, _, hn, h => Hn.kps (n := r) k hL hn h
  | br c t a n r, _, _, hn, ⟨q, h1, h2, h3, h4⟩ => by
    refine ⟨q, k _ _ (fun m => ?_) h1, k _ _ (hn a List.mem_cons_self) h2, Hn.kps (n := n) k hL (fun b hb => hn b (List.mem_cons_of_mem _ (List.mem_append_left _ hb))) h3, Hn.kps (n := r) k hL (fun b hb => hn b (List.mem_cons_of_mem _ (List.mem_append_right _ hb))) h4⟩
    obtain ⟨xs, e⟩ := hL t m
    rw [h1] at e; cases e
theorem len_dnum : ∀ (n : Nd) (i : Int), (dnum n i).1.length = (vals n).length
  | nil, _ => rfl
  | lett c r, i => by show (dnum r i).1.length + 1 = (vals r).length + 1; rw [len_dnum r]
  | br c t a n r, i => by show (dnum r _).1.length + 1 = (vals r).length + 1; rw [len_dnum r]
theorem rp_app {H : Hp} {xs : List V} {ds : List Dt} {y : V} {e : Dt} (hl : xs.length = ds.length) (h : ∀ (i : Nat) x d, xs[i]? = some x → ds[i]? = some d → Rp H x d) (hy : Rp H y e) : ∀ (i : Nat) x d, (xs ++ [y])[i]? = some x → (ds ++ [e])[i]? = some d → Rp H x d := fun i x d h1 h2 => by
  by_cases hi : i < xs.length
  · rw [List.getElem?_append_left hi] at h1
    rw [List.getElem?_append_left (by omega)] at h2
    exact h i x d h1 h2
  · rw [List.getElem?_append_right (by omega)] at h1
    rw [List.getElem?_append_right (by omega)] at h2
    cases hk : i - xs.length with
    | zero =>
      rw [hk] at h1
      rw [← hl, hk] at h2
      cases h1; cases h2; exact hy
    | succ k => rw [hk] at h1; simp at h1
theorem Hn.rp {H : Hp} : ∀ {n : Nd} {i j : Int}, Hn H n i j → (tx n).length ≤ 1000 → ∀ (k : Nat) x d, (vals n)[k]? = some x → (dnum n i).1[k]? = some d → Rp H x d
  | nil, _, _, _, _, k, x, d, h1, _ => by simp [vals] at h1
  | lett c r, i, j, h, hz, k, x, d, h1, h2 => by
    cases k with
    | zero =>
      cases (show some (sg c) = some x from h1)
      cases (show some (Dt.str [c]) = some d from h2)
      exact .str [c]
    | succ k => exact Hn.rp (n := r) h (by have : (tx r).length + 1 ≤ 1000 := hz; omega) k x d h1 h2
  | br c t a n r, i, j, ⟨q, g1, g2, g3, g4⟩, hz, k, x, d, h1, h2 => by
    have hz : (c :: (tx n ++ oth c :: tx r)).length ≤ 1000 := hz
    simp at hz
    have eq := Hn.num (n := n) g3
    cases k with
    | zero =>
      cases (show some (V.ref t) = some x from h1)
      cases (show some (Dt.tup [.str [c], .lst ((dnum n i).1 ++ [.int (dnum n i).2])]) = some d from h2)
      have ln := len_vals n
      have inner : Rp H (.ref a) (.lst ((dnum n i).1 ++ [.int (dnum n i).2])) := by
        rw [← eq]
        exact .lst g2 (by rw [List.length_append, List.length_singleton]; omega) (by rw [List.length_append, List.length_append, len_dnum]; rfl) (rp_app (len_dnum n i).symm (Hn.rp (n := n) g3 (by omega)) (.int q))
      refine .tup g1 (by show 2 ≤ 1000000; decide) rfl fun j y e h3 h4 => ?_
      match j with
      | 0 => cases h3; cases h4; exact .str [c]
      | 1 => cases h3; cases h4; exact inner
      | j + 2 => simp at h3
    | succ k =>
      rw [eq] at g4
      exact Hn.rp (n := r) g4 (by omega) k x d h1 h2
structure Nm (H : Hp) (a : Addr) (n : Nd) (i j : Int) : Prop where
  top : H a = some (.lst (vals n ++ [.int j]))
  hn : Hn H n i j
abbrev dN (n : Nd) (i : Int) : Dt := .lst ((dnum n i).1 ++ [.int (dnum n i).2])
theorem Nm.rp {H : Hp} {a : Addr} {n : Nd} {i j : Int} (x : Nm H a n i j) (hz : (tx n).length ≤ 1000) : Rp H (.ref a) (dN n i) := by
  have e := x.hn.num
  have ln := len_vals n
  show Rp H (.ref a) (.lst ((dnum n i).1 ++ [.int (dnum n i).2]))
  rw [← e]
  exact .lst x.top (by rw [List.length_append, List.length_singleton]; omega) (by rw [List.length_append, List.length_append, len_dnum]; rfl) (rp_app (len_dnum n i).symm (x.hn.rp hz) (.int j))
theorem Nm.kps {L : List Addr} {H H' : Hp} {a : Addr} {n : Nd} {i j : Int} (x : Nm H a n i j) (k : Kps L H H') (hL : ∀ b ∈ L, ∃ xs, H b = some (.lst xs)) (hn : ∀ b ∈ a :: lists n, b ∉ L) : Nm H' a n i j :=
  ⟨k _ _ (hn a List.mem_cons_self) x.top, x.hn.kps k hL fun b hb => hn b (List.mem_cons_of_mem _ hb)⟩
def pd : Nd → List PyData
  | nil => []
  | lett c r => .str (S [c]) :: pd r
  | br c _ _ n r => .tuple [.str (S [c]), .list (pd n)] :: pd r
theorem pd_sh : ∀ n : Nd, pd (sh n) = pd n
  | nil => rfl
  | lett c r => by show _ :: pd (sh r) = _; rw [pd_sh r]; rfl
  | br c t a n r => by show PyData.tuple [.str (S [c]), .list (pd (sh n))] :: pd (sh r) = _; rw [pd_sh n, pd_sh r]; rfl
theorem dp {K : PySem.W.Frag} {H : Hp} : ∀ {n : Nd}, Holds H n → DpAll K H (vals n) (pd n)
  | nil, _ => .nil
  | lett c r, h => .cons (.str _) (dp (n := r) h)
  | br c t a n r, h => .cons (.tup (SqT.of h.1) (.cons (.str _) (.cons (.lst (SqL.of h.2.1) (dp (n := n) h.2.2.1)) .nil))) (dp (n := r) h.2.2.2)
theorem strOk_sg {c : Nat} (h : isSg c = true) : PyData.canLay0 (.str (S [c])) = true := by
  have := sg_small h
  simp [PyData.canLay0, PyData.strOk, this]
theorem lay : ∀ {n : Nd}, WF n → PyData.canLayAll0 (pd n) = true
  | nil, _ => by simp [pd, PyData.canLayAll0]
  | lett c r, w => by
    have h1 := lay (n := r) w.2
    have h2 := strOk_sg (sg_of_lt w.1)
    show PyData.canLayAll0 (.str (S [c]) :: pd r) = true
    rw [PyData.canLayAll0, h1, h2]; rfl
  | br c t a n r, w => by
    have h1 := lay (n := n) w.2.1
    have h2 := lay (n := r) w.2.2
    have h3 := strOk_sg (sg_of_op w.1)
    show PyData.canLayAll0 (.tuple [.str (S [c]), .list (pd n)] :: pd r) = true
    rw [PyData.canLayAll0, h2, PyData.canLay0, PyData.canLayAll0, h3, PyData.canLayAll0, PyData.canLay0, h1, PyData.canLayAll0]; rfl
theorem pdeep : ∀ n : Nd, PyData.depthAll (pd n) ≤ 2 * lv n
  | nil => by simp [pd, PyData.depthAll]
  | lett c r => by
    have := pdeep r
    show PyData.depthAll (.str (S [c]) :: pd r) ≤ 2 * max 1 (lv r)
    simp only [PyData.depthAll, PyData.depth]; omega
  | br c t a n r => by
    have h1 := pdeep n
    have h2 := pdeep r
    show PyData.depthAll (.tuple [.str (S [c]), .list (pd n)] :: pd r) ≤ 2 * max (lv n + 1) (lv r)
    simp only [PyData.depthAll, PyData.depth]; omega
end Nd
def rNeX (K : PySem.W.Frag) (n : Bool) : R2 := fun x y H Q => match x, y with
  | .ref p, .ref q => ∃ d e, Dp K H (.ref p) d ∧ Dp K H (.ref q) e ∧ PyData.canLay0 d = true ∧ PyData.canLay0 e = true ∧ d.depth ≤ 400 ∧ Q (.bl (n != PyData.eqv d e)) H
  | _, _ => False
section
variable {X : Cx}
theorem opNeX (hu : X.A.units + 400 < cLine) : OpR X (compareOp .NotEq) (rNeX X.K true) := by
  intro pins s σ H x y v u Q I rx ry h
  unfold rNeX at h
  split at h
  · obtain ⟨d, e, h1, h2, h3, h4, h5, q⟩ := h
    obtain ⟨as, r1⟩ := Dp.reads I d _ v h1 rx
    obtain ⟨bs, r2⟩ := Dp.reads I e _ u h2 ry
    exact SeqAt.compareNe_reads r1 r2 h3 h4 (by have := Nat.min_le_left d.depth e.depth; omega) ⟨.bl _, H, I, rfl, by simpa using q⟩
  · exact h.elim
theorem opEqX (hu : X.A.units + 400 < cLine) : OpR X (compareOp .Eq) (rNeX X.K false) := by
  intro pins s σ H x y v u Q I rx ry h
  unfold rNeX at h
  split at h
  · obtain ⟨d, e, h1, h2, h3, h4, h5, q⟩ := h
    obtain ⟨as, r1⟩ := Dp.reads I d _ v h1 rx
    obtain ⟨bs, r2⟩ := Dp.reads I e _ u h2 ry
    exact SeqAt.compareEq_reads r1 r2 h3 h4 (by have := Nat.min_le_left d.depth e.depth; omega) ⟨.bl _, H, I, rfl, by simpa using q⟩
  · exact h.elim
end
end N1
set_option Elab.async false
set_option linter.all false
set_option maxRecDepth 100000
set_option maxHeartbeats 4000000
namespace N1
open PySem PySem.Spec PyProof.Rows L2
namespace Nd
structure Fm where
  b : Addr
  J : Nd
  c : Nat
  t : Addr
def ZHolds (H : Hp) : Addr → List Fm → Prop
  | _, [] => True
  | a, f :: fs => H f.t = some (.tup [sg f.c, .ref a]) ∧ H f.b = some (.lst (vals f.J ++ [.ref f.t])) ∧ Holds H f.J ∧ ZHolds H f.b fs
def zl : List Fm → List Addr
  | [] => []
  | f :: fs => f.b :: (lists f.J ++ zl fs)
def zlv : List Fm → List V
  | [] => []
  | f :: fs => zlv fs ++ [.ref f.b]
def ztx : List Fm → List Nat
  | [] => []
  | f :: fs => ztx fs ++ tx f.J ++ [f.c]
def zst : List Fm → List Nat
  | [] => []
  | f :: fs => oth f.c :: zst fs
def zwf : List Fm → Prop
  | [] => True
  | f :: fs => isOp f.c = true ∧ WF f.J ∧ zwf fs
theorem ZHolds.same {H H' : Hp} (k : Same H H') : ∀ {fs : List Fm} {a : Addr}, ZHolds H a fs → ZHolds H' a fs
  | [], _, _ => trivial
  | f :: fs, _, h => ⟨k _ _ h.1, k _ _ h.2.1, h.2.2.1.same k, ZHolds.same k (fs := fs) h.2.2.2⟩
theorem ZHolds.upd {H : Hp} {b : Addr} {xs ys : List V} (hb : H b = some (.lst xs)) : ∀ {fs : List Fm} {a : Addr}, b ∉ zl fs → ZHolds H a fs → ZHolds (upd H b (.lst ys)) a fs
  | [], _, _, _ => trivial
  | f :: fs, a, hn, h => by
    have hn : b ∉ f.b :: (lists f.J ++ zl fs) := hn
    simp only [List.mem_cons, List.mem_append, not_or] at hn
    refine ⟨?_, ?_, h.2.2.1.upd hb hn.2.1, ZHolds.upd hb (fs := fs) hn.2.2 h.2.2.2⟩
    · rw [upd_ne fun e => by have h1 := h.1; rw [e, hb] at h1; cases h1]; exact h.1
    · rw [upd_ne fun e => hn.1 e.symm]; exact h.2.1
theorem ZHolds.lst {H : Hp} : ∀ {fs : List Fm} {a : Addr}, ZHolds H a fs → ∀ b ∈ zl fs, ∃ xs, H b = some (.lst xs)
  | [], _, _, _, hb => by cases hb
  | f :: fs, a, h, b, hb => by
    rcases List.mem_cons.mp hb with e | hb
    · subst e; exact ⟨_, h.2.1⟩
    · rcases List.mem_append.mp hb with hb | hb
      · exact h.2.2.1.lst b hb
      · exact ZHolds.lst (fs := fs) h.2.2.2 b hb
structure ZAt (H0 H : Hp) (L a : Addr) (I : Nd) (fs : List Fm) : Prop where
  lev : H L = some (.lst (zlv fs ++ [.ref a]))
  top : H a = some (.lst (vals I))
  hI : Holds H I
  hz : ZHolds H a fs
  nd : (L :: a :: (lists I ++ zl fs)).Nodup
  new : ∀ b ∈ L :: a :: (lists I ++ zl fs), H0 b = none
  same : Same H0 H
  wI : WF I
  wz : zwf fs
section
variable {H0 H H' : Hp} {L a : Addr} {I : Nd} {fs : List Fm}
theorem ZAt.keep (x : ZAt H0 H L a I fs) (k : Same H H') : ZAt H0 H' L a I fs := ⟨k _ _ x.lev, k _ _ x.top, x.hI.same k, x.hz.same k, x.nd, x.new, x.same.trans k, x.wI, x.wz⟩
theorem ZAt.lst (x : ZAt H0 H L a I fs) : ∀ b ∈ L :: a :: (lists I ++ zl fs), ∃ xs, H b = some (.lst xs) := fun b hb => by
  rcases List.mem_cons.mp hb with e | hb
  · subst e; exact ⟨_, x.lev⟩
  · rcases List.mem_cons.mp hb with e | hb
    · subst e; exact ⟨_, x.top⟩
    · rcases List.mem_append.mp hb with hb | hb
      · exact x.hI.lst b hb
      · exact x.hz.lst b hb
theorem ZAt.apart (x : ZAt H0 H L a I fs) {p : Addr} (hp : H p = none) : p ∉ L :: a :: (lists I ++ zl fs) := fun hm => by
  obtain ⟨xs, e⟩ := x.lst p hm
  rw [hp] at e; cases e
theorem ZAt.La (x : ZAt H0 H L a I fs) : L ≠ a := fun e => (List.nodup_cons.mp x.nd).1 (e ▸ List.mem_cons_self)
theorem ZAt.start {p : Addr} (hS : Same H0 H) (hL : H L = some (.lst [.ref p])) (hp : H p = some (.lst [])) (nL : H0 L = none) (np : H0 p = none) : ZAt H0 H L p nil [] := by
  have ne : L ≠ p := fun e => by rw [e, hp] at hL; cases hL
  refine ⟨hL, hp, trivial, trivial, by simp [lists, zl, ne], fun b hb => ?_, hS, trivial, trivial⟩
  have : b = L ∨ b = p := by simpa [lists, zl] using hb
  rcases this with rfl | rfl
  · exact nL
  · exact np
theorem ZAt.lett (x : ZAt H0 H L a I fs) {c : Nat} (hc : isLt c = true) : ZAt H0 (upd H a (.lst (vals I ++ [sg c]))) L a (app I (lett c nil)) fs := by
  have nd := x.nd
  obtain ⟨n1, n2⟩ := List.nodup_cons.mp nd
  obtain ⟨n3, n4⟩ := List.nodup_cons.mp n2
  have e : lists (app I (Nd.lett c nil)) = lists I := by rw [lists_app]; simp [lists]
  refine ⟨by rw [upd_ne x.La]; exact x.lev, by rw [upd_same, vals_app]; rfl, (holds_app _ _).mpr ⟨x.hI.upd x.top fun m => n3 (List.mem_append_left _ m), trivial⟩, x.hz.upd x.top fun m => n3 (List.mem_append_right _ m), by rw [e]; exact nd, by rw [e]; exact x.new,
    sU x.same (x.new a (List.mem_cons_of_mem _ List.mem_cons_self)) _, (wf_app _ _).mpr ⟨x.wI, hc, trivial⟩, x.wz⟩
theorem ZAt.opn (x : ZAt H0 H L a I fs) {c : Nat} {t p : Addr} (hc : isOp c = true) (ht : H t = some (.tup [sg c, .ref p])) (hp : H p = some (.lst [])) (n0 : H0 p = none) (np : p ∉ L :: a :: (lists I ++ zl fs)) :
    ZAt H0 (upd (upd H a (.lst (vals I ++ [.ref t]))) L (.lst (zlv fs ++ [.ref a] ++ [.ref p]))) L p nil (⟨a, I, c, t⟩ :: fs) := by
  have nd := x.nd
  obtain ⟨n1, n2⟩ := List.nodup_cons.mp nd
  obtain ⟨n3, n4⟩ := List.nodup_cons.mp n2
  have La := x.La
  have pL : p ≠ L := fun e => np (e ▸ List.mem_cons_self)
  have pa : p ≠ a := fun e => np (e ▸ List.mem_cons_of_mem _ List.mem_cons_self)
  have tL : t ≠ L := fun e => by rw [e, x.lev] at ht; cases ht
  have ta : t ≠ a := fun e => by rw [e, x.top] at ht; cases ht
  have lev1 : (upd H a (.lst (vals I ++ [.ref t]))) L = some (.lst (zlv fs ++ [.ref a])) := by rw [upd_ne La]; exact x.lev
  have mI : ∀ {b}, b ∈ lists I → b ∈ L :: a :: (lists I ++ zl fs) := fun h => List.mem_cons_of_mem _ (List.mem_cons_of_mem _ (List.mem_append_left _ h))
  refine ⟨by rw [upd_same]; rfl, by rw [upd_ne pL, upd_ne pa]; exact hp, trivial, ⟨by rw [upd_ne tL, upd_ne ta]; exact ht, by rw [upd_ne La.symm, upd_same], ?_, ?_⟩, ?_, ?_, sU (sU x.same (x.new a (List.mem_cons_of_mem _ List.mem_cons_self)) _) (x.new L List.mem_cons_self) _, trivial, ⟨hc, x.wI, x.wz⟩⟩
  · exact (x.hI.upd x.top fun m => n3 (List.mem_append_left _ m)).upd lev1 fun m => n1 (List.mem_cons_of_mem _ (List.mem_append_left _ m))
  · exact (x.hz.upd x.top fun m => n3 (List.mem_append_right _ m)).upd lev1 fun m => n1 (List.mem_cons_of_mem _ (List.mem_append_right _ m))
  · show (L :: p :: (a :: (lists I ++ zl fs))).Nodup
    refine List.nodup_cons.mpr ⟨fun m => ?_, List.nodup_cons.mpr ⟨fun m => np (List.mem_cons_of_mem _ m), n2⟩⟩
    rcases List.mem_cons.mp m with e | m
    · exact pL e.symm
    · exact n1 m
  · intro b hb
    have hb : b ∈ L :: p :: (a :: (lists I ++ zl fs)) := hb
    rcases List.mem_cons.mp hb with e | hb
    · subst e; exact x.new _ List.mem_cons_self
    · rcases List.mem_cons.mp hb with e | hb
      · subst e; exact n0
      · exact x.new b (List.mem_cons_of_mem _ hb)
theorem ZAt.cls {f : Fm} (x : ZAt H0 H L a I (f :: fs)) : ZAt H0 (upd H L (.lst (zlv fs ++ [.ref f.b]))) L f.b (app f.J (br f.c f.t a I nil)) fs := by
  have nd := x.nd
  obtain ⟨n1, n2⟩ := List.nodup_cons.mp nd
  obtain ⟨h1, h2, h3, h4⟩ := x.hz
  have n1' : L ∉ a :: (lists I ++ (f.b :: (lists f.J ++ zl fs))) := n1
  simp only [List.mem_cons, List.mem_append, not_or] at n1'
  have e : lists (app f.J (br f.c f.t a I nil)) = lists f.J ++ a :: lists I := by rw [lists_app]; simp [lists]
  have pm : (f.b :: (lists (app f.J (br f.c f.t a I nil)) ++ zl fs)).Perm (a :: (lists I ++ zl (f :: fs))) := by
    rw [e]
    show (f.b :: (lists f.J ++ a :: lists I ++ zl fs)).Perm (a :: (lists I ++ f.b :: (lists f.J ++ zl fs)))
    have p1 : (lists f.J ++ a :: lists I ++ zl fs).Perm (a :: (lists I ++ (lists f.J ++ zl fs))) := by
      have q1 : (lists f.J ++ a :: lists I ++ zl fs).Perm (a :: lists I ++ lists f.J ++ zl fs) := List.Perm.append_right _ List.perm_append_comm
      simpa using q1
    refine (List.Perm.cons _ p1).trans ?_
    refine (List.Perm.swap a f.b _).trans (List.Perm.cons a ?_)
    exact List.perm_middle.symm
  refine ⟨by rw [upd_same], ?_, ?_, ?_, ?_, fun b hb => ?_, sU x.same (x.new L List.mem_cons_self) _, (wf_app _ _).mpr ⟨x.wz.2.1, x.wz.1, x.wI, trivial⟩, x.wz.2.2⟩
  · rw [upd_ne (Ne.symm n1'.2.2.1), h2, vals_app]; rfl
  · refine (holds_app _ _).mpr ⟨h3.upd x.lev n1'.2.2.2.1, ?_, ?_, x.hI.upd x.lev n1'.2.1, trivial⟩
    · rw [upd_ne fun e => by rw [e, x.lev] at h1; cases h1]; exact h1
    · rw [upd_ne (Ne.symm n1'.1)]; exact x.top
  · exact h4.upd x.lev n1'.2.2.2.2
  · refine List.nodup_cons.mpr ⟨fun m => n1 (pm.mem_iff.mp m), pm.nodup_iff.mpr n2⟩
  · rcases List.mem_cons.mp hb with e | hb
    · subst e; exact x.new _ List.mem_cons_self
    · exact x.new b (List.mem_cons_of_mem _ (pm.mem_iff.mp hb))
theorem ZAt.done (x : ZAt H0 H L a I []) : At H a I ∧ ∀ b ∈ a :: lists I, H0 b = none := by
  have e : lists I ++ zl [] = lists I := by simp [zl]
  have nd := (List.nodup_cons.mp x.nd).2
  rw [e] at nd
  exact ⟨⟨x.top, x.hI, nd⟩, fun b hb => x.new b (List.mem_cons_of_mem _ (by rw [e]; exact hb))⟩
end
structure Rd1 (l : List Nat) (i : Nat) (I : Nd) (fs : List Fm) : Prop where
  txt : ztx fs ++ tx I = l.take i
  run : runB [] (l.take i) = some (zst fs)
theorem Rd1.start (l : List Nat) : Rd1 l 0 nil [] := ⟨rfl, rfl⟩
section
variable {l : List Nat} {i : Nat} {I : Nd} {fs : List Fm} {c : Nat}
theorem Rd1.lett (x : Rd1 l i I fs) (h : l[i]? = some c) (h1 : ¬ isOp c = true) (h2 : ¬ isCl c = true) : Rd1 l (i + 1) (app I (Nd.lett c nil)) fs :=
  ⟨by rw [take_s h, ← x.txt, tx_app]; simp [tx], by rw [take_s h, run_snoc x.run, run_l h1 h2, run_nil]⟩
theorem Rd1.opn (x : Rd1 l i I fs) (h : l[i]? = some c) (h1 : isOp c = true) (a t : Addr) : Rd1 l (i + 1) nil (⟨a, I, c, t⟩ :: fs) :=
  ⟨by rw [take_s h, ← x.txt]; simp [tx, ztx], by rw [take_s h, run_snoc x.run, run_op h1]; rfl⟩
theorem Rd1.has (x : Rd1 l i I fs) (hc : Clean l) (h : l[i]? = some c) (h2 : isCl c = true) : ∃ f fs', fs = f :: fs' ∧ oth f.c = c := by
  have hs : ∃ st, runB [] (l.take (i + 1)) = some st := by
    have h' : runB [] l = some [] := hc
    rw [← List.take_append_drop (i + 1) l, runB_app] at h'
    cases q : runB [] (l.take (i + 1)) with
    | none => rw [q] at h'; cases h'
    | some st => exact ⟨st, rfl⟩
  obtain ⟨st, hs⟩ := hs
  rw [take_s h, run_snoc x.run] at hs
  cases fs with
  | nil => rw [show zst [] = [] from rfl, run_c0 h2] at hs; cases hs
  | cons f fs =>
    have hs : runB (oth f.c :: zst fs) [c] = some st := hs
    rw [run_c h2] at hs
    split at hs
    · rename_i e; exact ⟨f, fs, rfl, e⟩
    · cases hs
theorem Rd1.cls {f : Fm} (x : Rd1 l i I (f :: fs)) (h : l[i]? = some c) (h2 : isCl c = true) (e : oth f.c = c) (a : Addr) : Rd1 l (i + 1) (app f.J (br f.c f.t a I nil)) fs := by
  refine ⟨?_, ?_⟩
  · rw [take_s h, ← x.txt, tx_app]
    show ztx fs ++ (tx f.J ++ (f.c :: (tx I ++ oth f.c :: []))) = (ztx fs ++ tx f.J ++ [f.c]) ++ tx I ++ [c]
    rw [e]; simp
  · rw [take_s h, run_snoc x.run]
    show runB (oth f.c :: zst fs) [c] = _
    rw [run_c h2, if_pos e, run_nil]
theorem Rd1.done (x : Rd1 l l.length I fs) (hc : Clean l) : fs = [] ∧ tx I = l := by
  have r := x.run
  rw [List.take_length, show runB [] l = some [] from hc] at r
  cases fs with
  | nil => exact ⟨rfl, by have := x.txt; rw [List.take_length] at this; exact this⟩
  | cons f fs => cases r
end
end Nd
end N1
set_option Elab.async false
set_option linter.all false
set_option maxRecDepth 100000
set_option maxHeartbeats 4000000
namespace N1
open PySem PySem.Spec PyProof.Rows L2
namespace Nd
inductive Itm (H : Hp) (k : Nat) : V → List Nat → Prop
  | lett (c : Nat) : isLt c = true → 1 ≤ k → Itm H k (sg c) [c]
  | br (c : Nat) (t a : Addr) (n : Nd) : isOp c = true → H t = some (.tup [sg c, .ref a]) → H a = some (.lst (vals n)) → Holds H n → WF n → lv n + 1 ≤ k → (tx n).length ≤ 1000 → Itm H k (.ref t) (c :: (tx n ++ [oth c]))
theorem Itm.same {H H' : Hp} (k : Same H H') {m : Nat} {x : V} {s : List Nat} (h : Itm H m x s) : Itm H' m x s := by
  cases h with
  | lett c h h' => exact .lett c h h'
  | br c t a n h1 h2 h3 h4 h5 h6 h7 => exact .br c t a n h1 (k _ _ h2) (k _ _ h3) (h4.same k) h5 h6 h7
def ti : Nd → List (List Nat)
  | nil => []
  | lett c r => [c] :: ti r
  | br c _ _ n r => (c :: (tx n ++ [oth c])) :: ti r
theorem ti_flat : ∀ n : Nd, (ti n).flatten = tx n
  | nil => rfl
  | lett c r => by show c :: (ti r).flatten = _; rw [ti_flat r]; rfl
  | br c t a n r => by show (c :: (tx n ++ [oth c])) ++ (ti r).flatten = _; rw [ti_flat r]; simp [tx]
theorem ti_len : ∀ n : Nd, (ti n).length = (vals n).length
  | nil => rfl
  | lett c r => by show (ti r).length + 1 = (vals r).length + 1; rw [ti_len r]
  | br c t a n r => by show (ti r).length + 1 = (vals r).length + 1; rw [ti_len r]
theorem itm {H : Hp} {k : Nat} : ∀ {n : Nd}, Holds H n → WF n → lv n ≤ k → (tx n).length ≤ 1000 → ∀ (i : Nat) x, (vals n)[i]? = some x → ∃ s, (ti n)[i]? = some s ∧ Itm H k x s
  | nil, _, _, _, _, i, x, h => by simp [vals] at h
  | lett c r, h, w, hk, hz, i, x, hx => by
    have hk : max 1 (lv r) ≤ k := hk
    cases i with
    | zero => cases (show some (sg c) = some x from hx); exact ⟨[c], rfl, .lett c w.1 (by omega)⟩
    | succ i => exact itm (n := r) h w.2 (by omega) (by have : (tx r).length + 1 ≤ 1000 := hz; omega) i x hx
  | br c t a n r, h, w, hk, hz, i, x, hx => by
    have hk : max (lv n + 1) (lv r) ≤ k := hk
    have hz : (c :: (tx n ++ oth c :: tx r)).length ≤ 1000 := hz
    simp at hz
    cases i with
    | zero => cases (show some (V.ref t) = some x from hx); exact ⟨_, rfl, .br c t a n w.1 h.1 h.2.1 h.2.2.1 w.2.1 (by omega) (by omega)⟩
    | succ i => exact itm (n := r) h.2.2.2 w.2.2 (by omega) (by omega) i x hx
theorem len_flat {ys : List (List Nat)} {x : List Nat} (h : x ∈ ys) : x.length ≤ ys.flatten.length := by
  induction ys with
  | nil => cases h
  | cons y ys ih =>
    rw [List.flatten_cons, List.length_append]
    rcases List.mem_cons.mp h with rfl | h
    · omega
    · have := ih h; omega
structure Nst (H : Hp) (a : Addr) (k : Nat) (s : List Nat) (n : Nd) : Prop where
  top : H a = some (.lst (vals n))
  holds : Holds H n
  wf : WF n
  lv : lv n ≤ k
  tx : tx n = s
  len : s.length ≤ 1000
theorem Nst.same {H H' : Hp} {a : Addr} {k : Nat} {s : List Nat} {n : Nd} (x : Nst H a k s n) (h : Same H H') : Nst H' a k s n := ⟨h _ _ x.top, x.holds.same h, x.wf, x.lv, x.tx, x.len⟩
theorem lv0 : ∀ {n : Nd}, Nd.lv n ≤ 0 → n = nil
  | nil, _ => rfl
  | lett c r, h => by have h : max 1 (Nd.lv r) ≤ 0 := h; omega
  | br c t a n r, h => by have h : max (Nd.lv n + 1) (Nd.lv r) ≤ 0 := h; omega
theorem len_zlv : ∀ fs : List Fm, (zlv fs).length = fs.length
  | [] => rfl
  | f :: fs => by show (zlv fs ++ [_]).length = _; rw [List.length_append, len_zlv fs]; rfl
theorem len_ztx : ∀ fs : List Fm, fs.length ≤ (ztx fs).length
  | [] => Nat.le_refl _
  | f :: fs => by
    have := len_ztx fs
    show fs.length + 1 ≤ (ztx fs ++ tx f.J ++ [f.c]).length
    simp; omega
theorem Rd1.len {l : List Nat} {i : Nat} {I : Nd} {fs : List Fm} (x : Rd1 l i I fs) : (vals I).length ≤ l.length ∧ fs.length ≤ l.length := by
  have h1 := len_vals I
  have h2 := len_ztx fs
  have h3 := congrArg List.length x.txt
  rw [List.length_append, List.length_take] at h3
  omega
end Nd
def spOneOf : Sp := fun vs H Q _ => ∃ x l, vs = [x, .str (S l)] ∧ l.length ≤ 100 ∧ ((∃ c, x = sg c ∧ Q (.bl (decide (c ∈ l))) H) ∨ (∃ r xs, x = .ref r ∧ H r = some (.tup xs) ∧ Q (.bl false) H))
def spIsLetter : Sp := fun vs H Q _ => ∃ x, vs = [x] ∧ ((∃ c, x = sg c ∧ Q (.bl (decide (c ∈ abc))) H) ∨ (∃ r xs, x = .ref r ∧ H r = some (.tup xs) ∧ Q (.bl false) H))
def spIsOpening : Sp := fun vs H Q _ => ∃ c, vs = [sg c] ∧ Q (.bl (decide (c ∈ Lc (Str.ofString "(<[{")))) H
def spNW (T : Addr) (k : Nat) : Sp := fun vs H Q _ => ∃ (a : Addr) (m : Nat) (s : List Nat) (n : Nd), vs = [.ref a, .int m] ∧ m ≤ k ∧ m ≤ 100 ∧ Nd.Nst H a m s n ∧ Tb T H ∧ ∀ H' : Hp, Same H H' → Q (.bl true) H'
def spIW (T : Addr) (k : Nat) : Sp := fun vs H Q _ => ∃ (x : V) (m : Nat) (s : List Nat), vs = [x, .int m] ∧ 1 ≤ m ∧ m ≤ k ∧ m ≤ 100 ∧ Nd.Itm H m x s ∧ Tb T H ∧ ∀ H' : Hp, Same H H' → Q (.bl true) H'
def spSpell (T : Addr) (k : Nat) : Sp := fun vs H Q _ => ∃ (a : Addr) (s : List Nat) (n : Nd), vs = [.ref a] ∧ Nd.Nst H a k s n ∧ Tb T H ∧ ∀ H' : Hp, Same H H' → Q (.str (S s)) H'
def spSpellI (T : Addr) (k : Nat) : Sp := fun vs H Q _ => ∃ (x : V) (s : List Nat), vs = [x] ∧ Nd.Itm H k x s ∧ s.length ≤ 1000 ∧ Tb T H ∧ ∀ H' : Hp, Same H H' → Q (.str (S s)) H'
def spNestOf (T : Addr) : Sp := fun vs H Q _ => ∃ l : List Nat, vs = [.str (S l)] ∧ Sgs l ∧ Clean l ∧ l.length ≤ 1000 ∧ Tb T H ∧ ∀ (H' : Hp) (a : Addr) (N : Nd), Nd.At H' a N → (∀ b ∈ a :: Nd.lists N, H b = none) → Same H H' → Nd.tx N = l → Nd.WF N → Q (.ref a) H'
theorem sg_lt {c : Nat} (h : isSg c = true) (h1 : ¬ isOp c = true) (h2 : ¬ isCl c = true) : isLt c = true := by
  unfold isSg at h
  rcases Bool.or_eq_true_iff.mp h with h | h
  · rcases Bool.or_eq_true_iff.mp h with h | h
    · exact h
    · exact absurd h h1
  · exact absurd h h2
end N1
set_option Elab.async false
set_option linter.all false
set_option maxRecDepth 100000
set_option maxHeartbeats 4000000
namespace N1
open PySem PySem.Spec PyProof.Rows L2
namespace Nd
theorem app_nil : ∀ n : Nd, app n nil = n
  | nil => rfl
  | lett c r => by show lett c (app r nil) = _; rw [app_nil r]
  | br c t a n r => by show br c t a n (app r nil) = _; rw [app_nil r]
theorem app_app (m k : Nd) : ∀ n : Nd, app (app n m) k = app n (app m k)
  | nil => rfl
  | lett c r => by show lett c (app (app r m) k) = _; rw [app_app m k r]; rfl
  | br c t a n r => by show br c t a n (app (app r m) k) = _; rw [app_app m k r]; rfl
theorem Kps.trans {L M : List Addr} {H H' H'' : Hp} (h : Kps L H H') (k : Kps M H' H'') : Kps (L ++ M) H H'' := fun b o hb e => k b o (fun m => hb (List.mem_append_right _ m)) (h b o (fun m => hb (List.mem_append_left _ m)) e)
theorem Kps.mono {L M : List Addr} {H H' : Hp} (h : Kps L H H') (k : ∀ b ∈ L, b ∈ M) : Kps M H H' := fun b o hb e => h b o (fun m => hb (k b m)) e
theorem Kps.of_same {L : List Addr} {H H' : Hp} (h : Same H H') : Kps L H H' := fun b o _ e => h b o e
theorem kps_upd {H : Hp} {a : Addr} (o : HO) : Kps [a] H (upd H a o) := fun b o' hb e => by rw [upd_ne fun h => hb (by rw [h]; exact List.mem_singleton.mpr rfl)]; exact e
structure NI (H H' : Hp) (a p : Addr) (N N1 N2 : Nd) (i j : Int) : Prop where
  eq : app N1 N2 = N
  hn : Hn H' N1 i j
  ho : Holds H' N2
  ta : H' a = some (.lst (vals N))
  tp : H' p = some (.lst (vals N))
  k : Kps (lists N1) H H'
section
variable {H H' H'' : Hp} {a p b t : Addr} {N N1 N2 n r : Nd} {i j j' : Int} {c : Nat}
theorem NI.start (x : At H a N) (hp : H p = none) : NI H (upd H p (.lst (vals N))) a p N nil N i i :=
  ⟨rfl, rfl, x.holds.same (same_new hp _), same_new hp _ _ _ x.top, upd_same, Kps.of_same (same_new hp _)⟩
theorem NI.lett (x : NI H H' a p N N1 (Nd.lett c r) i j) : NI H H' a p N (app N1 (Nd.lett c nil)) r i j :=
  ⟨by rw [app_app]; exact x.eq, Hn.app _ x.hn (show j = j from rfl), x.ho, x.ta, x.tp, by rw [lists_app]; exact x.k.mono fun b h => List.mem_append_left _ h⟩
theorem NI.nd (x : NI H H' a p N N1 (br c t b n r) i j) (A : At H a N) : (a :: (lists N1 ++ (b :: (lists n ++ lists r)))).Nodup := by
  have := A.nd
  rw [← x.eq, lists_app] at this
  exact this
theorem NI.at (x : NI H H' a p N N1 (br c t b n r) i j) (A : At H a N) : At H' b n ∧ H' t = some (.tup [sg c, .ref b]) := by
  have nd := List.nodup_append.mp (List.nodup_cons.mp (x.nd A)).2
  have nd2 : (b :: lists n ++ lists r).Nodup := nd.2.1
  exact ⟨⟨x.ho.2.1, x.ho.2.2.1, (List.nodup_append.mp nd2).1⟩, x.ho.1⟩
theorem NI.br (x : NI H H' a p N N1 (Nd.br c t b n r) i j) (A : At H a N) (hp : H p = none) (m : Nm H'' b n j j') (k : Kps (b :: lists n) H' H'') : NI H H'' a p N (app N1 (Nd.br c t b n nil)) r i (j' + 1) := by
  have nd0 := List.nodup_cons.mp (x.nd A)
  have nd := List.nodup_append.mp nd0.2
  have nd2 : (b :: lists n ++ lists r).Nodup := nd.2.1
  have nd3 := List.nodup_append.mp nd2
  obtain ⟨B, ht⟩ := x.at A
  have hL := B.lst
  have memN : ∀ q ∈ b :: lists n, q ∈ lists N := fun q hq => by
    rw [← x.eq, lists_app]
    refine List.mem_append_right _ ?_
    show q ∈ b :: (lists n ++ lists r)
    exact List.mem_append_left (bs := lists r) (as := b :: lists n) hq
  have aN : a ∉ lists N := (List.nodup_cons.mp A.nd).1
  refine ⟨by rw [app_app]; exact x.eq, Hn.app _ (x.hn.kps k hL fun q hq hm => ?_) ⟨j', ?_, m.top, m.hn, rfl⟩, x.ho.2.2.2.kps k hL fun q hq hm => ?_, k _ _ (fun h => aN (memN _ h)) x.ta, k _ _ (fun h => ?_) x.tp, ?_⟩
  · exact nd.2.2 q hq q (List.mem_append_left (bs := lists r) (as := b :: lists n) hm) rfl
  · refine k _ _ (fun h => ?_) ht
    obtain ⟨xs, e⟩ := hL t h
    rw [ht] at e; cases e
  · exact nd3.2.2 q hm q hq rfl
  · obtain ⟨xs, e⟩ := A.lst p (List.mem_cons_of_mem _ (memN _ h))
    rw [hp] at e; cases e
  · rw [lists_app]
    refine (x.k.trans k).mono fun q hq => ?_
    rcases List.mem_append.mp hq with hq | hq
    · exact List.mem_append_left _ hq
    · refine List.mem_append_right _ ?_
      show q ∈ b :: (lists n ++ lists nil)
      exact List.mem_append_left (bs := []) (as := b :: lists n) hq
theorem NI.done (x : NI H H' a p N N1 nil i j) (A : At H a N) : Nm (upd H' a (.lst (vals N ++ [.int j]))) a N i j ∧ Kps (a :: lists N) H (upd H' a (.lst (vals N ++ [.int j]))) := by
  have e : N1 = N := by rw [← x.eq, app_nil]
  have aN : a ∉ lists N := (List.nodup_cons.mp A.nd).1
  have hn := x.hn
  have k := x.k
  rw [e] at hn k
  refine ⟨⟨upd_same, hn.kps (kps_upd _) (fun q hq => by rw [List.mem_singleton.mp hq]; exact ⟨_, x.ta⟩) fun q hq hm => ?_⟩, (k.trans (kps_upd _)).mono fun q hq => ?_⟩
  · rw [List.mem_singleton.mp hm] at hq; exact aN hq
  · rcases List.mem_append.mp hq with hq | hq
    · exact List.mem_cons_of_mem _ hq
    · rw [List.mem_singleton.mp hq]; exact List.mem_cons_self
theorem NI.item (x : NI H H' a p N N1 N2 i j) {q : Nat} {y : V} (hq : (vals N1).length = q) (hy : (vals N)[q]? = some y) : (∃ c r, N2 = Nd.lett c r ∧ y = sg c) ∨ (∃ c t b n r, N2 = Nd.br c t b n r ∧ y = .ref t) := by
  rw [← x.eq, vals_app, List.getElem?_append_right (by omega), hq, Nat.sub_self] at hy
  cases N2 with
  | nil => cases hy
  | lett c r => exact .inl ⟨c, r, rfl, (Option.some.inj hy).symm⟩
  | br c t b n r => exact .inr ⟨c, t, b, n, r, rfl, (Option.some.inj hy).symm⟩
theorem NI.last (x : NI H H' a p N N1 N2 i j) (hq : (vals N1).length = (vals N).length) : N2 = nil := by
  have := congrArg (fun m => (vals m).length) x.eq
  have h : (vals N1 ++ vals N2).length = (vals N).length := by rw [← vals_app]; exact this
  rw [List.length_append] at h
  cases N2 with
  | nil => rfl
  | lett c r => have h : (vals N1).length + ((vals r).length + 1) = (vals N).length := h; omega
  | br c t b n r => have h : (vals N1).length + ((vals r).length + 1) = (vals N).length := h; omega
theorem NI.lv (x : NI H H' a p N N1 (Nd.br c t b n r) i j) : Nd.lv n + 1 ≤ Nd.lv N ∧ (tx n).length ≤ (tx N).length := by
  have e1 : ∀ (m : Nd), Nd.lv (Nd.br c t b n r) ≤ Nd.lv (app m (Nd.br c t b n r)) := fun m => by
    induction m with
    | nil => exact Nat.le_refl _
    | lett c' r' ih => show _ ≤ max 1 (Nd.lv (app r' _)); omega
    | br c' t' a' n' r' ih1 ih => show _ ≤ max (Nd.lv n' + 1) (Nd.lv (app r' _)); omega
  have e2 := e1 N1
  rw [x.eq] at e2
  have e3 : max (Nd.lv n + 1) (Nd.lv r) ≤ Nd.lv N := e2
  refine ⟨by omega, ?_⟩
  have e4 := congrArg (fun m => (tx m).length) x.eq
  have e4 : (tx (app N1 (Nd.br c t b n r))).length = (tx N).length := e4
  rw [tx_app, List.length_append] at e4
  have e5 : (tx (Nd.br c t b n r)).length = (c :: (tx n ++ oth c :: tx r)).length := rfl
  simp at e5
  omega
theorem At.apart (x : At H a N) {M : Nd} (fr : ∀ q ∈ b :: lists M, H q = none) : ∀ q ∈ a :: lists N, q ∉ b :: lists M := fun q hq hm => by
  obtain ⟨xs, e⟩ := x.lst q hq
  rw [fr q hm] at e; cases e
theorem At.nst (x : At H a N) (w : WF N) {l : List Nat} (e : tx N = l) (h : l.length ≤ 120) : Nst H a 60 l N := ⟨x.top, x.holds, w, by have := lv_len N; rw [e] at this; omega, e, by omega⟩
end
end Nd
theorem nest_eqD {K : PySem.W.Frag} {H : Hp} {a b : Addr} {n m : Nd} (x : Nd.At H a n) (y : Nd.At H b m) (wn : Nd.WF n) (wm : Nd.WF m) (h : Nd.tx n = Nd.tx m) (hl : Nd.lv n ≤ 100) :
    ∃ d e, Dp K H (.ref a) d ∧ Dp K H (.ref b) e ∧ PyData.canLay0 d = true ∧ PyData.canLay0 e = true ∧ d.depth ≤ 400 ∧ PyData.eqv d e = true := by
  have e : Nd.pd n = Nd.pd m := by rw [← Nd.pd_sh n, Nd.tx_sh wn wm h, Nd.pd_sh]
  have l1 : PyData.canLay0 (.list (Nd.pd n)) = true := by rw [PyData.canLay0]; exact Nd.lay wn
  refine ⟨.list (Nd.pd n), .list (Nd.pd m), .lst (SqL.of x.top) (Nd.dp x.holds), .lst (SqL.of y.top) (Nd.dp y.holds), l1, by rw [← e]; exact l1, ?_, ?_⟩
  · have := Nd.pdeep n
    rw [PyData.depth]; omega
  · rw [← e, SeqAt.eqv_refl _ l1]
end N1
set_option Elab.async false
set_option linter.all false
set_option maxRecDepth 100000
set_option maxHeartbeats 4000000
namespace N1
open PySem PySem.Spec PyProof.Rows L2
section
variable {X : Cx} {e o : Expr} {es : List Expr} {te to : TE} {t : TA} {pos p apos cpos p2 : Pos}
def tStar (K : PySem.W.Frag) (te : TE) (t : TA) : TA := fun σ H Q => te σ H fun x H1 => match x with
  | .ref a => ∃ ys, SqT K H1 a ys ∧ t σ H1 fun xs H2 => Q (ys ++ xs) H2
  | _ => False
theorem pa_star (ha : PE X e te) (hr : PA X es t) (hs : starEach (.Starred e p :: es) X.env = (true, eval e X.env) :: starEach es X.env := by rfl) : PA X (.Starred e p :: es) (tStar X.K te t) := by
  intro pos pins s σ H Q I h
  refine PySem.W.items_star (thn (ha pins s σ H _ I h) fun u s1 ⟨x, H1, I1, r1, q1⟩ => ?_) hs
  dsimp only at q1
  split at q1
  · rename_i a
    obtain ⟨ys, hy, q⟩ := q1
    cases r1
    obtain ⟨its, rv, ⟨o, ho, hc, n, hd⟩, hz⟩ := I1.tuple hy
    unfold PySem.W.StarOf notIterableAtAll
    refine wpAny_bind (wpAny_specialOf ⟨o, ho, hc⟩ PySem.F.slot_tuple_iter.lookup (wpAny_pure ⟨rfl, ?_⟩))
    have hz' : its.toArray.size ≤ sizeLine := by rw [List.size_toArray, ← rv.length]; exact hz
    refine wpAny_collect_seq a (.inr rfl) ho hc hd (fun h' hk => ?_) hz'
    rw [List.toList_toArray]
    exact thn (hr pos pins _ σ H1 _ (I1.kept (t' := s1.toks) hk) q) fun us s2 ⟨xs, H2, I2, r2, q2⟩ => ⟨ys ++ xs, H2, I2, rv.append r2, q2⟩
  · exact q1.elim
def qExtend : Addr → List V → V → Hp → VK → Prop := fun l xs y H Q => match y with
  | .ref b => ∃ zs, H b = some (.lst zs) ∧ xs.length + zs.length ≤ 1000000 ∧ Q .non (upd H l (.lst (xs ++ zs)))
  | _ => False
theorem pextend (ho : PE X o to) (he : PE X e te) (hbase : attributeBase o "extend" X.env (eval o X.env) = eval o X.env := by rfl)
    (hfew : ((backTo cpos (starEach [e] X.env)).all (fun x => !x.1) && (backToKw cpos (keywordEach [] X.env)).all (fun x => x.1.isSome)
      && decide ([e].length + ([] : List Keyword).length + (if ([] : List Keyword).isEmpty then 0 else 1) < 30)) = true := by rfl)
    (hline : (apos.endLine == cpos.line) = true := by rfl) (hs : starEach [e] X.env = (false, eval e X.env) :: starEach [] X.env := by rfl) :
    PE X (.Call (.Attribute o "extend" apos) [e] [] cpos) (tL1 qExtend to te) :=
  pm1 (r := rExtend) PySem.F.slot_list_extend PySem.F.type_list_extend mt_extend (fun l xs y H Q hl q => by
    unfold qExtend at q
    split at q
    · obtain ⟨zs, h1, h2, q⟩ := q
      exact ⟨l, _, xs, zs, rfl, rfl, hl, h1, mil h2, q⟩
    · exact q.elim) ho he hbase hfew hline hs
def qSplit : Str → V → Hp → VK → Prop := fun a y H Q => match y with
  | .str b => Lc b = [10] ∧ ∃ ys : List (List Nat), ys ≠ [] ∧ (∀ l ∈ ys, 10 ∉ l) ∧ Lc a = joinL [10] ys ∧ (Lc a).length + 2 ≤ 1000000 ∧ ∀ p, H p = none → Q (.ref p) (upd H p (.lst (ys.map fun l => V.str (S l))))
  | _ => False
theorem psplit (ho : PE X o to) (he : PE X e te) (hs : starEach [e] X.env = [(false, eval e X.env)] := by rfl) (hbase : attributeBase o "split" X.env (eval o X.env) = eval o X.env := by rfl) (hline : (apos.endLine == pos.line) = true := by rfl) :
    PE X (.Call (.Attribute o "split" apos) [e] [] pos) (tS1 qSplit to te) :=
  ps1 F.slot_str_split F.type_str_split mt_split (fun a y H Q q => by
    unfold qSplit at q
    split at q
    · rename_i b
      obtain ⟨hb, ys, h1, h2, h3, h4, q⟩ := q
      have eb : b = S [10] := by rw [← S_Lc b, hb]
      subst eb
      have ea : a = Txt.join (S [10]) (ys.map S) := by rw [join_S, ← S_Lc a, h3]
      refine ⟨a, _, rfl, rfl, rfl, by rw [len_Lc]; exact mil h4, ?_⟩
      rw [ea, TL.split_join (y := S [10]) (s := 10) (S := []) rfl (by decide +kernel) (parts := ys.map S) (fun e => h1 (List.map_eq_nil_iff.mp e)) (fun p hp => by
        obtain ⟨l, hl, rfl⟩ := List.mem_map.mp hp
        exact h2 l hl)]
      intro p hp
      have := q p hp
      rw [List.map_map]
      exact this
    · exact q.elim) ho he hs hbase hline
def qLstrip : Str → V → Hp → VK → Prop := fun a y H Q => match y with
  | .str b => (Lc a).length ≤ 1000000 ∧ Q (.str (S ((Lc a).drop ((Lc a).takeWhile (Lc b).contains).length))) H
  | _ => False
theorem lstrip_S (a b : Str) : Txt.lstripChars a b = S ((Lc a).drop ((Lc a).takeWhile (Lc b).contains).length) := by
  obtain ⟨⟨x⟩⟩ := a
  obtain ⟨⟨y⟩⟩ := b
  have e : (fun c => Array.contains (⟨y⟩ : Array Nat) c) = (fun c => y.contains c) := by funext c; simp
  show Txt.stripBy (fun c => Array.contains (⟨y⟩ : Array Nat) c) true false ⟨⟨x⟩⟩ = S (x.drop (x.takeWhile (fun c => y.contains c)).length)
  rw [e]
  generalize (fun c => y.contains c) = f
  unfold Txt.stripBy
  split
  · rename_i h
    have h0 : (x.takeWhile f).length = 0 := by
      have h1 := (Bool.and_eq_true_iff.mp h).1
      simpa [stripLo] using h1
    rw [h0]; rfl
  · show Builtin.Str.strSub ⟨⟨x⟩⟩ (x.takeWhile f).length (Str.length ⟨⟨x⟩⟩) = _
    unfold Builtin.Str.strSub
    simp [Str.length]
    exact List.take_of_length_le (by simp)
theorem mt_lstripC : MtR X "str.lstrip" (fun x xs H Q => ∃ a b, x = .str a ∧ xs = [.str b] ∧ a.length ≤ sizeLine ∧ Q (.str (Txt.lstripChars a b)) H) := by
  intro pins s σ H x xs v us Q I rx rs h
  obtain ⟨a, b, rfl, rfl, hz, h⟩ := h
  obtain ⟨t, rfl⟩ := rx
  cases rs with
  | cons r1 rs =>
    cases rs
    obtain ⟨u, rfl⟩ := r1
    exact PySem.SC.lstripChars (fun t' k => ⟨.str (Txt.lstripChars a b), H, I.tok k, ⟨t', rfl⟩, h⟩) hz
theorem plstrip (ho : PE X o to) (he : PE X e te) (hs : starEach [e] X.env = [(false, eval e X.env)] := by rfl) (hbase : attributeBase o "lstrip" X.env (eval o X.env) = eval o X.env := by rfl) (hline : (apos.endLine == pos.line) = true := by rfl) :
    PE X (.Call (.Attribute o "lstrip" apos) [e] [] pos) (tS1 qLstrip to te) :=
  ps1 F.slot_str_lstrip F.type_str_lstrip mt_lstripC (fun a y H Q q => by
    unfold qLstrip at q
    split at q
    · rename_i b
      exact ⟨a, b, rfl, rfl, by rw [len_Lc]; exact mil q.1, by rw [lstrip_S]; exact q.2⟩
    · exact q.elim) ho he hs hbase hline
end
theorem del_take {α : Type} (g : α × Nat → Option α) (a n : Nat) (hg : ∀ x k, g (x, k) = if (decide ((a : Int) ≤ (k : Nat)) && decide (((k : Nat) : Int) < n) && ((((k : Nat) : Int) - a) % 1 == 0)) = true then none else some x) :
    ∀ (l : List α) (j : Nat), j + l.length ≤ n → (l.zipIdx j).filterMap g = l.take (a - j)
  | [], j, _ => by simp
  | x :: r, j, h => by
    have h : j + (r.length + 1) ≤ n := h
    rw [List.zipIdx_cons, List.filterMap_cons]
    have e1 : (((j : Nat) : Int) - a) % 1 = 0 := by omega
    have hj := hg x j
    rw [e1] at hj
    have ih := del_take g a n hg r (j + 1) (by omega)
    by_cases c : a ≤ j
    · have e : g (x, j) = none := by rw [hj, if_pos]; simp; omega
      rw [e, show a - j = 0 by omega, List.take_zero]
      simp only
      rw [ih, show a - (j + 1) = 0 by omega, List.take_zero]
    · have e : g (x, j) = some x := by rw [hj, if_neg]; simp; omega
      rw [e, show a - j = (a - (j + 1)) + 1 by omega, List.take_succ_cons, ← ih]
section
variable {prog : Program} {w : World} {A : Around} {E : Value → Shared → Prop} {s : Shared}
theorem bounds_from {a n : Nat} (h : a ≤ n) : sliceBounds (some (a : Int)) none none n = ((a : Int), (n : Int), 1) := by
  simp only [sliceBounds, Option.getD_none]
  have h1 : ¬ ((a : Int) < 0) := by omega
  simp only [h1, if_false, show (1 : Int) > 0 by decide, if_true]
  congr 1
  omega
theorem delItem_from {l sl : Addr} {items : Array Value} {n : Nat} {vl : Value} {a : Nat} {Q : Unit → Shared → Prop}
    (e : s.heap.get? l = some { cls := .type "list", data := .seq items n }) (hs : s.heap.IsSliceOf sl vl .none .none) (pl : IsPart vl (some (a : Int))) (ha : a ≤ items.size) (hsz : items.size ≤ sizeLine)
    (h : ∀ f : Array Value → Array Value, f items = (items.toList.take a).toArray → Q () { s with heap := s.heap.update l (Obj.mapSeq f) }) :
    wpAny (model prog w) A (delItem (.ref l) (.ref sl)) Q E s := by
  have hl : s.heap.IsList l items := PySem.IsL.isList e
  obtain ⟨os, hos, hcs, hds⟩ := id hs
  have hTs : s.TypeIs (.ref sl) "slice" := ⟨os, hos, hcs⟩
  have hstep : ¬ ((rawPart none == rawInt 0) = true) := Bool.false_ne_true
  refine wpAny_delItem_slot hl.typeIs (by decide) PySem.F.slot_list_delitem (wpAny_call_entry PySem.F.slot_list_delitem hl.typeIs PySem.F.entry_list_delitem ?_ (PySem.F.args_list_delitem_2 _ _))
  show wpAny _ _ (Builtin.List.listSubscript? (.ref sl) >>= _) _ _ s
  refine wpAny_bind ?_
  unfold Builtin.List.listSubscript?
  refine wpAny_bind (wpAny_specialOf hTs slice_no_index ?_)
  simp only [Option.isNone_none, if_true]
  refine wpAny_pure ?_
  show wpAny _ _ (typeOf (.ref sl) >>= _) _ _ s
  refine wpAny_bind (wpAny_typeOf hTs ?_)
  first
    | rw [if_neg (by decide)]
    | refine PySem.W.KFB.if_not (by decide) ?_
  rw [listSliceParts_eq]
  refine wpAny_bind (wpAny_bind (wpAny_field hos hds (x := .none) rfl (wpAny_bind (wpAny_listPart .none ?_))))
  rw [if_neg hstep]
  refine wpAny_bind (wpAny_field hos hds (x := vl) rfl (wpAny_bind (wpAny_listPart pl ?_)))
  refine wpAny_bind (wpAny_field hos hds (x := .none) rfl (wpAny_bind (wpAny_listPart .none (wpAny_pure ?_))))
  refine wpAny_bind (m := Builtin.List.listItems (.ref l)) ?_
  unfold Builtin.List.listItems
  refine wpAny_bind (wpAny_seqItems e rfl (wpAny_pure ?_))
  refine wpAny_bind (wpAny_of_eq ((sliceIndices_raw (some (a : Int)) none none items.size (by simp)).trans (congrArg (pure : Int × Int × Int → Sem (Int × Int × Int)) (bounds_from ha))) ?_)
  refine wpAny_bind (wpAny_rule ?_)
  have go : ∀ (f : Array Value → Array Value) (R : Unit → Shared → Prop), f items = (items.toList.take a).toArray → ((Q () { s with heap := s.heap.update l (Obj.mapSeq f) }) → R () { s with heap := s.heap.update l (Obj.mapSeq f) }) → wpAny (model prog w) A.in1 (updateSeq l f) R E s := fun f R hf hR => by
    refine wpAny_updateSeq (hz := hsz) (_hz' := ?_) e rfl (hR (h f hf))
    rw [hf, List.size_toArray, List.length_take]
    have : items.toList.length = items.size := by simp
    omega
  refine wpAny_bind (go _ _ (congrArg List.toArray (del_take _ a items.size (fun x k => rfl) items.toList 0 (by simp))) fun hq => ?_)
  exact wpAny_bind (wpAny_letGo (wpAny_pure ⟨.none, rfl, hq⟩))
end
section
variable {X : Cx} {o lo : Expr} {to : TE} {tl : TO} {pos p2 cpos : Pos}
def tDelS (to : TE) (tl : TO) : TS := fun D σ H => to σ H fun x H1 => tl σ H1 fun lo H2 => match x, lo with
  | .ref l, some i => ∃ xs, H2 l = some (.lst xs) ∧ 0 ≤ i ∧ i ≤ xs.length ∧ D.nx σ (upd H2 l (.lst (xs.take i.toNat)))
  | _, _ => False
theorem pdelS (ho : PE X o to) (hl : PO X (some lo) tl) : PS X (.Delete [.Subscript o (.Slice (some lo) none none p2) pos] cpos) (tDelS to tl) := by
  intro pins s σ H D I h
  refine wpAny_Delete (wpAny_deleteEach_cons (wpAny_delete_Subscript (thn (ho pins s σ H _ I h) fun v s1 ⟨x, H1, I1, r1, q1⟩ => ?_)))
  refine wpAny_Slice (thn (hl pins s1 σ H1 _ I1 q1) fun vl s2 ⟨lo', H2, I2, pl, q2⟩ => ?_)
  rw [evalPart_none]
  refine wpAny_pure ?_
  refine wpAny_pure ?_
  have I4 : Inv X pins σ H2 { s2 with heap := s2.heap.push { cls := .type "slice", data := .fields #[vl, .none, .none] } } := I2.kept (t' := s2.toks) fun b ob q => Heap.get?_push_of_some _ q
  split at q2
  · rename_i l i
    obtain ⟨xs, hH, h0, hi, q⟩ := q2
    cases r1
    obtain ⟨a, rfl⟩ := Int.eq_ofNat_of_zero_le h0
    obtain ⟨z, its, n, r, hl', e⟩ := I4.lstM hH
    refine delItem_from (a := a) e (Heap.IsSliceOf.new ..) pl (by rw [List.size_toArray]; omega) (by rw [List.size_toArray]; omega) fun f hf => wpAny_deleteEach_nil ?_
    refine ⟨σ, _, I4.lset (its' := its.take a) (t' := s2.toks) hH e (by rw [hf]) (r.take _) (by rw [List.length_take]; omega), ?_⟩
    rw [Int.toNat_natCast] at q
    exact q
  · exact q2.elim
end
end N1
set_option Elab.async false
set_option linter.all false
set_option maxRecDepth 100000
set_option maxHeartbeats 4000000
namespace N1
open PySem PySem.Spec PyProof.Rows L2
namespace Nd
def ol : Nd → Nat → List (Nat × Nat)
  | nil, _ => []
  | lett c r, d => (d, c) :: ol r d
  | br c _ _ n r, d => (d, c) :: (ol n (d + 1) ++ ol r d)
theorem ol_app (m : Nd) (d : Nat) : ∀ n, ol (app n m) d = ol n d ++ ol m d
  | nil => rfl
  | lett c r => by show _ :: ol (app r m) d = _; rw [ol_app m d r]; rfl
  | br c t a n r => by show _ :: (ol n (d + 1) ++ ol (app r m) d) = _; rw [ol_app m d r]; simp [ol]
theorem len_ol : ∀ (n : Nd) (d : Nat), (ol n d).length ≤ (tx n).length ∧ (vals n).length ≤ (ol n d).length
  | nil, _ => ⟨Nat.le_refl _, Nat.le_refl _⟩
  | lett c r, d => by have := len_ol r d; show (ol r d).length + 1 ≤ (tx r).length + 1 ∧ (vals r).length + 1 ≤ (ol r d).length + 1; omega
  | br c t a n r, d => by
    have h1 := len_ol n (d + 1)
    have h2 := len_ol r d
    show (ol n (d + 1) ++ ol r d).length + 1 ≤ (c :: (tx n ++ oth c :: tx r)).length ∧ (vals r).length + 1 ≤ (ol n (d + 1) ++ ol r d).length + 1
    simp; omega
theorem ol_dep : ∀ (n : Nd) (d : Nat), ∀ x ∈ ol n d, d ≤ x.1 ∧ x.1 < d + lv n
  | nil, _, x, h => by cases h
  | lett c r, d, x, h => by
    show _ ∧ x.1 < d + max 1 (lv r)
    rcases List.mem_cons.mp h with e | h
    · subst e; exact ⟨Nat.le_refl _, by show d < _; omega⟩
    · have := ol_dep r d x h; omega
  | br c t a n r, d, x, h => by
    show _ ∧ x.1 < d + max (lv n + 1) (lv r)
    rcases List.mem_cons.mp h with e | h
    · subst e; exact ⟨Nat.le_refl _, by show d < _; omega⟩
    · rcases List.mem_append.mp h with h | h
      · have := ol_dep n (d + 1) x h; omega
      · have := ol_dep r d x h; omega
theorem ol_sg : ∀ {n : Nd} (_ : WF n) (d : Nat), ∀ x ∈ ol n d, isLt x.2 = true ∨ isOp x.2 = true
  | nil, _, _, x, h => by cases h
  | lett c r, w, d, x, h => by
    rcases List.mem_cons.mp h with e | h
    · subst e; exact .inl w.1
    · exact ol_sg (n := r) w.2 d x h
  | br c t a n r, w, d, x, h => by
    rcases List.mem_cons.mp h with e | h
    · subst e; exact .inr w.1
    · rcases List.mem_append.mp h with h | h
      · exact ol_sg (n := n) w.2.1 (d + 1) x h
      · exact ol_sg (n := r) w.2.2 d x h
def lo : Nat → List Nat → List (Nat × Nat)
  | _, [] => []
  | d, c :: r => if isCl c = true then lo (d - 1) r else (d, c) :: lo (if isOp c = true then d + 1 else d) r
def Low (d : Nat) (x : List (Nat × Nat)) : Prop := ∀ y r, x = y :: r → y.1 < d
theorem ol_inj : ∀ (n m : Nd) (d : Nat) (x y : List (Nat × Nat)), WF n → WF m → Low d x → Low d y → ol n d ++ x = ol m d ++ y → sh n = sh m ∧ x = y
  | nil, nil, d, x, y, _, _, _, _, h => ⟨rfl, h⟩
  | nil, lett c r, d, x, y, _, wm, ex, _, h => absurd (ex (d, c) _ (show x = _ from h)) (Nat.lt_irrefl _)
  | nil, br c t a n r, d, x, y, _, wm, ex, _, h => absurd (ex (d, c) _ (show x = _ from h)) (Nat.lt_irrefl _)
  | lett c r, nil, d, x, y, wn, _, _, ey, h => absurd (ey (d, c) _ (show y = _ from h.symm)) (Nat.lt_irrefl _)
  | br c t a n r, nil, d, x, y, wn, _, _, ey, h => absurd (ey (d, c) _ (show y = _ from h.symm)) (Nat.lt_irrefl _)
  | lett c r, lett c' r', d, x, y, wn, wm, ex, ey, h => by
    have h : (d, c) :: (ol r d ++ x) = (d, c') :: (ol r' d ++ y) := h
    injection h with h1 h2
    injection h1 with _ h1
    obtain ⟨e1, e2⟩ := ol_inj r r' d x y wn.2 wm.2 ex ey h2
    exact ⟨by show lett c (sh r) = lett c' (sh r'); rw [h1, e1], e2⟩
  | lett c r, br c' t a n r', d, x, y, wn, wm, _, _, h => by
    have h : (d, c) :: (ol r d ++ x) = (d, c') :: ((ol n (d + 1) ++ ol r' d) ++ y) := h
    injection h with h1 _
    injection h1 with _ h1
    rw [h1] at wn
    have := (lt_not wn.1).1
    rw [wm.1] at this; cases this
  | br c t a n r, lett c' r', d, x, y, wn, wm, _, _, h => by
    have h : (d, c) :: ((ol n (d + 1) ++ ol r d) ++ x) = (d, c') :: (ol r' d ++ y) := h
    injection h with h1 _
    injection h1 with _ h1
    rw [← h1] at wm
    have := (lt_not wm.1).1
    rw [wn.1] at this; cases this
  | br c t a n r, br c' t' a' n' r', d, x, y, wn, wm, ex, ey, h => by
    have h : (d, c) :: ((ol n (d + 1) ++ ol r d) ++ x) = (d, c') :: ((ol n' (d + 1) ++ ol r' d) ++ y) := h
    injection h with h1 h2
    injection h1 with _ h1
    have low : ∀ (q : Nd) (z : List (Nat × Nat)), Low d z → Low (d + 1) (ol q d ++ z) := fun q z hz y r e => by
      cases q with
      | nil => have := hz y r (show z = _ from e); omega
      | lett c r' => have e : (d, c) :: (ol r' d ++ z) = y :: r := e; injection e with e _; rw [← e]; exact Nat.lt_succ_self _
      | br c t a n r' => have e : (d, c) :: ((ol n (d + 1) ++ ol r' d) ++ z) = y :: r := e; injection e with e _; rw [← e]; exact Nat.lt_succ_self _
    obtain ⟨e1, e2⟩ := ol_inj n n' (d + 1) (ol r d ++ x) (ol r' d ++ y) wn.2.1 wm.2.1 (low r x ex) (low r' y ey) (by simpa using h2)
    obtain ⟨e3, e4⟩ := ol_inj r r' d x y wn.2.2 wm.2.2 ex ey e2
    exact ⟨by show br c 0 0 (sh n) (sh r) = br c' 0 0 (sh n') (sh r'); rw [h1, e1, e3], e4⟩
theorem tx_of_sh : ∀ n : Nd, tx (sh n) = tx n
  | nil => rfl
  | lett c r => by show c :: tx (sh r) = _; rw [tx_of_sh r]; rfl
  | br c t a n r => by show c :: (tx (sh n) ++ oth c :: tx (sh r)) = _; rw [tx_of_sh n, tx_of_sh r]; rfl
theorem ol_tx {n m : Nd} (wn : WF n) (wm : WF m) (h : ol n 0 = ol m 0) : tx n = tx m := by
  have := (ol_inj n m 0 [] [] wn wm (fun y r e => by cases e) (fun y r e => by cases e) (by rw [h])).1
  rw [← tx_of_sh n, this, tx_of_sh]
def OkL : Nat → List (Nat × Nat) → Prop
  | _, [] => True
  | m, x :: r => x.1 ≤ m ∧ x.1 < 60 ∧ ((isLt x.2 = true ∧ OkL x.1 r) ∨ (isOp x.2 = true ∧ OkL (x.1 + 1) r))
theorem ok_ol : ∀ (n : Nd) (d m : Nat) (x : List (Nat × Nat)), WF n → d ≤ m → d + lv n ≤ 60 → (∀ m', d ≤ m' → OkL m' x) → OkL m (ol n d ++ x)
  | nil, d, m, x, _, hm, _, h => h m hm
  | lett c r, d, m, x, w, hm, hl, h => by
    have hl : d + max 1 (lv r) ≤ 60 := hl
    exact ⟨hm, by show d < 60; omega, .inl ⟨w.1, ok_ol r d d x w.2 (Nat.le_refl _) (by omega) h⟩⟩
  | br c t a n r, d, m, x, w, hm, hl, h => by
    have hl : d + max (lv n + 1) (lv r) ≤ 60 := hl
    have e : ol (br c t a n r) d ++ x = (d, c) :: (ol n (d + 1) ++ (ol r d ++ x)) := by simp [ol]
    rw [e]
    exact ⟨hm, by show d < 60; omega, .inr ⟨w.1, ok_ol n (d + 1) (d + 1) _ w.2.1 (Nat.le_refl _) (by omega) fun m' hm' => ok_ol r d m' x w.2.2 (by omega) (by omega) h⟩⟩
theorem okL_nest {n : Nd} (w : WF n) (h : lv n ≤ 60) : OkL 0 (ol n 0) := by
  have := ok_ol n 0 0 [] w (Nat.le_refl _) (by omega) (fun _ _ => trivial)
  rw [List.append_nil] at this; exact this
def zol : List Fm → List (Nat × Nat)
  | [] => []
  | f :: fs => zol fs ++ ol f.J fs.length ++ [(fs.length, f.c)]
theorem upd_upd {H : Hp} {L : Addr} {x y : HO} : upd (upd H L x) L y = upd H L y := by
  funext b
  by_cases e : b = L
  · subst e; rw [upd_same, upd_same]
  · rw [upd_ne e, upd_ne e, upd_ne e]
theorem upd_id {H : Hp} {L : Addr} {x : HO} (h : H L = some x) : upd H L x = H := by
  funext b
  by_cases e : b = L
  · subst e; rw [upd_same, h]
  · rw [upd_ne e]
theorem ZAt.cut {H0 : Hp} {L : Addr} : ∀ (fs : List Fm) (H : Hp) (a : Addr) (I : Nd) (d : Nat), ZAt H0 H L a I fs → d ≤ fs.length → ∃ a' I' fs', fs'.length = d ∧ ZAt H0 (upd H L (.lst ((zlv fs ++ [V.ref a]).take (d + 1)))) L a' I' fs' ∧ zol fs' ++ ol I' fs'.length = zol fs ++ ol I fs.length
  | fs, H, a, I, d, x, hd => by
    by_cases e : fs.length = d
    · refine ⟨a, I, fs, e, ?_, rfl⟩
      rw [List.take_of_length_le (by rw [List.length_append, len_zlv]; simp; omega), upd_id x.lev]
      exact x
    · cases fs with
      | nil => exact absurd (Nat.le_antisymm (Nat.zero_le _) hd) e
      | cons f fs =>
        have hd : d ≤ fs.length + 1 := hd
        have e : ¬ fs.length + 1 = d := e
        obtain ⟨a', I', fs', h1, h2, h3⟩ := ZAt.cut fs (upd H L (.lst (zlv fs ++ [V.ref f.b]))) f.b _ d x.cls (by omega)
        refine ⟨a', I', fs', h1, ?_, ?_⟩
        · rw [upd_upd] at h2
          have e2 : (zlv (f :: fs) ++ [V.ref a]).take (d + 1) = (zlv fs ++ [V.ref f.b]).take (d + 1) := by
            show ((zlv fs ++ [V.ref f.b]) ++ [V.ref a]).take (d + 1) = _
            rw [List.take_append_of_le_length (by rw [List.length_append, len_zlv]; simp; omega)]
          rw [e2]; exact h2
        · rw [h3, ol_app]
          show zol fs ++ (ol f.J fs.length ++ ((fs.length, f.c) :: (ol I (fs.length + 1) ++ []))) = (zol fs ++ ol f.J fs.length ++ [(fs.length, f.c)]) ++ ol I (fs.length + 1)
          simp
theorem ZAt.whole {H0 H : Hp} {L a : Addr} {I : Nd} {fs : List Fm} (x : ZAt H0 H L a I fs) : ∃ a' N, (zlv fs ++ [V.ref a])[0]? = some (.ref a') ∧ At H a' N ∧ (∀ b ∈ a' :: lists N, H0 b = none) ∧ WF N ∧ ol N 0 = zol fs ++ ol I fs.length := by
  obtain ⟨a', N, fs', h1, h2, h3⟩ := ZAt.cut fs H a I 0 x (Nat.zero_le _)
  have e := List.length_eq_zero_iff.mp h1
  subst e
  have hl := h2.lev
  rw [upd_same] at hl
  have hl : (zlv fs ++ [V.ref a]).take 1 = [V.ref a'] := by injection hl with hl; injection hl
  obtain ⟨A, fr⟩ := h2.done
  refine ⟨a', N, ?_, ?_, fr, h2.wI, h3⟩
  · have := congrArg (fun z => z[0]?) hl
    rw [List.getElem?_take_of_lt (by decide)] at this
    exact this
  · have nd := (List.nodup_cons.mp h2.nd).1
    have e0 : upd (upd H L (.lst ((zlv fs ++ [V.ref a]).take (0 + 1)))) L (.lst (zlv fs ++ [V.ref a])) = H := by rw [upd_upd, upd_id x.lev]
    have hb : L ∉ a' :: lists N := fun m => nd (by
      rcases List.mem_cons.mp m with e | m
      · rw [e]; exact List.mem_cons_self
      · exact List.mem_cons_of_mem _ (List.mem_append_left _ m))
    rw [← e0]
    refine ⟨?_, A.holds.upd (ys := zlv fs ++ [V.ref a]) upd_same fun m => hb (List.mem_cons_of_mem _ m), A.nd⟩
    have ne : a' ≠ L := fun e => hb (by rw [e]; exact List.mem_cons_self)
    rw [upd_ne ne]
    exact A.top
def ln (x : Nat × Nat) : List Nat := repL x.1 [32] ++ [x.2]
theorem rep1 (k : Nat) : repL k [32] = List.replicate k 32 := by
  unfold repL
  induction k with
  | zero => rfl
  | succ k ih => rw [List.replicate_succ, List.replicate_succ, List.flatten_cons, ih]; rfl
theorem len_ln (x : Nat × Nat) : (ln x).length = x.1 + 1 := by unfold ln; rw [rep1]; simp
def oT (xs : List (Nat × Nat)) : List Nat := joinL [10] (xs.map ln)
theorem ln_strip {x : Nat × Nat} (h : x.2 ≠ 32) : (ln x).drop ((ln x).takeWhile (Lc (Str.ofString " ")).contains).length = [x.2] := by
  have e : Lc (Str.ofString " ") = [32] := by decide +kernel
  rw [e]
  unfold ln
  rw [rep1]
  have : (List.replicate x.1 32 ++ [x.2]).takeWhile ([32] : List Nat).contains = List.replicate x.1 32 := by
    induction x.1 with
    | zero => simp [List.takeWhile, h]
    | succ k ih => rw [List.replicate_succ, List.cons_append, List.takeWhile_cons, ih]; rfl
  rw [this, List.length_replicate]
  rw [List.drop_left' (by simp)]
theorem ln_no10 {x : Nat × Nat} (h : x.2 ≠ 10) : 10 ∉ ln x := by
  unfold ln
  rw [rep1]
  intro m
  rcases List.mem_append.mp m with m | m
  · have := List.eq_of_mem_replicate m; omega
  · exact h (List.mem_singleton.mp m).symm
theorem sum_ln : ∀ (xs : List (Nat × Nat)) (m : Nat), (∀ x ∈ xs, x.1 < m) → (xs.map ln).flatten.length ≤ xs.length * m
  | [], _, _ => Nat.zero_le _
  | x :: r, m, h => by
    have h1 := sum_ln r m fun y hy => h y (List.mem_cons_of_mem _ hy)
    have h2 := h x List.mem_cons_self
    rw [List.map_cons, List.flatten_cons, List.length_append, len_ln, List.length_cons, Nat.succ_mul]
    omega
theorem len_join : ∀ (ys : List (List Nat)), (joinL [10] ys).length ≤ ys.flatten.length + ys.length
  | [] => Nat.le_refl _
  | [x] => by simp [joinL]
  | x :: y :: r => by
    have := len_join (y :: r)
    show (x ++ [10] ++ joinL [10] (y :: r)).length ≤ (x :: (y :: r)).flatten.length + (y :: r).length + 1
    rw [List.flatten_cons, List.length_append, List.length_append, List.length_append]
    simp only [List.length_singleton]
    omega
theorem oT_nil {xs : List (Nat × Nat)} : oT xs = [] ↔ xs = [] := by
  constructor
  · intro h
    cases xs with
    | nil => rfl
    | cons x r =>
      have : 0 < (oT (x :: r)).length := by
        unfold oT
        cases r with
        | nil => show 0 < (ln x).length; rw [len_ln]; omega
        | cons y r => show 0 < (ln x ++ [10] ++ joinL [10] ((y :: r).map ln)).length; rw [List.length_append, List.length_append, len_ln]; omega
      rw [h] at this; cases this
  · intro h; subst h; rfl
end Nd
end N1
set_option Elab.async false
set_option linter.all false
set_option maxRecDepth 100000
set_option maxHeartbeats 4000000
namespace N1
open PySem PySem.Spec PyProof.Rows L2
def Stp (H : Hp) (v : V) (x : Nat × Nat) : Prop := ∃ (r pa : Addr) (it : V) (ps : List V), v = .ref r ∧ H r = some (.tup [.ref pa, it]) ∧ H pa = some (.tup ps) ∧ ps.length = x.1 + 1 ∧ (it = sg x.2 ∨ ∃ t a, it = .ref t ∧ H t = some (.tup [sg x.2, .ref a]))
theorem Stp.same {H H' : Hp} {v : V} {x : Nat × Nat} (h : Stp H v x) (k : Same H H') : Stp H' v x := by
  obtain ⟨r, pa, it, ps, h1, h2, h3, h4, h5⟩ := h
  refine ⟨r, pa, it, ps, h1, k _ _ h2, k _ _ h3, h4, ?_⟩
  rcases h5 with h5 | ⟨t, a, h5, h6⟩
  · exact .inl h5
  · exact .inr ⟨t, a, h5, k _ _ h6⟩
theorem Stp.upd {H : Hp} {v : V} {x : Nat × Nat} (h : Stp H v x) {l : Addr} {xs ys : List V} (hl : H l = some (.lst xs)) : Stp (upd H l (.lst ys)) v x := by
  obtain ⟨r, pa, it, ps, h1, h2, h3, h4, h5⟩ := h
  have ne : ∀ {b zs}, H b = some (.tup zs) → (L2.upd H l (.lst ys)) b = some (.tup zs) := fun {b zs} e => by
    show L2.upd H l (.lst ys) b = _
    rw [upd_ne fun z => by rw [z, hl] at e; cases e]; exact e
  refine ⟨r, pa, it, ps, h1, ne h2, ne h3, h4, ?_⟩
  rcases h5 with h5 | ⟨t, a, h5, h6⟩
  · exact .inl h5
  · exact .inr ⟨t, a, h5, ne h6⟩
def Stps (H : Hp) (vs : List V) (xs : List (Nat × Nat)) : Prop := vs.length = xs.length ∧ ∀ (i : Nat) v x, vs[i]? = some v → xs[i]? = some x → Stp H v x
theorem Stps.nil {H : Hp} : Stps H [] [] := ⟨rfl, fun i v x h => by simp at h⟩
theorem Stps.one {H : Hp} {v : V} {x : Nat × Nat} (h : Stp H v x) : Stps H [v] [x] := ⟨rfl, fun i u y h1 h2 => by
  cases i with
  | zero => cases h1; cases h2; exact h
  | succ i => simp at h1⟩
theorem Stps.app {H : Hp} {vs us : List V} {xs ys : List (Nat × Nat)} (h : Stps H vs xs) (k : Stps H us ys) : Stps H (vs ++ us) (xs ++ ys) := by
  refine ⟨by rw [List.length_append, List.length_append, h.1, k.1], fun i v x h1 h2 => ?_⟩
  by_cases c : i < vs.length
  · rw [List.getElem?_append_left c] at h1
    rw [List.getElem?_append_left (by have := h.1; omega)] at h2
    exact h.2 i v x h1 h2
  · rw [List.getElem?_append_right (by omega)] at h1
    rw [List.getElem?_append_right (by have := h.1; omega), ← h.1] at h2
    exact k.2 _ v x h1 h2
theorem Stps.same {H H' : Hp} {vs : List V} {xs : List (Nat × Nat)} (h : Stps H vs xs) (k : Same H H') : Stps H' vs xs := ⟨h.1, fun i v x h1 h2 => (h.2 i v x h1 h2).same k⟩
theorem Stps.upd {H : Hp} {vs : List V} {xs : List (Nat × Nat)} (h : Stps H vs xs) {l : Addr} {zs ys : List V} (hl : H l = some (.lst zs)) : Stps (upd H l (.lst ys)) vs xs := ⟨h.1, fun i v x h1 h2 => (h.2 i v x h1 h2).upd hl⟩
def spWalked (k : Nat) : Sp := fun vs H Q _ => ∃ (a b : Addr) (N : Nd) (bs : List V), vs = [.ref a, .ref b] ∧ H a = some (.lst (Nd.vals N)) ∧ Nd.Holds H N ∧ Nd.lv N + 1 ≤ k ∧ (Nd.tx N).length ≤ 1000 ∧ H b = some (.tup bs) ∧ bs.length + Nd.lv N ≤ 1000 ∧
  ∀ (H' : Hp) (p : Addr) (ws : List V), H p = none → Same H H' → H' p = some (.lst ws) → Stps H' ws (Nd.ol N bs.length) → Q (.ref p) H'
structure WI (N N1 N2 : Nd) : Prop where
  eq : Nd.app N1 N2 = N
theorem WI.item {N N1 N2 : Nd} (x : WI N N1 N2) {q : Nat} {y : V} (hq : (Nd.vals N1).length = q) (hy : (Nd.vals N)[q]? = some y) : (∃ c r, N2 = Nd.lett c r ∧ y = sg c) ∨ (∃ c t b n r, N2 = Nd.br c t b n r ∧ y = .ref t) := by
  rw [← x.eq, Nd.vals_app, List.getElem?_append_right (by omega), hq, Nat.sub_self] at hy
  cases N2 with
  | nil => cases hy
  | lett c r => exact .inl ⟨c, r, rfl, (Option.some.inj hy).symm⟩
  | br c t b n r => exact .inr ⟨c, t, b, n, r, rfl, (Option.some.inj hy).symm⟩
theorem WI.last {N N1 N2 : Nd} (x : WI N N1 N2) (hq : (Nd.vals N1).length = (Nd.vals N).length) : N1 = N := by
  have h : (Nd.vals N1 ++ Nd.vals N2).length = (Nd.vals N).length := by rw [← Nd.vals_app, x.eq]
  rw [List.length_append] at h
  have e : N2 = .nil := by
    cases N2 with
    | nil => rfl
    | lett c r => have h : (Nd.vals N1).length + ((Nd.vals r).length + 1) = (Nd.vals N).length := h; omega
    | br c t b n r => have h : (Nd.vals N1).length + ((Nd.vals r).length + 1) = (Nd.vals N).length := h; omega
  rw [← x.eq, e, Nd.app_nil]
theorem WI.br {H : Hp} {N N1 n r : Nd} {c : Nat} {t b : Addr} (x : WI N N1 (.br c t b n r)) (h : Nd.Holds H N) : H t = some (.tup [sg c, .ref b]) ∧ H b = some (.lst (Nd.vals n)) ∧ Nd.Holds H n ∧ Nd.lv n + 1 ≤ Nd.lv N ∧ (Nd.tx n).length ≤ (Nd.tx N).length ∧ (Nd.ol N1 0).length + (Nd.ol n 0).length + 1 ≤ (Nd.tx N).length := by
  have h2 := ((Nd.holds_app _ _).mp (by rw [x.eq]; exact h)).2
  have e1 : ∀ (m : Nd), Nd.lv (Nd.br c t b n r) ≤ Nd.lv (Nd.app m (Nd.br c t b n r)) := fun m => by
    induction m with
    | nil => exact Nat.le_refl _
    | lett c' r' ih => show _ ≤ max 1 (Nd.lv (Nd.app r' _)); omega
    | br c' t' a' n' r' ih1 ih => show _ ≤ max (Nd.lv n' + 1) (Nd.lv (Nd.app r' _)); omega
  have e2 := e1 N1
  rw [x.eq] at e2
  have e3 : max (Nd.lv n + 1) (Nd.lv r) ≤ Nd.lv N := e2
  have e4 := congrArg (fun m => (Nd.tx m).length) x.eq
  have e4 : (Nd.tx (Nd.app N1 (Nd.br c t b n r))).length = (Nd.tx N).length := e4
  rw [Nd.tx_app, List.length_append] at e4
  have e5 : (Nd.tx (Nd.br c t b n r)).length = (c :: (Nd.tx n ++ oth c :: Nd.tx r)).length := rfl
  simp at e5
  have e6 := (Nd.len_ol N1 0).1
  have e7 := (Nd.len_ol n 0).1
  exact ⟨h2.1, h2.2.1, h2.2.2.1, by omega, by omega, by omega⟩
theorem len_ol_any (n : Nd) (d : Nat) : (Nd.ol n d).length = (Nd.ol n 0).length := by
  have : ∀ (n : Nd) (d e : Nat), (Nd.ol n d).length = (Nd.ol n e).length := fun n => by
    induction n with
    | nil => intro d e; rfl
    | lett c r ih => intro d e; show (Nd.ol r d).length + 1 = (Nd.ol r e).length + 1; rw [ih d e]
    | br c t a n r ih1 ih2 => intro d e; show (Nd.ol n (d + 1) ++ Nd.ol r d).length + 1 = (Nd.ol n (e + 1) ++ Nd.ol r e).length + 1; rw [List.length_append, List.length_append, ih1 (d + 1) (e + 1), ih2 d e]
  exact this n d 0
def hid2 (H : Hp) (L a : Addr) : Hp := fun b => if b = L ∨ b = a then none else H b
theorem hid2_same {H : Hp} {L a : Addr} : Same (hid2 H L a) H := fun b o e => by
  unfold hid2 at e
  split at e
  · cases e
  · exact e
theorem hid2_of {H0 H : Hp} {L a : Addr} (k : Same H0 H) (h1 : H0 L = none) (h2 : H0 a = none) : Same H0 (hid2 H L a) := fun b o e => by
  unfold hid2
  rw [if_neg (fun z => by
    rcases z with z | z
    · rw [z, h1] at e; cases e
    · rw [z, h2] at e; cases e)]
  exact k b o e
theorem hid2_L {H : Hp} {L a : Addr} : hid2 H L a L = none := if_pos (.inl rfl)
theorem hid2_a {H : Hp} {L a : Addr} : hid2 H L a a = none := if_pos (.inr rfl)
theorem hid2_ne {H : Hp} {L a b : Addr} (h1 : b ≠ L) (h2 : b ≠ a) : hid2 H L a b = H b := if_neg (fun z => z.elim h1 h2)
theorem ltop_ne {c : Nat} (h : isLt c = true ∨ isOp c = true) : c ≠ 32 ∧ c ≠ 10 := by
  have h32 : isLt 32 = false ∧ isOp 32 = false := by decide +kernel
  have h10 : isLt 10 = false ∧ isOp 10 = false := by decide +kernel
  constructor
  · rintro rfl
    rcases h with h | h
    · rw [h32.1] at h; cases h
    · rw [h32.2] at h; cases h
  · rintro rfl
    rcases h with h | h
    · rw [h10.1] at h; cases h
    · rw [h10.2] at h; cases h
def spRead : Sp := fun vs H Q _ => ∃ N0 : Nd, vs = [.str (S (Nd.oT (Nd.ol N0 0)))] ∧ Nd.WF N0 ∧ (Nd.tx N0).length ≤ 120 ∧
  ∀ (H' : Hp) (a : Addr) (N : Nd), Nd.At H' a N → (∀ b ∈ a :: Nd.lists N, H b = none) → Same H H' → Nd.tx N = Nd.tx N0 → Nd.WF N → Q (.ref a) H'
theorem nil_of_ol {N : Nd} (h : Nd.ol N 0 = []) : N = .nil := by
  cases N with
  | nil => rfl
  | lett c r => cases h
  | br c t a n r => cases h
end N1
set_option Elab.async false
set_option linter.all false
set_option maxRecDepth 100000
set_option maxHeartbeats 4000000
namespace N1
open PySem PySem.Spec PyProof.Rows L2
abbrev kwD (d : Value) : List (Str × Value) := [(Str.ofString "default", d)]
theorem args_maxD (a v : Value) : argsOk "max" ⟨[a], kwD v⟩ := by unfold argsOk; kernel_rfl
abbrev bestO (xs : Array Value) (c : Nat) : Obj := { cls := .type "list", data := .seq xs c }
section
variable {prog : Program} {w : World} {A : Around} {R : Result → Shared → Prop} {I : Addr} {fp wr : List Addr} {n : Nat} {Pn : Nat → Value → Prop} {St : Nat → Heap → Prop}
theorem nameD : (toString "max" ++ toString ".loop" : String) = "max.loop" := by decide
theorem maxD_loop (W : Walks prog w A.in1 I fp wr n Pn St) (bt : Nat → Nat → Bool) (hcmp : CmpOf prog w A.in1 .Gt Pn bt) (d : Value) (S : Addr) (hSf : S ∉ fp) :
    ∀ (k j : Nat) (s : Shared) (vb : Value) (c : Nat), n - (j + 1) = k → j + 1 ≤ n → St (j + 1) s.heap → Pn (argBest bt j) vb → s.heap.get? S = some (bestO #[vb, vb] c) →
    (∀ v h' tk, Pn (argBest bt (n - 1)) v → (∀ b o, b ∉ wr → b ≠ S → s.heap.get? b = some o → h'.get? b = some o) → R (.ok (.ret v)) { s with heap := h', toks := tk }) →
    codeAny (model prog w) A (.builtin "max.loop" ⟨[.ref I, .none, .ref S], kwD d⟩) R s
  | k, j, s, vb, c, hk, hj, st, pb, hS, hR => by
    have hSw : S ∉ wr := fun h => hSf (W.sub _ h)
    refine codeAny_builtin F.entry_max_loop ?_
    rw [Around.under_plainId F.plain_max_loop _]
    show wpAny _ A.in1 (seqItems? (.ref S) >>= _) _ _ s
    refine wpAny_bind (wpAny_seqItems hS rfl ?_)
    show wpAny _ A.in1 (tryCatch (pyNext (.ref I)) _ >>= _) _ _ s
    cases k with
    | zero =>
      have hin : j + 1 = n := by omega
      refine wpAny_bind (wpAny_tryCatch (W.done s _ _ (hin ▸ st) fun h' tk kp => ?_))
      have hS' := kp S _ hSw hS
      show wpAny _ A.in1 (updateSeq S (fun _ => #[]) >>= _) _ _ _
      refine wpAny_bind (wpAny_updateSeq hS' rfl (wpAny_bind (wpAny_letGo (wpAny_pure ?_))))
      exact hR vb _ tk (by rw [← hin]; exact pb) fun b o hw hb e => (Heap.get?_update_other _ _ (Ne.symm hb)).trans (kp b o hw e)
    | succ k =>
      refine wpAny_bind (wpAny_tryCatch (W.item (j + 1) s _ _ (by omega) st fun v h' tk hP st' kp => ?_))
      have hS' := kp S _ hSw hS
      show wpAny _ A.in1 (tryCatch (holding [v, v] (richCompare .Gt v vb >>= _)) _ >>= _) _ _ _
      refine wpAny_bind (wpAny_tryCatch (wpAny_holding (wpAny_bind (hcmp (j + 1) (argBest bt j) v vb _ _ _ hP pb ?_))))
      refine wpAny_bind (wpAny_holding (wpAny_truthy_bool (wpAny_bind (wpAny_letGo (wpAny_pure ?_)))))
      cases hb : bt (j + 1) (argBest bt j) with
      | true =>
        rw [if_pos rfl]
        refine wpAny_bind (wpAny_updateSeq hS' rfl (wpAny_bind (wpAny_letGo ?_)))
        rw [nameD]
        have eb : argBest bt (j + 1) = j + 1 := by show (if bt (j + 1) (argBest bt j) = true then j + 1 else _) = _; rw [if_pos hb]
        refine wpAny_pure ⟨plainId_quiet F.plain_max_loop _, maxD_loop W bt hcmp d S hSf k (j + 1) _ v _ (by omega) (by omega) (W.frame _ _ _ st' fun b hf o e => (Heap.get?_update_other _ _ (fun h : S = b => hSf (by rw [h]; exact hf))).trans e) (by rw [eb]; exact hP) (Heap.get?_update_self _ hS' rfl) fun v' h'' tk'' hP' kp' => ?_⟩
        exact hR v' h'' tk'' hP' fun b o hw hbS e => kp' b o hw hbS ((Heap.get?_update_other _ _ (Ne.symm hbS)).trans (kp b o hw e))
      | false =>
        rw [if_neg Bool.false_ne_true]
        refine wpAny_bind (wpAny_letGo ?_)
        rw [nameD]
        have eb : argBest bt (j + 1) = argBest bt j := by show (if bt (j + 1) (argBest bt j) = true then j + 1 else _) = _; rw [if_neg (by rw [hb]; exact Bool.false_ne_true)]
        exact wpAny_pure ⟨plainId_quiet F.plain_max_loop _, maxD_loop W bt hcmp d S hSf k (j + 1) _ vb c (by omega) (by omega) st' (by rw [eb]; exact pb) hS' fun v' h'' tk'' hP' kp' => hR v' h'' tk'' hP' fun b o hw hbS e => kp' b o hw hbS (kp b o hw e)⟩
theorem maxD_first (W : Walks prog w A.in1 I fp wr n Pn St) (bt : Nat → Nat → Bool) (hcmp : CmpOf prog w A.in1 .Gt Pn bt) (d : Value) (S : Addr) (hSf : S ∉ fp) {s : Shared} {c : Nat} (st : St 0 s.heap) (hS : s.heap.get? S = some (bestO #[] c))
    (hR : ∀ v h' tk, ((n = 0 ∧ v = d) ∨ (0 < n ∧ Pn (argBest bt (n - 1)) v)) → (∀ b o, b ∉ wr → b ≠ S → s.heap.get? b = some o → h'.get? b = some o) → R (.ok (.ret v)) { s with heap := h', toks := tk }) :
    codeAny (model prog w) A (.builtin "max.loop" ⟨[.ref I, .none, .ref S], kwD d⟩) R s := by
  have hSw : S ∉ wr := fun h => hSf (W.sub _ h)
  refine codeAny_builtin F.entry_max_loop ?_
  rw [Around.under_plainId F.plain_max_loop _]
  show wpAny _ A.in1 (seqItems? (.ref S) >>= _) _ _ s
  refine wpAny_bind (wpAny_seqItems hS rfl ?_)
  show wpAny _ A.in1 (tryCatch (pyNext (.ref I)) _ >>= _) _ _ s
  by_cases hn : 0 < n
  · refine wpAny_bind (wpAny_tryCatch (W.item 0 s _ _ hn st fun v h' tk hP st' kp => ?_))
    have hS' := kp S _ hSw hS
    show wpAny _ A.in1 (updateSeq S (fun _ => #[v, v]) >>= _) _ _ _
    refine wpAny_bind (wpAny_updateSeq hS' rfl ?_)
    rw [nameD]
    refine wpAny_pure ⟨plainId_quiet F.plain_max_loop _, maxD_loop W bt hcmp d S hSf _ 0 _ v _ rfl hn (W.frame _ _ _ st' fun b hf o e => (Heap.get?_update_other _ _ (fun h : S = b => hSf (by rw [h]; exact hf))).trans e) hP (Heap.get?_update_self _ hS' rfl) fun v' h'' tk'' hP' kp' => ?_⟩
    exact hR v' h'' tk'' (.inr ⟨hn, hP'⟩) fun b o hw hbS e => kp' b o hw hbS ((Heap.get?_update_other _ _ (Ne.symm hbS)).trans (kp b o hw e))
  · have e0 : n = 0 := by omega
    subst e0
    refine wpAny_bind (wpAny_tryCatch (W.done s _ _ st fun h' tk kp => ?_))
    exact wpAny_bind (wpAny_rule (wpAny_pure (hR d h' tk (.inl ⟨rfl, rfl⟩) fun b o hw _ e => kp b o hw e)))
end
section
variable {prog : Program} {w : World} {A : Around} {E : Value → Shared → Prop} {s : Shared} {l : Addr} {its : List Value} {ns : List Int} {Q : Value → Shared → Prop}
theorem maxD_raw {d : Value} (hh : A.handled = none) (hl : s.heap.IsList l its.toArray) (hi : IntsAre its ns)
    (h0 : ns = [] → ∀ h' tk, (∀ b o, s.heap.get? b = some o → h'.get? b = some o) → Q d { s with heap := h', toks := tk })
    (h : ∀ h' tk M t', (∀ b o, s.heap.get? b = some o → h'.get? b = some o) → M ∈ ns → (∀ a, a ∈ ns → a ≤ M) → Q (.int M t') { s with heap := h', toks := tk }) : wpAny (model prog w) A (call (.builtin "max") [.ref l] (kwD d)) Q E s := by
  obtain ⟨xs, e⟩ := hi.allInts.items
  have hn : numsOf (intItems xs).toList = ns := by rw [← e]; exact hi.numsOf
  rw [nums_intItems] at hn
  subst hn
  rw [e] at hl
  refine PyProof.Rows.kmk_tree F.kind_max F.plain_max F.entry_max (args_maxD _ _) ?_
  show wpAny _ A.in1 (Builtin.Builtins.bindParams "max" ["key", "default"] 0 ⟨[], kwD d⟩ >>= _) _ _ s
  refine wpAny_bind (wpAny_of_eq (show Builtin.Builtins.bindParams "max" ["key", "default"] 0 ⟨[], kwD d⟩ = pure [none, some d] from rfl) ?_)
  refine wpAny_bind (wpAny_pure ?_)
  refine wpAny_bind (iter_intList hl fun s₂ e2 st hfp hlI => ?_)
  subst e2
  refine wpAny_bind (wpAny_newObj_type ?_)
  rw [nameD]
  have W := Walks.list (prog := prog) (w := w) (A := A.in1) hh s.heap.objs.size l hlI (intItems xs)
  refine wpAny_pure ⟨plainId_quiet F.plain_max_loop _, maxD_first W (fun i j => decide (numAt xs i > numAt xs j)) (CmpOf.ints_gt (numAt xs) (fun _ _ => intItems_at)) d _ (fun hm => Nat.lt_irrefl _ (hfp _ hm)) (W.frame _ _ _ st fun b _ o e => Heap.get?_push_of_some _ e) (Heap.get?_push_size _ rfl) fun v h' tk hv kp => ?_⟩
  have kp' : ∀ b o, s.heap.get? b = some o → h'.get? b = some o := fun b o e => by
    have hb := Heap.lt_size e
    refine kp b o (fun hm => ?_) (fun hm => ?_) (Heap.get?_push_of_some _ (Heap.get?_push_of_some _ e))
    · have z : b = s.heap.objs.size := by simpa using hm
      rw [z] at hb; exact Nat.lt_irrefl _ hb
    · rw [Heap.size_push] at hm
      rw [hm] at hb; exact Nat.lt_irrefl _ (Nat.lt_of_succ_lt hb)
  rcases hv with ⟨z, rfl⟩ | ⟨z, hv⟩
  · have : xs = #[] := by simpa [intItems] using z
    subst this
    exact h0 rfl h' tk kp'
  · have hv : (intItems xs)[argBest (fun i j => decide (numAt xs i > numAt xs j)) (xs.size - 1)]? = some v := by simpa [intItems] using hv
    obtain ⟨t, rfl⟩ := intItems_at hv
    have hsz : 0 < xs.size := by simpa [intItems] using z
    obtain ⟨h1, h2⟩ := argBest_gt (numAt xs) (xs.size - 1)
    refine h h' tk _ t kp' ?_ fun a ha => ?_
    · rw [numAt_eq]; exact PySem.getD_mem (by rw [List.length_map, Array.length_toList]; omega)
    · obtain ⟨j, hj, rfl⟩ := mem_getD ha
      rw [List.length_map, Array.length_toList] at hj
      rw [← numAt_eq]; exact h2 j (by omega)
end
section
variable {X : Cx} {e v : Expr} {te : TE} {p pos kp : Pos}
def tMaxD (K : PySem.W.Frag) (i : Int) (te : TE) : TE := fun σ H Q => te σ H fun x H1 => match x with
  | .ref a => ∃ ns : List Int, SqL K H1 a (ns.map V.int) ∧ (ns = [] → Q (.int i) H1) ∧ ∀ m, m ∈ ns → (∀ y, y ∈ ns → y ≤ m) → Q (.int m) H1
  | _ => False
theorem pmaxD {i : Int} {j : Nat} {q : Pos} (hc : X.calm = true) (hg : Gl X "max") (hm : X.mg "max" = none) (he : PE X e te) (hs : starEach [e] X.env = (false, eval e X.env) :: starEach [] X.env := by rfl) :
    PE X (.Call (.Name "max" p) [e] [⟨some "default", .Constant (.int i) j q, kp⟩] pos) (tMaxD X.K i te) := by
  intro pins s σ H Q I h
  refine wpAny_Call_Name_kw (ld_blt I hg hm rfl ?_)
  refine PyProof.Rows.callWith_kw ?_ (by rw [hs]; rfl) (by rw [hs]; rfl)
  rw [hs]
  refine Calls.spliced_cons (thn (he pins s σ H _ I h) fun u s1 ⟨x, H1, I1, r1, q1⟩ => Calls.spliced_nil ?_)
  refine PyProof.Rows.kws_cons (wpAny_Constant_int (PyProof.Rows.kws_nil ?_))
  dsimp only at q1
  split at q1
  · rename_i a
    obtain ⟨ns, hl, q0, q⟩ := q1
    cases r1
    have I2 := I1.tok (s1.toks + 1)
    obtain ⟨its, rv, hl', _⟩ := I2.list hl
    exact maxD_raw (I2.ok.hd hc) hl'.isList rv.ints (fun z h' tk hk => ⟨.int i, H1, I2.kept hk, ⟨_, rfl⟩, q0 z⟩) fun h' tk m t' hk h1 h2 => ⟨.int m, H1, I2.kept hk, ⟨_, rfl⟩, q m h1 h2⟩
  · exact q1.elim
end
section
variable {X : Cx}
def rMax2 : List V → Hp → VK → Prop := fun xs H Q => match xs with
  | [.int i, .int j] => Q (.int (if j > i then j else i)) H
  | _ => False
theorem cMax2 (hc : X.calm = true) : CallR X (.builtin "max") rMax2 := CallR.imp (call_max2 hc) fun xs H Q h => by
  unfold rMax2 at h
  split at h
  · exact ⟨_, _, rfl, h⟩
  · exact h.elim
end
end N1
set_option Elab.async false
set_option linter.all false
set_option maxRecDepth 100000
set_option maxHeartbeats 4000000
namespace N1
open PySem PySem.Spec PyProof.Rows L2
namespace Nd
def pb : Nd → List Nat → Nat → List (List Nat × Nat × Nd)
  | nil, _, _ => []
  | lett _ r, π, k => pb r π (k + 1)
  | br c _ _ n r, π, k => (π ++ [k], c, n) :: (pb n (π ++ [k]) 0 ++ pb r π (k + 1))
def wl : Nd → List Nat → Nat → List (List Nat × V)
  | nil, _, _ => []
  | lett c r, π, k => (π ++ [k], sg c) :: wl r π (k + 1)
  | br _ t _ n r, π, k => (π ++ [k], .ref t) :: (wl n (π ++ [k]) 0 ++ wl r π (k + 1))
theorem wl_app (m : Nd) (π : List Nat) : ∀ (n : Nd) (k : Nat), wl (app n m) π k = wl n π k ++ wl m π (k + (vals n).length)
  | nil, k => rfl
  | lett c r, k => by
    show _ :: wl (app r m) π (k + 1) = _ :: (wl r π (k + 1) ++ wl m π (k + ((vals r).length + 1)))
    rw [wl_app m π r (k + 1), show k + 1 + (vals r).length = k + ((vals r).length + 1) by omega]
  | br c t a n r, k => by
    show _ :: (wl n (π ++ [k]) 0 ++ wl (app r m) π (k + 1)) = _ :: (wl n (π ++ [k]) 0 ++ wl r π (k + 1) ++ wl m π (k + ((vals r).length + 1)))
    rw [wl_app m π r (k + 1), show k + 1 + (vals r).length = k + ((vals r).length + 1) by omega, List.append_assoc]
theorem len_wl : ∀ (n : Nd) (π : List Nat) (k : Nat), (wl n π k).length = (ol n 0).length
  | nil, _, _ => rfl
  | lett c r, π, k => by show _ + 1 = _ + 1; rw [len_wl r π (k + 1)]
  | br c t a n r, π, k => by
    show (wl n (π ++ [k]) 0 ++ wl r π (k + 1)).length + 1 = (ol n (0 + 1) ++ ol r 0).length + 1
    rw [List.length_append, List.length_append, len_wl n, len_wl r, len_ol_any n (0 + 1)]
def isRef : V → Bool
  | .ref _ => true
  | _ => false
theorem wl_pb : ∀ (n : Nd) (π : List Nat) (k : Nat), ((wl n π k).filter fun x => isRef x.2).map (·.1) = (pb n π k).map (·.1)
  | nil, _, _ => rfl
  | lett c r, π, k => wl_pb r π (k + 1)
  | br c t a n r, π, k => by
    show (π ++ [k]) :: (((wl n (π ++ [k]) 0 ++ wl r π (k + 1)).filter fun x => isRef x.2).map (·.1)) = (π ++ [k]) :: ((pb n (π ++ [k]) 0 ++ pb r π (k + 1)).map (·.1))
    rw [List.filter_append, List.map_append, List.map_append, wl_pb n, wl_pb r]
theorem len_pb : ∀ (n : Nd) (π : List Nat) (k : Nat), (pb n π k).length ≤ (tx n).length
  | nil, _, _ => Nat.le_refl _
  | lett c r, π, k => by have := len_pb r π (k + 1); show (pb r π (k + 1)).length ≤ (tx r).length + 1; omega
  | br c t a n r, π, k => by
    have h1 := len_pb n (π ++ [k]) 0
    have h2 := len_pb r π (k + 1)
    show (pb n (π ++ [k]) 0 ++ pb r π (k + 1)).length + 1 ≤ (c :: (tx n ++ oth c :: tx r)).length
    simp; omega
def cl1 : List Nat → List Nat
  | [] => []
  | k :: ks => (k + 1) :: ks
def lp : List Nat → List Nat → List (List Nat)
  | _, [] => []
  | [], _ :: _ => []
  | k :: ks, c :: r => if isOp c = true then (k :: ks).reverse :: lp (0 :: k :: ks) r else if isCl c = true then lp (cl1 ks) r else lp ((k + 1) :: ks) r
def bd : Nd → Nat
  | nil => 0
  | lett _ r => bd r
  | br _ _ _ n r => max (bd n + 1) (bd r)
theorem bd_lv : ∀ n : Nd, bd n ≤ lv n
  | nil => Nat.le_refl _
  | lett c r => by have := bd_lv r; show bd r ≤ max 1 (lv r); omega
  | br c t a n r => by have h1 := bd_lv n; have h2 := bd_lv r; show max (bd n + 1) (bd r) ≤ max (lv n + 1) (lv r); omega
theorem pb_len : ∀ (n : Nd) (π : List Nat) (k : Nat), (∀ y ∈ pb n π k, y.1.length ≤ π.length + bd n) ∧ (bd n = 0 → pb n π k = []) ∧ (0 < bd n → ∃ y ∈ pb n π k, y.1.length = π.length + bd n)
  | nil, _, _ => ⟨fun y h => (by cases h), fun _ => rfl, fun h => absurd h (Nat.lt_irrefl _)⟩
  | lett c r, π, k => pb_len r π (k + 1)
  | br c t a n r, π, k => by
    obtain ⟨a1, a2, a3⟩ := pb_len n (π ++ [k]) 0
    obtain ⟨b1, b2, b3⟩ := pb_len r π (k + 1)
    have e : (π ++ [k]).length = π.length + 1 := by simp
    rw [e] at a1 a3
    refine ⟨fun y h => ?_, fun h => ?_, fun _ => ?_⟩
    · show y.1.length ≤ π.length + max (bd n + 1) (bd r)
      rcases List.mem_cons.mp h with z | h
      · subst z; show (π ++ [k]).length ≤ _; rw [e]; omega
      · rcases List.mem_append.mp h with h | h
        · have := a1 y h; omega
        · have := b1 y h; omega
    · have h : max (bd n + 1) (bd r) = 0 := h; omega
    · show ∃ y ∈ (π ++ [k], c, n) :: (pb n (π ++ [k]) 0 ++ pb r π (k + 1)), y.1.length = π.length + max (bd n + 1) (bd r)
      by_cases c1 : bd n + 1 < bd r
      · obtain ⟨y, h1, h2⟩ := b3 (by omega)
        exact ⟨y, List.mem_cons_of_mem _ (List.mem_append_right _ h1), by omega⟩
      · by_cases c2 : bd n = 0
        · exact ⟨_, List.mem_cons_self, by show (π ++ [k]).length = _; rw [e]; omega⟩
        · obtain ⟨y, h1, h2⟩ := a3 (by omega)
          exact ⟨y, List.mem_cons_of_mem _ (List.mem_append_left _ h1), by omega⟩
def itm1 (N : Nd) (j : Nat) (c : Nat) (t a : Addr) (n : Nd) : Prop := ∃ N1 r, N = app N1 (br c t a n r) ∧ (vals N1).length = j
def Way : V → Nd → List Nat → Nat → Nd → Prop
  | b, m, [], c, n => b = sg c ∧ m = n
  | _, m, j :: q, c, n => ∃ c1 t a n1, itm1 m j c1 t a n1 ∧ Way (sg c1) n1 q c n
theorem pb_way : ∀ (N N0 : Nd) (π : List Nat) (k : Nat) (p : List Nat) (c : Nat) (n : Nd), (vals N0).length = k → (p, c, n) ∈ pb N π k → ∃ q, p = π ++ q ∧ q ≠ [] ∧ ∀ b, Way b (app N0 N) q c n
  | nil, _, _, _, _, _, _, _, h => by cases h
  | lett d r, N0, π, k, p, c, n, h0, h => by
    have := pb_way r (app N0 (lett d nil)) π (k + 1) p c n (by rw [vals_app, List.length_append, h0]; rfl) h
    rw [app_app] at this
    exact this
  | br d t a m r, N0, π, k, p, c, n, h0, h => by
    rcases List.mem_cons.mp h with z | h
    · cases z
      exact ⟨[k], rfl, by simp, fun b => ⟨_, t, a, _, ⟨N0, r, rfl, h0⟩, rfl, rfl⟩⟩
    · rcases List.mem_append.mp h with h | h
      · obtain ⟨q, h1, h2, h3⟩ := pb_way m nil (π ++ [k]) 0 p c n rfl h
        exact ⟨k :: q, by rw [h1]; simp, by simp, fun b => ⟨d, t, a, m, ⟨N0, r, rfl, h0⟩, h3 _⟩⟩
      · have := pb_way r (app N0 (br d t a m nil)) π (k + 1) p c n (by rw [vals_app, List.length_append, h0]; rfl) h
        rw [app_app] at this
        exact this
def tp (l : List Nat) : Nat → Nat → List (Nat × List Nat)
  | _, 0 => []
  | j, k + 1 => (match l[j]? with | some c => if isOp c = true then [(c, seg l (j + 1) ((mate l j).getD 0))] else [] | none => []) ++ tp l (j + 1) k
theorem tp_app (l : List Nat) : ∀ (a j b : Nat), tp l j (a + b) = tp l j a ++ tp l (j + a) b
  | 0, j, b => by rw [Nat.zero_add]; rfl
  | a + 1, j, b => by
    rw [show a + 1 + b = (a + b) + 1 by omega, tp, tp, tp_app l a (j + 1) b, List.append_assoc, show j + 1 + a = j + (a + 1) by omega]
theorem tp_tx : ∀ {n : Nd} (_ : WF n) (pre post : List Nat) (π : List Nat) (k : Nat), tp (pre ++ (tx n ++ post)) pre.length (tx n).length = (pb n π k).map fun y => (y.2.1, tx y.2.2)
  | nil, _, _, _, _, _ => rfl
  | lett c r, w, pre, post, π, k => by
    obtain ⟨h1, h2⟩ := lt_not w.1
    have ih := tp_tx (n := r) w.2 (pre ++ [c]) post π (k + 1)
    have e : pre ++ (tx (lett c r) ++ post) = pre ++ [c] ++ (tx r ++ post) := by simp [tx]
    have e1 : (pre ++ [c] ++ (tx r ++ post))[pre.length]? = some c := by simp
    rw [e, show (tx (lett c r)).length = (tx r).length + 1 from rfl, tp, e1]
    simp only [h1]
    rw [show pre.length + 1 = (pre ++ [c]).length by simp, ih]
    rfl
  | br c t a n r, w, pre, post, π, k => by
    have i1 := tp_tx (n := n) w.2.1 (pre ++ [c]) (oth c :: (tx r ++ post)) (π ++ [k]) 0
    have i2 := tp_tx (n := r) w.2.2 (pre ++ [c] ++ tx n ++ [oth c]) post π (k + 1)
    have h4 : isOp (oth c) = false := by rw [op_oth]; exact op_not_cl w.1
    have e : pre ++ (tx (br c t a n r) ++ post) = pre ++ [c] ++ (tx n ++ oth c :: (tx r ++ post)) := by simp [tx]
    have e2 : pre ++ [c] ++ (tx n ++ oth c :: (tx r ++ post)) = pre ++ [c] ++ tx n ++ [oth c] ++ (tx r ++ post) := by simp
    have e1 : (pre ++ [c] ++ (tx n ++ oth c :: (tx r ++ post)))[pre.length]? = some c := by simp
    have el : (tx (br c t a n r)).length = ((tx n).length + (1 + (tx r).length)) + 1 := by show (c :: (tx n ++ oth c :: tx r)).length = _; simp; omega
    have ls : seg (pre ++ [c] ++ (tx n ++ oth c :: (tx r ++ post))) (pre.length + 1) (pre.length + 1 + (tx n).length) = tx n := by
      unfold seg
      rw [show pre.length + 1 + (tx n).length - (pre.length + 1) = (tx n).length by omega, List.drop_left' (by simp), List.take_left' rfl]
    have em : mate (pre ++ [c] ++ (tx n ++ oth c :: (tx r ++ post))) pre.length = some (pre.length + 1 + (tx n).length) := by
      refine mate_iff.mpr ⟨by omega, c, e1, w.1, ?_, ?_⟩
      · rw [List.getElem?_append_right (by simp <;> omega), List.getElem?_append_right (by simp <;> omega)]
        have : pre.length + 1 + (tx n).length - (pre ++ [c]).length - (tx n).length = 0 := by simp <;> omega
        rw [this]; rfl
      · rw [ls]; exact tx_clean w.2.1
    rw [e, el, tp, e1]
    simp only [w.1, if_true]
    rw [em, Option.getD_some, ls, tp_app, show pre.length + 1 = (pre ++ [c]).length by simp, i1, tp_app]
    have e3 : tp (pre ++ [c] ++ (tx n ++ oth c :: (tx r ++ post))) ((pre ++ [c]).length + (tx n).length) 1 = [] := by
      have : (pre ++ [c] ++ (tx n ++ oth c :: (tx r ++ post)))[(pre ++ [c]).length + (tx n).length]? = some (oth c) := by
        rw [List.getElem?_append_right (by omega), List.getElem?_append_right (by omega)]
        rw [show (pre ++ [c]).length + (tx n).length - (pre ++ [c]).length - (tx n).length = 0 by omega]; rfl
      rw [tp, this]
      simp only [h4]
      rfl
    rw [e3, List.nil_append, e2, show (pre ++ [c]).length + (tx n).length + 1 = (pre ++ [c] ++ tx n ++ [oth c]).length by simp; omega, i2]
    show [(c, tx n)] ++ _ = (c, tx n) :: ((pb n (π ++ [k]) 0 ++ pb r π (k + 1)).map _)
    rw [List.map_append]; rfl
theorem tp_nest {n : Nd} (w : WF n) : tp (tx n) 0 (tx n).length = (pb n [] 0).map fun y => (y.2.1, tx y.2.2) := by
  have := tp_tx w [] [] [] 0
  simpa using this
theorem pb_wf : ∀ {n : Nd} (_ : WF n) (π : List Nat) (k : Nat), ∀ y ∈ pb n π k, isOp y.2.1 = true ∧ WF y.2.2 ∧ lv y.2.2 + 1 ≤ lv n ∧ (tx y.2.2).length ≤ (tx n).length
  | nil, _, _, _, y, h => by cases h
  | lett c r, w, π, k, y, h => by
    have := pb_wf (n := r) w.2 π (k + 1) y h
    show _ ∧ _ ∧ _ ≤ max 1 (lv r) ∧ _ ≤ (tx r).length + 1
    exact ⟨this.1, this.2.1, by omega, by omega⟩
  | br c t a n r, w, π, k, y, h => by
    have el : (tx (br c t a n r)).length = ((tx n).length + (1 + (tx r).length)) + 1 := by show (c :: (tx n ++ oth c :: tx r)).length = _; simp; omega
    rw [el]
    show _ ∧ _ ∧ _ ≤ max (lv n + 1) (lv r) ∧ _
    rcases List.mem_cons.mp h with z | h
    · subst z; exact ⟨w.1, w.2.1, by show lv n + 1 ≤ _; omega, by show (tx n).length ≤ _; omega⟩
    · rcases List.mem_append.mp h with h | h
      · have := pb_wf (n := n) w.2.1 (π ++ [k]) 0 y h
        exact ⟨this.1, this.2.1, by omega, by omega⟩
      · have := pb_wf (n := r) w.2.2 π (k + 1) y h
        exact ⟨this.1, this.2.1, by omega, by omega⟩
end Nd
end N1
set_option Elab.async false
set_option linter.all false
set_option maxRecDepth 100000
set_option maxHeartbeats 4000000
namespace N1
open PySem PySem.Spec PyProof.Rows L2
def All2 {α β : Type} (R : α → β → Prop) (vs : List α) (xs : List β) : Prop := vs.length = xs.length ∧ ∀ (i : Nat) v x, vs[i]? = some v → xs[i]? = some x → R v x
section
variable {α β γ : Type} {R R' : α → β → Prop} {vs us : List α} {xs ys : List β}
theorem All2.nil : All2 R [] [] := ⟨rfl, fun i v x h => by simp at h⟩
theorem All2.one {v : α} {x : β} (h : R v x) : All2 R [v] [x] := ⟨rfl, fun i u y h1 h2 => by
  cases i with
  | zero => cases h1; cases h2; exact h
  | succ i => simp at h1⟩
theorem All2.app (h : All2 R vs xs) (k : All2 R us ys) : All2 R (vs ++ us) (xs ++ ys) := by
  refine ⟨by rw [List.length_append, List.length_append, h.1, k.1], fun i v x h1 h2 => ?_⟩
  by_cases c : i < vs.length
  · rw [List.getElem?_append_left c] at h1
    rw [List.getElem?_append_left (by have := h.1; omega)] at h2
    exact h.2 i v x h1 h2
  · rw [List.getElem?_append_right (by omega)] at h1
    rw [List.getElem?_append_right (by have := h.1; omega), ← h.1] at h2
    exact k.2 _ v x h1 h2
theorem All2.imp (h : All2 R vs xs) (k : ∀ v x, R v x → R' v x) : All2 R' vs xs := ⟨h.1, fun i v x h1 h2 => k v x (h.2 i v x h1 h2)⟩
end
abbrev pathV (p : List Nat) : List V := p.map fun k => V.int (k : Nat)
theorem pathV_snoc (p : List Nat) (k : Nat) : pathV (p ++ [k]) = pathV p ++ [.int (k : Nat)] := by simp [pathV]
def PthAt (H : Hp) (v : V) (p : List Nat) : Prop := ∃ r, v = .ref r ∧ H r = some (.tup (pathV p))
theorem keep_tup {H : Hp} {l b : Addr} {xs ys zs : List V} (hl : H l = some (.lst xs)) (e : H b = some (.tup zs)) : upd H l (.lst ys) b = some (.tup zs) := by
  rw [upd_ne fun z => by rw [z, hl] at e; cases e]; exact e
theorem kps_tup {L : List Addr} {H H' : Hp} (k : Nd.Kps L H H') (hL : ∀ b ∈ L, ∃ xs, H b = some (.lst xs)) {b : Addr} {zs : List V} (e : H b = some (.tup zs)) : H' b = some (.tup zs) := k _ _ (fun m => by
  obtain ⟨xs, z⟩ := hL b m
  rw [e] at z; cases z) e
theorem PthAt.same {H H' : Hp} {v : V} {p : List Nat} (h : PthAt H v p) (k : Same H H') : PthAt H' v p := let ⟨r, h1, h2⟩ := h; ⟨r, h1, k _ _ h2⟩
theorem PthAt.upd {H : Hp} {v : V} {p : List Nat} (h : PthAt H v p) {l : Addr} {xs ys : List V} (hl : H l = some (.lst xs)) : PthAt (upd H l (.lst ys)) v p := let ⟨r, h1, h2⟩ := h; ⟨r, h1, keep_tup hl h2⟩
theorem PthAt.kps {L : List Addr} {H H' : Hp} {v : V} {p : List Nat} (h : PthAt H v p) (k : Nd.Kps L H H') (hL : ∀ b ∈ L, ∃ xs, H b = some (.lst xs)) : PthAt H' v p := let ⟨r, h1, h2⟩ := h; ⟨r, h1, kps_tup k hL h2⟩
abbrev Pths (H : Hp) := All2 (PthAt H)
theorem Pths.same {H H' : Hp} {ws : List V} {ps : List (List Nat)} (h : Pths H ws ps) (k : Same H H') : Pths H' ws ps := h.imp fun _ _ x => x.same k
theorem Pths.upd {H : Hp} {ws : List V} {ps : List (List Nat)} (h : Pths H ws ps) {l : Addr} {xs ys : List V} (hl : H l = some (.lst xs)) : Pths (upd H l (.lst ys)) ws ps := h.imp fun _ _ x => x.upd hl
theorem Pths.kps {L : List Addr} {H H' : Hp} {ws : List V} {ps : List (List Nat)} (h : Pths H ws ps) (k : Nd.Kps L H H') (hL : ∀ b ∈ L, ∃ xs, H b = some (.lst xs)) : Pths H' ws ps := h.imp fun _ _ x => x.kps k hL
def pathD (p : List Nat) : Dt := .tup (p.map fun k => .int (k : Nat))
theorem PthAt.rp {H : Hp} {v : V} {p : List Nat} (h : PthAt H v p) (hz : p.length ≤ 1000) : Rp H v (pathD p) := by
  obtain ⟨r, rfl, e⟩ := h
  refine .tup e (by rw [List.length_map]; omega) (by rw [List.length_map, List.length_map]) fun i x d h1 h2 => ?_
  rw [List.getElem?_map] at h1 h2
  cases e : p[i]? with
  | none => rw [e] at h1; cases h1
  | some k =>
    rw [e] at h1 h2
    cases h1; cases h2
    exact .int _
theorem Pths.rp {H : Hp} {a : Addr} {ws : List V} {ps : List (List Nat)} (h : Pths H ws ps) (e : H a = some (.lst ws)) (hz : ps.length ≤ 1000) (hp : ∀ p ∈ ps, p.length ≤ 1000) : Rp H (.ref a) (.lst (ps.map pathD)) := by
  refine .lst e (by rw [h.1]; omega) (by rw [List.length_map, h.1]) fun i x d h1 h2 => ?_
  rw [List.getElem?_map] at h2
  cases e : ps[i]? with
  | none => rw [e] at h2; cases h2
  | some p =>
    rw [e] at h2
    cases h2
    exact (h.2 i x p h1 e).rp (hp p (List.mem_of_getElem? e))
def St2 (H : Hp) (v : V) (x : List Nat × V) : Prop := ∃ r pa, v = .ref r ∧ H r = some (.tup [.ref pa, x.2]) ∧ H pa = some (.tup (pathV x.1))
theorem St2.same {H H' : Hp} {v : V} {x : List Nat × V} (h : St2 H v x) (k : Same H H') : St2 H' v x := let ⟨r, pa, h1, h2, h3⟩ := h; ⟨r, pa, h1, k _ _ h2, k _ _ h3⟩
theorem St2.upd {H : Hp} {v : V} {x : List Nat × V} (h : St2 H v x) {l : Addr} {xs ys : List V} (hl : H l = some (.lst xs)) : St2 (upd H l (.lst ys)) v x := let ⟨r, pa, h1, h2, h3⟩ := h; ⟨r, pa, h1, keep_tup hl h2, keep_tup hl h3⟩
abbrev St2s (H : Hp) := All2 (St2 H)
theorem St2s.same {H H' : Hp} {ws : List V} {ps : List (List Nat × V)} (h : St2s H ws ps) (k : Same H H') : St2s H' ws ps := h.imp fun _ _ x => x.same k
theorem St2s.upd {H : Hp} {ws : List V} {ps : List (List Nat × V)} (h : St2s H ws ps) {l : Addr} {xs ys : List V} (hl : H l = some (.lst xs)) : St2s (upd H l (.lst ys)) ws ps := h.imp fun _ _ x => x.upd hl
def spWalked2 (k : Nat) : Sp := fun vs H Q _ => ∃ (a b : Addr) (N : Nd) (π : List Nat), vs = [.ref a, .ref b] ∧ H a = some (.lst (Nd.vals N)) ∧ Nd.Holds H N ∧ Nd.lv N + 1 ≤ k ∧ (Nd.tx N).length ≤ 1000 ∧ H b = some (.tup (pathV π)) ∧ π.length + Nd.lv N ≤ 1000 ∧
  ∀ (H' : Hp) (p : Addr) (ws : List V), H p = none → Same H H' → H' p = some (.lst ws) → St2s H' ws (Nd.wl N π 0) → Q (.ref p) H'
theorem wl_item {H : Hp} : ∀ {N : Nd} (_ : Nd.Holds H N) (π : List Nat) (k : Nat), ∀ x ∈ Nd.wl N π k, (∃ c, x.2 = sg c) ∨ ∃ t c a, x.2 = .ref t ∧ H t = some (.tup [sg c, .ref a])
  | .nil, _, _, _, x, h => by cases h
  | .lett c r, hN, π, k, x, h => by
    rcases List.mem_cons.mp h with e | h
    · subst e; exact .inl ⟨c, rfl⟩
    · exact wl_item (N := r) hN π (k + 1) x h
  | .br c t a n r, hN, π, k, x, h => by
    rcases List.mem_cons.mp h with e | h
    · subst e; exact .inr ⟨t, c, a, rfl, hN.1⟩
    · rcases List.mem_append.mp h with h | h
      · exact wl_item (N := n) hN.2.2.1 (π ++ [k]) 0 x h
      · exact wl_item (N := r) hN.2.2.2 π (k + 1) x h
def spPaths (T : Addr) : Sp := fun vs H Q _ => ∃ (a : Addr) (s : List Nat) (N : Nd), vs = [.ref a] ∧ Nd.Nst H a 60 s N ∧ s.length ≤ 120 ∧ Tb T H ∧ ∀ (H' : Hp) (p : Addr) (ws : List V), H p = none → Same H H' → H' p = some (.lst ws) → Pths H' ws ((Nd.pb N [] 0).map (·.1)) → Q (.ref p) H'
def spDepth (T : Addr) : Sp := fun vs H Q _ => ∃ (a : Addr) (s : List Nat) (N : Nd), vs = [.ref a] ∧ Nd.Nst H a 60 s N ∧ s.length ≤ 120 ∧ Tb T H ∧ ∀ H' : Hp, Same H H' → Q (.int (Nd.bd N : Nat)) H'
def spCopied (k : Nat) : Sp := fun vs H Q _ => ∃ (a : Addr) (N : Nd), vs = [.ref a] ∧ H a = some (.lst (Nd.vals N)) ∧ Nd.Holds H N ∧ Nd.WF N ∧ Nd.lv N + 1 ≤ k ∧ (Nd.tx N).length ≤ 1000 ∧
  ∀ (H' : Hp) (p : Addr) (M : Nd), Nd.At H' p M → (∀ b ∈ p :: Nd.lists M, H b = none) → Same H H' → Nd.tx M = Nd.tx N → Nd.WF M → Q (.ref p) H'
def spWhole : Sp := fun vs H Q _ => ∃ i : Int, vs = [.int i] ∧ Q (.bl true) H
def spTupAt : Sp := fun vs H Q _ => ∃ (a : Addr) (N : Nd) (j c : Nat) (t b : Addr) (n : Nd), vs = [.ref a, .int (j : Nat)] ∧ H a = some (.lst (Nd.vals N)) ∧ Nd.itm1 N j c t b n ∧ H t = some (.tup [sg c, .ref b]) ∧ (Nd.vals N).length ≤ 1000 ∧ Q (.ref t) H
def spAtPath (T : Addr) : Sp := fun vs H Q _ => ∃ (a pa : Addr) (s : List Nat) (N : Nd) (p : List Nat) (c : Nat) (n : Nd), vs = [.ref a, .ref pa] ∧ Nd.Nst H a 60 s N ∧ s.length ≤ 120 ∧ Tb T H ∧ H pa = some (.tup (pathV p)) ∧ (p, c, n) ∈ Nd.pb N [] 0 ∧
  ∀ (H' : Hp) (r q : Addr) (M : Nd), H r = none → H' r = some (.tup [sg c, .ref q]) → Nd.At H' q M → (∀ b ∈ q :: Nd.lists M, H b = none) → Same H H' → Nd.tx M = Nd.tx n → Nd.WF M → Q (.ref r) H'
theorem Nd.itm1.get {N n : Nd} {j c : Nat} {t a : Addr} (h : Nd.itm1 N j c t a n) : (Nd.vals N)[j]? = some (.ref t) ∧ j < (Nd.vals N).length := by
  obtain ⟨N1, r, rfl, rfl⟩ := h
  constructor
  · rw [Nd.vals_app, List.getElem?_append_right (Nat.le_refl _), Nat.sub_self]; rfl
  · rw [Nd.vals_app, List.length_append]; show _ < _ + ((Nd.vals r).length + 1); omega
theorem Nd.itm1.holds {H : Hp} {N n : Nd} {j c : Nat} {t a : Addr} (h : Nd.itm1 N j c t a n) (hN : Nd.Holds H N) (w : Nd.WF N) : H t = some (.tup [sg c, .ref a]) ∧ H a = some (.lst (Nd.vals n)) ∧ Nd.Holds H n ∧ Nd.WF n ∧ (Nd.tx n).length ≤ (Nd.tx N).length ∧ Nd.lv n + 1 ≤ Nd.lv N := by
  obtain ⟨N1, r, e, _⟩ := h
  have wi : WI N N1 (.br c t a n r) := ⟨e.symm⟩
  obtain ⟨b1, b2, b3, b4, b5, b6⟩ := wi.br hN
  rw [e] at w
  have w2 := ((Nd.wf_app _ _).mp w).2
  exact ⟨b1, b2, b3, w2.2.1, b5, b4⟩
end N1
set_option Elab.async false
set_option linter.all false
set_option maxRecDepth 100000
set_option maxHeartbeats 4000000
namespace G
open PySem PySem.Spec PyProof.Rows L2 N1
def top (i : Nat) : Stmt := PySem.Challenge.pw_nestmend_k12_whole_nests_put_together.main.body.getD i (.Pass ⟨0, 0, 0, 0⟩)
def Pot (H : Hp) (p : Addr) : Prop := ∃ a c k : Int, 0 ≤ a ∧ 0 ≤ k ∧ H p = some (.lst [.int a, .int c, .int k])
theorem Pot.kp {H H' : Hp} {p q : Addr} (h : Pot H p) (k : Kp q H H') (n : p ≠ q) : Pot H' p := let ⟨a, c, m, h1, h2, e⟩ := h; ⟨a, c, m, h1, h2, k p _ n e⟩
section
variable {P : Program} {w : World} {K : PySem.W.Frag} {mg : Str → Option Value} {base : Heap} {f : Addr} {fd : FuncData}
def spMixed : Sp := fun vs H Q _ => ∃ c k : Int, vs = [.int c, .int k] ∧ ∀ r : Int, Q (.int r) H
theorem ok_mixed {n : Nat} (F : Fun K "_law_mixed" "_law_mixed" (top 36) f fd) : FnOk P w K mg base CX0 (n + 1) f fd ["cell", "k"] spMixed := by
  have sc : FnScope ["cell", "k", "number"] ["cell", "k"] (defScope (top 36)) := ⟨rfl, rfl, rfl, by decide +kernel, rfl, by decide +kernel, by decide +kernel⟩
  refine F.ok sc (fun vs H Q E h => ?_) (fun cdv A outer s H vs Q E hr h => ?_)
  · obtain ⟨c, k, rfl, _⟩ := h
    rfl
  obtain ⟨c, k, rfl, q⟩ := h
  refine ⟨_, (pss_cons (ps_set (i := 2) sc.nd rfl (Or.inl rfl) (pe_op opMod (pe_op opMul (pe_op opAdd (pe_op opAdd (pe_op opMod (pn 0) pe_int) (pe_op opMul pe_int (pn 1))) pe_int) pe_int) pe_int)) (pss_cons (ps_set (i := 2) sc.nd rfl (Or.inl rfl) (pe_op opMod (pe_op opMul (pn 2) (pn 2)) pe_int)) (pss_one (ps_ret (pe_op opFdiv (pe_op opMod (pe_op opMul (pe_op opAdd (pn 2) (pe_op opMul pe_int (pe_op opAdd (pn 1) pe_int))) pe_int) pe_int) pe_int))))), ?_⟩
  have h0 := Int.emod_nonneg ((c % 2147483647 + 7919 * k + 1) * 48271) (show (2147483647 : Int) ≠ 0 by decide)
  have h1 := Int.emod_lt_of_pos ((c % 2147483647 + 7919 * k + 1) * 48271) (show (0 : Int) < 2147483647 by decide)
  refine ⟨(show (0 : Int) < 2147483647 by decide), mulW_l (by decide) (by decide), mulW_r (by decide) (by decide), (show (0 : Int) < 2147483647 by decide), ?_⟩
  refine ⟨mulW_l (show -(2 ^ 64) < (c % 2147483647 + 7919 * k + 1) * 48271 % 2147483647 by omega) (show (c % 2147483647 + 7919 * k + 1) * 48271 % 2147483647 < 2 ^ 64 by omega), (show (0 : Int) < 2147483629 by decide), ?_⟩
  refine ⟨mulW_l (by decide) (by decide), mulW_r (by decide) (by decide), (show (0 : Int) < 2147483579 by decide), ⟨by decide, by decide⟩, ?_⟩
  exact q _
def spTake : Sp := fun vs H Q _ => ∃ (p : Addr) (m : Int), vs = [.ref p, .int m] ∧ 0 < m ∧ m < 1000000 ∧ Pot H p ∧ ∀ (t : Int) (H' : Hp), 0 ≤ t → t < m → Kp p H H' → Pot H' p → Q (.int t) H'
theorem ok_take {n : Nat} (F : Fun K "_law_take" "_law_take" (top 38) f fd) (c__law_mixed : Cal P w K mg base n "_law_mixed" ["cell", "k"] spMixed) : FnOk P w K mg base CX0 (n + 1) f fd ["pot", "many"] spTake := by
  have sc : FnScope ["pot", "many", "told"] ["pot", "many"] (defScope (top 38)) := ⟨rfl, rfl, rfl, by decide +kernel, rfl, by decide +kernel, by decide +kernel⟩
  refine F.ok sc (fun vs H Q E h => ?_) (fun cdv A outer s H vs Q E hr h => ?_)
  · obtain ⟨p, m, rfl, _⟩ := h
    rfl
  obtain ⟨p, m, rfl, m0, m1, ⟨a, c, k, a0, k0, hp⟩, q⟩ := h
  refine ⟨_, (pss_cons (ps_asg (pe_op opAdd (pe_ix ixC (pn 0) pe_int (fun _ _ => rfl)) pe_int) (pg_sub (pn 0) pe_int set_list)) (pss_cons (ps_if (pcmp opGt (pe_ix ixC (pn 0) pe_int (fun _ _ => rfl)) pe_int (nomark _)) (pss_cons (ps_set (i := 2) sc.nd rfl (Or.inl rfl) (pe_op opMod (pe_ix ixC (pn 0) pe_int (fun _ _ => rfl)) (pn 1))) (pss_cons (ps_asg (pe_op opFdiv (pe_ix ixC (pn 0) pe_int (fun _ _ => rfl)) (pn 1)) (pg_sub (pn 0) pe_int set_list)) (pss_one (ps_ret (pn 2))))) pss_nil) (pss_one (ps_ret (pe_op opMod (pcall c__law_mixed hr rfl (pa_cons (pe_ix ixC (pn 0) pe_int (fun _ _ => rfl)) (pa_cons (pe_ix ixC (pn 0) pe_int (fun _ _ => rfl)) pa_nil))) (pn 1)))))), ?_⟩
  refine ⟨_, _, .inl (SqL.of hp), rfl, ?_⟩
  refine ⟨p, _, _, 2, rfl, rfl, hp, rfl, ?_⟩
  have e1 : (upd H p (.lst [.int a, .int c, .int (k + 1)])) p = some (.lst [.int a, .int c, .int (k + 1)]) := upd_same
  refine ⟨_, _, .inl (SqL.of e1), rfl, ?_⟩
  refine ite2 (fun c1 => ?_) (fun c1 => ?_)
  · refine ⟨_, _, .inl (SqL.of e1), rfl, m0, ?_⟩
    refine ⟨_, _, .inl (SqL.of e1), rfl, ⟨m0, ?_⟩, ?_⟩
    · show m < 1073741824
      omega
    refine ⟨p, _, _, 0, rfl, rfl, e1, rfl, ?_⟩
    refine q _ _ (Int.emod_nonneg a (by omega)) (Int.emod_lt_of_pos a m0) ((Kp.set _).at _) ?_
    exact ⟨_, _, _, Int.ediv_nonneg a0 (by omega), by omega, upd_same⟩
  · refine ⟨_, _, .inl (SqL.of e1), rfl, ?_⟩
    refine ⟨_, _, .inl (SqL.of e1), rfl, ?_⟩
    refine ⟨c, k + 1, rfl, fun r => ?_⟩
    refine ⟨m0, ?_⟩
    exact q _ _ (Int.emod_nonneg r (by omega)) (Int.emod_lt_of_pos r m0) (Kp.set _) ⟨a, c, k + 1, a0, by omega, e1⟩
def spPot : Sp := fun vs H Q _ => ∃ c : Int, vs = [.int c] ∧ ∀ (p : Addr) (H' : Hp), H p = none → Same H H' → Pot H' p → Q (.ref p) H'
theorem ok_pot {n : Nat} (F : Fun K "_law_pot" "_law_pot" (top 37) f fd) (b_int : mg "int" = none) : FnOk P w K mg base CX0 (n + 1) f fd ["cell"] spPot := by
  have sc : FnScope ["cell"] ["cell"] (defScope (top 37)) := ⟨rfl, rfl, rfl, by decide +kernel, rfl, by decide +kernel, by decide +kernel⟩
  refine F.ok sc (fun vs H Q E h => ?_) (fun cdv A outer s H vs Q E hr h => ?_)
  · obtain ⟨c, rfl, _⟩ := h
    rfl
  obtain ⟨c, rfl, q⟩ := h
  refine ⟨_, (pss_one (ps_ret (pe_lst (pa_cons (pe_op opMul (pe_op opMod (pn 0) (pe_op opMul (pe_op opMul (pe_op opMul (pe_op opPow pe_int pe_int) (pe_op opPow pe_int pe_int)) (pe_op opPow pe_int pe_int)) (pe_op opPow pe_int pe_int))) (pe_callTy cInt rfl b_int (by decide +kernel) (pa_cons (pe_cmpR opGe (pn 0) (pe_op opPow pe_int pe_int) (nomark _)) pa_nil))) (pa_cons (pn 0) (pa_cons pe_int pa_nil)))))), ?_⟩
  refine ⟨⟨by decide, by decide, by decide⟩, ⟨by decide, by decide, by decide⟩, IntMulOk.of_bits (by decide +kernel) (by decide +kernel), ?_⟩
  refine ⟨⟨by decide, by decide, by decide⟩, IntMulOk.of_bits (by decide +kernel) (by decide +kernel), ?_⟩
  refine ⟨⟨by decide, by decide, by decide⟩, IntMulOk.of_bits (by decide +kernel) (by decide +kernel), ?_⟩
  refine ⟨(show (0 : Int) < 10 ^ 50 * 10 ^ 50 * 10 ^ 50 * 10 ^ 50 by decide +kernel), ⟨by decide, by decide, by decide⟩, ?_⟩
  refine ⟨mulW_r ?_ ?_, (by show 3 ≤ sizeLine; decide), fun p hp => ?_⟩
  · split <;> decide
  · split <;> decide
  refine q p _ hp (same_new hp _) ⟨_, c, 0, ?_, by decide, upd_same⟩
  refine Int.mul_nonneg (Int.emod_nonneg _ (by decide +kernel)) ?_
  split <;> decide
theorem Pot.ne {H : Hp} {p q : Addr} (h : Pot H p) (n : H q = none) : p ≠ q := let ⟨_, _, _, _, _, e⟩ := h; ne_of_none e n
theorem Pot.new {H : Hp} {p q : Addr} (h : Pot H p) (n : H q = none) (o : HO) : Pot (upd H q o) p := h.kp (Kp.of_same (same_new n o)) (h.ne n)
theorem Pot.set {H : Hp} {p q : Addr} (h : Pot H p) (n : p ≠ q) (o : HO) : Pot (upd H q o) p := h.kp (Kp.set o) n
def spClean : Sp := fun vs H Q _ => ∃ (p : Addr) (m : Int), vs = [.ref p, .int m] ∧ 0 ≤ m ∧ m ≤ 1000 ∧ Pot H p ∧ ∀ (l : List Nat) (H' : Hp), Clean l → Sgs l → (l.length : Int) ≤ m → Kp p H H' → Pot H' p → Q (.str (S l)) H'
theorem ok_clean {n : Nat} (F : Fun K "_law_clean" "_law_clean" (top 40) f fd) (c__law_take : Cal P w K mg base n "_law_take" ["pot", "many"] spTake) : FnOk P w K mg base CX0 (n + 1) f fd ["pot", "most"] spClean := by
  have sc : FnScope ["pot", "most", "text", "waiting", "shape", "left", "way", "k"] ["pot", "most"] (defScope (top 40)) := ⟨rfl, rfl, rfl, by decide +kernel, rfl, by decide +kernel, by decide +kernel⟩
  refine F.ok sc (fun vs H Q E h => ?_) (fun cdv A outer s H vs Q E hr h => ?_)
  · obtain ⟨p, m, rfl, _⟩ := h
    rfl
  obtain ⟨p, m, rfl, m0, m1, hP, q⟩ := h
  refine ⟨_, (pss_cons (ps_set (i := 2) sc.nd rfl (Or.inl rfl) pe_str) (pss_cons (ps_set (i := 3) sc.nd rfl (Or.inl rfl) (pe_lst pa_nil)) (pss_cons (ps_set (i := 4) sc.nd rfl (Or.inl rfl) (pe_lst (pa_cons (pe_op opAdd pe_int (pcall c__law_take hr rfl (pa_cons (pn 0) (pa_cons pe_int pa_nil)))) (pa_cons (pe_op opAdd pe_int (pcall c__law_take hr rfl (pa_cons (pn 0) (pa_cons pe_int pa_nil)))) pa_nil)))) (pss_cons (ps_set (i := 5) sc.nd rfl (Or.inl rfl) (pn 1)) (pss_cons (ps_while PassesOwn.never (pcmp opGt (pn 5) pe_int (nomark _)) (pss_cons (ps_set (i := 6) sc.nd rfl (Or.inl rfl) (pcall c__law_take hr rfl (pa_cons (pn 0) (pa_cons (pe_op opAdd (pe_op opAdd pe_int (pe_ix ixC (pn 4) pe_int (fun _ _ => rfl))) (pe_ix ixC (pn 4) pe_int (fun _ _ => rfl))) pa_nil)))) (pss_one (ps_if (pcmp (opEq hr.units) (pn 6) pe_int (nomark _)) (pss_cons (ps_set (i := 2) sc.nd rfl (Or.inl rfl) (pe_op opAdd (pn 2) (pe_ix ixC pe_str (pcall c__law_take hr rfl (pa_cons (pn 0) (pa_cons pe_int pa_nil))) (fun _ _ => rfl)))) (pss_one (ps_set (i := 5) sc.nd rfl (Or.inl rfl) (pe_op opSub (pn 5) pe_int)))) (pss_one (ps_if (PW.pt (pw_and (pcmp opLe (pn 6) (pe_ix ixC (pn 4) pe_int (fun _ _ => rfl)) (nomark _)) (pw_and1 (pcmp opGt (pn 5) pe_int (nomark _))))) (pss_cons (ps_set (i := 7) sc.nd rfl (Or.inl rfl) (pcall c__law_take hr rfl (pa_cons (pn 0) (pa_cons pe_int pa_nil)))) (pss_cons (ps_set (i := 2) sc.nd rfl (Or.inl rfl) (pe_op opAdd (pn 2) (pe_ix ixC pe_str (pn 7) (fun _ _ => rfl)))) (pss_cons (ps_expr (pappend (pn 3) (pe_ix ixC pe_str (pn 7) (fun _ _ => rfl)))) (pss_one (ps_set (i := 5) sc.nd rfl (Or.inl rfl) (pe_op opSub (pn 5) pe_int)))))) (pss_one (ps_if (pcmp (opNe hr.units) (pn 3) (pe_lst pa_nil) (nomark _)) (pss_one (ps_set (i := 2) sc.nd rfl (Or.inl rfl) (pe_op opAdd (pn 2) (ppop (pn 3))))) (pss_one (ps_set (i := 5) sc.nd rfl (Or.inl rfl) (pe_op opSub (pn 5) pe_int))))))))))) (pss_one (ps_ret (pe_op opAdd (pn 2) (pjoin pe_str (prev (pn 3))))))))))), ?_⟩
  refine ⟨(by show 0 ≤ sizeLine; decide), fun a ha => ?_⟩
  have pa : p ≠ a := hP.ne ha
  have P1 := hP.new ha (.lst [])
  refine ⟨p, 4, rfl, by decide, by decide, P1, fun t1 H2 t10 t11 k2 P2 => ?_⟩
  refine ⟨p, 3, rfl, by decide, by decide, P2, fun t2 H3 t20 t21 k3 P3 => ?_⟩
  refine ⟨(by show 2 ≤ sizeLine; decide), fun b hb => ?_⟩
  have pb : p ≠ b := P3.ne hb
  have k23 := k2.trans k3
  have a3 : H3 a = some (.lst []) := k23 a _ (Ne.symm pa) upd_same
  have ab : a ≠ b := ne_of_none a3 hb
  refine while_w (fun μ σ H' => ∃ (l w : List Nat) (left : Int) (wv kv : Option V), σ = [some (.ref p), some (.int m), some (.str (S l)), some (.ref a), some (.ref b), some (.int left), wv, kv] ∧
    μ = 2 * left.toNat + w.length ∧ 0 ≤ left ∧ (l.length : Int) + w.length + left ≤ m ∧ runB [] l = some w ∧ (∀ c ∈ w, isCl c = true) ∧ Sgs l ∧
    Kp p H H' ∧ Pot H' p ∧ H' a = some (.lst (w.reverse.map sg)) ∧ H' b = some (.lst [.int (1 + t1), .int (1 + t2)])) (2 * m.toNat) ?_ ?_
  · refine ⟨[], [], m, none, none, ?_, by simp, m0, by simp, rfl, (fun c h => by cases h), (fun c h => by cases h), ?_, P3.new hb _, ?_, upd_same⟩
    · show List.set _ _ _ = _
      have : S ([] : List Nat) = Str.ofString "" := by rw [← S_Lc (Str.ofString ""), nil0]
      rw [this]
      rfl
    · exact ((Kp.of_same (same_new ha _)).trans k23).new hb _
    · rw [upd_ne ab]; exact a3
  rintro μ σ H' ⟨l, w', left, wv, kv, rfl, rfl, l0, hlen, hrun, hw, hl, hk, hP', ea, eb⟩
  refine ite2 (fun c1 => ?_) (fun c1 => ?_)
  · have c1 : 0 < left := dT c1
    refine turn_w ?_
    refine ⟨_, _, .inl (SqL.of eb), rfl, ?_⟩
    refine ⟨_, _, .inl (SqL.of eb), rfl, ?_⟩
    refine ⟨p, _, rfl, (show 0 < 2 + (1 + t1) + (1 + t2) by omega), (show 2 + (1 + t1) + (1 + t2) < 1000000 by omega), hP', fun way H4 w0 w1 k4 P4 => ?_⟩
    have ea4 := k4 a _ (Ne.symm pa) ea
    have eb4 := k4 b _ (Ne.symm pb) eb
    refine ite2 (fun c2 => ?_) (fun c2 => ?_)
    · refine ⟨p, 26, rfl, by decide, by decide, P4, fun u H5 u0 u1 k5 P5 => ?_⟩
      obtain ⟨c, hc, hm, _⟩ := lit_at (x := Str.ofString "abcdefghijklmnopqrstuvwxyz") (n := 26) (by decide +kernel) u0 u1
      have hcl : isLt c = true := List.all_eq_true.mp sg_abc c hm
      refine ⟨(show abc.length ≤ 1000000 by rw [len_abc]; decide), c, hc, (show l.length + 1 ≤ 1000000 by omega), ?_⟩
      refine ⟨2 * (left - 1).toNat + w'.length, by omega, l ++ [c], w', left - 1, _, _, rfl, rfl, by omega, ?_, ?_, hw, hl.app (Sgs.one (sg_of_lt hcl)), hk.trans (k4.trans k5), P5, k5 a _ (Ne.symm pa) ea4, k5 b _ (Ne.symm pb) eb4⟩
      · rw [List.length_append, List.length_singleton]; omega
      · rw [run_snoc hrun]; exact run_lt hcl
    · refine ⟨_, _, .inl (SqL.of eb4), rfl, ?_⟩
      refine and2 (fun c3 c4 => ?_) (fun c3 => ?_)
      · have c4 : 1 < left := dT c4
        refine ⟨p, 4, rfl, by decide, by decide, P4, fun u H5 u0 u1 k5 P5 => ?_⟩
        obtain ⟨c, hc, h1, h2⟩ := kinds u0 u1
        refine ⟨(show ops.length ≤ 1000000 by decide +kernel), c, h1, (show l.length + 1 ≤ 1000000 by omega), ?_⟩
        have ea5 := k5 a _ (Ne.symm pa) ea4
        refine ⟨⟨_, ea5⟩, (show cls.length ≤ 1000000 by decide +kernel), oth c, h2, _, ea5, ?_, ?_⟩
        · rw [List.length_map, List.length_reverse]; omega
        refine ⟨2 * (left - 2).toNat + (oth c :: w').length, by rw [List.length_cons]; omega, l ++ [c], oth c :: w', left - 2, _, _, rfl, rfl, by omega, ?_, ?_, ?_, hl.app (Sgs.one (sg_of_op hc)), ?_, ?_, ?_, ?_⟩
        · rw [List.length_append, List.length_singleton, List.length_cons]; omega
        · rw [run_snoc hrun]; exact run_op hc
        · intro d hd
          rcases List.mem_cons.mp hd with rfl | hd
          · exact (oth_op hc).1
          · exact hw d hd
        · intro b' o n hb'
          have na : b' ≠ a := ne_of_none hb' ha
          rw [upd_ne na]
          exact (hk.trans (k4.trans k5)) b' o n hb'
        · exact P5.set pa _
        · rw [upd_same, List.reverse_cons, List.map_append]; rfl
        · rw [upd_ne (Ne.symm ab)]; exact k5 b _ (Ne.symm pb) eb4
      · refine ⟨(by show 0 ≤ sizeLine; decide), fun e he => ?_⟩
        have ae : a ≠ e := ne_of_none ea4 he
        have be : b ≠ e := ne_of_none eb4 he
        have ea5 : (upd H4 e (.lst [])) a = some (.lst (w'.reverse.map sg)) := by rw [upd_ne ae]; exact ea4
        have eb5 : (upd H4 e (.lst [])) b = some (.lst [.int (1 + t1), .int (1 + t2)]) := by rw [upd_ne be]; exact eb4
        refine ne_empty (fun c hc => sg_small (sg_of_cl (hw c (List.mem_reverse.mp hc)))) ea5 upd_same ?_
        refine ite2 (fun c4 => ?_) (fun c4 => ?_)
        · cases w' with
          | nil => exact absurd c4 (by decide)
          | cons c w'' =>
            have hc := hw c List.mem_cons_self
            refine ⟨_, ea5, w''.reverse.map sg, sg c, by rw [List.reverse_cons, List.map_append]; rfl, (show l.length + 1 ≤ 1000000 by omega), ?_⟩
            rw [List.length_cons] at hlen
            refine ⟨2 * left.toNat + w''.length, by rw [List.length_cons]; omega, l ++ [c], w'', left, _, _, rfl, rfl, by omega, ?_, ?_, (fun d hd => hw d (List.mem_cons_of_mem _ hd)), hl.app (Sgs.one (sg_of_cl hc)), ?_, ?_, upd_same, ?_⟩
            · rw [List.length_append, List.length_singleton]; omega
            · rw [run_snoc hrun]; exact run_cl hc
            · intro b' o n hb'
              have na : b' ≠ a := ne_of_none hb' ha
              rw [upd_ne na]
              exact ((hk.trans k4).new he _) b' o n hb'
            · exact (P4.new he _).set pa _
            · rw [upd_ne (Ne.symm ab)]; exact eb5
        · refine ⟨2 * (left - 1).toNat + w'.length, by omega, l, w', left - 1, _, _, rfl, rfl, by omega, by omega, hrun, hw, hl, (hk.trans k4).new he _, P4.new he _, ea5, eb5⟩
  · refine ⟨_, SqL.of ea, fun r hr' => ?_⟩
    have er : (upd H' r (.lst (w'.reverse.map sg).reverse)) r = some (.lst ((w'.map fun c => [c]).map fun l => V.str (S l))) := by
      rw [upd_same, map_sg, ← List.map_reverse, List.reverse_reverse]
    refine ⟨_, .inl (SqL.of er), ?_, ?_, ?_⟩
    · rw [flat_one, nil0]
      simp only [List.length_nil, Nat.mul_zero, Nat.add_zero]
      omega
    · rw [nil0, joinL_nil, flat_one]
      show l.length + w'.length ≤ 1000000
      omega
    · rw [nil0, joinL_nil, flat_one]
      refine q (l ++ w') _ ?_ (hl.app fun c hc => sg_of_cl (hw c hc)) ?_ (hk.new hr' _) (hP'.new hr' _)
      · unfold Clean
        rw [runB_app, hrun]
        exact runB_closers w' hw
      · rw [List.length_append]; omega
def spLong : Sp := fun vs H Q _ => ∃ (p : Addr) (k : Int), vs = [.ref p, .int k] ∧ Pot H p ∧ ∀ (t : Int) (H' : Hp), 0 ≤ t → t ≤ 120 → Kp p H H' → Pot H' p → Q (.int t) H'
theorem ok_long {n : Nat} (F : Fun K "_law_long" "_law_long" (top 42) f fd) (c__law_take : Cal P w K mg base n "_law_take" ["pot", "many"] spTake) : FnOk P w K mg base CX0 (n + 1) f fd ["pot", "k"] spLong := by
  have sc : FnScope ["pot", "k"] ["pot", "k"] (defScope (top 42)) := ⟨rfl, rfl, rfl, by decide +kernel, rfl, by decide +kernel, by decide +kernel⟩
  refine F.ok sc (fun vs H Q E h => ?_) (fun cdv A outer s H vs Q E hr h => ?_)
  · obtain ⟨p, k, rfl, _⟩ := h
    rfl
  obtain ⟨p, k, rfl, hP, q⟩ := h
  refine ⟨_, (pss_cons (ps_if (PW.pt (pw_and (pcmp (opEq hr.units) (pn 1) pe_int (nomark _)) (pw_and1 (pcmp (opEq hr.units) (pcall c__law_take hr rfl (pa_cons (pn 0) (pa_cons pe_int pa_nil))) pe_int (nomark _))))) (pss_one (ps_ret (pe_op opSub pe_int (pe_op opMul (pcall c__law_take hr rfl (pa_cons (pn 0) (pa_cons pe_int pa_nil))) (pcall c__law_take hr rfl (pa_cons (pn 0) (pa_cons pe_int pa_nil))))))) pss_nil) (pss_one (ps_ret (pcall c__law_take hr rfl (pa_cons (pn 0) (pa_cons (pe_ix ixC (pe_lst (pa_cons pe_int (pa_cons pe_int (pa_cons pe_int pa_nil)))) (pcall c__law_take hr rfl (pa_cons (pn 0) (pa_cons pe_int pa_nil))) (fun _ _ => rfl)) pa_nil)))))), ?_⟩
  refine ite2 (fun c1 => ?_) (fun c1 => ?_)
  · refine ⟨p, 8, rfl, by decide, by decide, hP, fun t H1 t0 t1 k1 P1 => ?_⟩
    refine ite2 (fun c2 => ?_) (fun c2 => ?_)
    · refine ⟨p, 2, rfl, by decide, by decide, P1, fun u H2 u0 u1 k2 P2 => ?_⟩
      refine ⟨p, 90, rfl, by decide, by decide, P2, fun v H3 v0 v1 k3 P3 => ?_⟩
      refine ⟨mulW_l (by omega) (by omega), ?_⟩
      have : u = 0 ∨ u = 1 := by omega
      rcases this with rfl | rfl
      · exact q _ _ (by omega) (by omega) (k1.trans (k2.trans k3)) P3
      · exact q _ _ (by omega) (by omega) (k1.trans (k2.trans k3)) P3
    · refine ⟨(by show 3 ≤ sizeLine; decide), fun r hr' => ?_⟩
      refine ⟨p, 3, rfl, by decide, by decide, P1.new hr' _, fun u H2 u0 u1 k2 P2 => ?_⟩
      have er := k2 r _ (Ne.symm (P1.ne hr')) upd_same
      have : u = 0 ∨ u = 1 ∨ u = 2 := by omega
      rcases this with rfl | rfl | rfl
      · exact ⟨_, _, .inl (SqL.of er), rfl, p, 6, rfl, by decide, by decide, P2, fun v H3 v0 v1 k3 P3 => q _ _ v0 (by omega) ((k1.new hr' _).trans (k2.trans k3)) P3⟩
      · exact ⟨_, _, .inl (SqL.of er), rfl, p, 14, rfl, by decide, by decide, P2, fun v H3 v0 v1 k3 P3 => q _ _ v0 (by omega) ((k1.new hr' _).trans (k2.trans k3)) P3⟩
      · exact ⟨_, _, .inl (SqL.of er), rfl, p, 30, rfl, by decide, by decide, P2, fun v H3 v0 v1 k3 P3 => q _ _ v0 (by omega) ((k1.new hr' _).trans (k2.trans k3)) P3⟩
  · refine iteF ?_
    refine ⟨(by show 3 ≤ sizeLine; decide), fun r hr' => ?_⟩
    refine ⟨p, 3, rfl, by decide, by decide, hP.new hr' _, fun u H2 u0 u1 k2 P2 => ?_⟩
    have er := k2 r _ (Ne.symm (hP.ne hr')) upd_same
    have k1 : Kp p H (upd H r (.lst [.int 6, .int 14, .int 30])) := Kp.of_same (same_new hr' _)
    have : u = 0 ∨ u = 1 ∨ u = 2 := by omega
    rcases this with rfl | rfl | rfl
    · exact ⟨_, _, .inl (SqL.of er), rfl, p, 6, rfl, by decide, by decide, P2, fun v H3 v0 v1 k3 P3 => q _ _ v0 (by omega) (k1.trans (k2.trans k3)) P3⟩
    · exact ⟨_, _, .inl (SqL.of er), rfl, p, 14, rfl, by decide, by decide, P2, fun v H3 v0 v1 k3 P3 => q _ _ v0 (by omega) (k1.trans (k2.trans k3)) P3⟩
    · exact ⟨_, _, .inl (SqL.of er), rfl, p, 30, rfl, by decide, by decide, P2, fun v H3 v0 v1 k3 P3 => q _ _ v0 (by omega) (k1.trans (k2.trans k3)) P3⟩
end
end G
set_option Elab.async false
set_option linter.all false
set_option maxRecDepth 100000
set_option maxHeartbeats 4000000
namespace G
open PySem PySem.Spec PyProof.Rows L2 N1
section
variable {P : Program} {w : World} {K : PySem.W.Frag} {mg : Str → Option Value} {base : Heap} {f : Addr} {fd : FuncData}
def spPartners : Sp := fun vs H Q _ => ∃ l : List Nat, vs = [.str (S l)] ∧ Sgs l ∧ l.length ≤ 1000 ∧ ∀ (r : Addr) (H' : Hp) (arr : List (Option Nat)), H r = none → Same H H' → H' r = some (.lst (arr.map vO)) → Mates l arr → Q (.ref r) H'
theorem ok_partners {n : Nat} {tO : Addr} (F : Fun K "partners" "partners" (top 11) f fd) (b_enumerate : mg "enumerate" = none) (b_len : mg "len" = none) (g_OPENING : ∃ t, mg "OPENING" = some (.str (S ops) t)) (g_CLOSING : ∃ t, mg "CLOSING" = some (.str (S cls) t))
    (g_OTHER : mg "OTHER" = some (.ref tO)) (t_OTHER : TabK K w.params tO othT) : FnOk P w K mg base CX0 (n + 1) f fd ["text"] spPartners := by
  have sc : FnScope ["text", "told", "waiting", "place", "sign", "begin"] ["text"] (defScope (top 11)) := ⟨rfl, rfl, rfl, by decide +kernel, rfl, by decide +kernel, by decide +kernel⟩
  refine F.ok sc (fun vs H Q E h => ?_) (fun cdv A outer s H vs Q E hr h => ?_)
  · obtain ⟨l, rfl, _⟩ := h
    rfl
  obtain ⟨l, rfl, hl, hz, q⟩ := h
  refine ⟨_, (pss_cons (ps_set (i := 1) sc.nd rfl (Or.inl rfl) (pe_op opMul (pe_lst (pa_cons pe_non pa_nil)) (pe_callB cLen rfl b_len (by decide +kernel) (pa_cons (pn 0) pa_nil)))) (pss_cons (ps_set (i := 2) sc.nd rfl (Or.inl rfl) (pe_lst pa_nil)) (pss_cons (ps_for PassesOwn.never rfl (pi_enumS rfl b_enumerate (pa_cons (pn 0) pa_nil)) (pg_pair (i := 3) (j := 4) sc.nd rfl (Or.inl rfl) rfl (Or.inl rfl) rfl) (pss_one (ps_if (pcmp opIn (pn 4) (pgs g_OPENING rfl) rfl) (pss_one (ps_expr (pappend (pn 2) (pn 3)))) (pss_one (ps_if (pcmp opIn (pn 4) (pgs g_CLOSING rfl) rfl) (pss_one (ps_if (PW.pt (pw_and (ptru (pn 2)) (pw_and1 (pcmp (opEq hr.units) (pe_ix ixC (pn 0) (pe_ix ixC (pn 2) (pe_un unNeg pe_int) (fun _ _ => rfl)) (fun _ _ => rfl)) (ptab t_OTHER rfl g_OTHER (pn 4)) (nomark _))))) (pss_cons (ps_set (i := 5) sc.nd rfl (Or.inl rfl) (ppop (pn 2))) (pss_cons (ps_asg (pn 3) (pg_sub (pn 1) (pn 5) set_list)) (pss_one (ps_asg (pn 5) (pg_sub (pn 1) (pn 3) set_list))))) (pss_one (ps_expr (pclear (pn 2)))))) pss_nil))))) (pss_one (ps_ret (pn 1)))))), ?_⟩
  have lM : (Lc (S l)).length ≤ 1000000 := by show l.length ≤ 1000000; omega
  refine ⟨(by show 1 ≤ sizeLine; decide), fun t0 h0 => ?_⟩
  refine ⟨lM, _, upd_same, ⟨(show (l.length : Int) < 1000000 by omega), (show -1000000 < (l.length : Int) by omega), (show 1 * ((l.length : Int)).toNat ≤ 1000000 by omega)⟩, fun tr htr => ?_⟩
  have S1 : Same H (upd (upd H t0 (.lst [.non])) tr (.lst (List.replicate ((l.length : Int)).toNat [V.non]).flatten)) := (same_new h0 _).trans (same_new htr _)
  have htr0 : H tr = none := (same_new h0 _).free htr
  refine ⟨(by show 0 ≤ sizeLine; decide), fun wr hwr => ?_⟩
  have hwr0 : H wr = none := S1.free hwr
  have tw : tr ≠ wr := ne_of_none upd_same hwr
  refine for_enumS (x := S l) (fun k σ H' => ∃ (W : List Nat) (arr : List (Option Nat)) (pv sv bv : Option V), σ = [some (.str (S l)), some (.ref tr), some (.ref wr), pv, sv, bv] ∧ Fwd l k W arr ∧ W.Nodup ∧ W.length ≤ k ∧
    H' tr = some (.lst (arr.map vO)) ∧ H' wr = some (.lst (W.reverse.map fun i => V.int (i : Nat))) ∧ Same H H') ?_ ?_ ?_
  · refine ⟨[], _, none, none, none, rfl, fwd_start l, List.nodup_nil, Nat.le_refl _, ?_, upd_same, S1.trans (same_new hwr _)⟩
    rw [upd_ne tw, upd_same]
    congr 2
    show (List.replicate l.length [V.non]).flatten = _
    rw [List.map_replicate]
    induction l.length with
    | zero => rfl
    | succ m ih => rw [List.replicate_succ, List.flatten_cons, ih]; rfl
  · rintro k c T σ H' hc ⟨W, arr, pv, sv, bv, rfl, x, nd, wl, et, ew, hS⟩ hT
    have hc : l[k]? = some c := hc
    have hk : k < l.length := (List.getElem?_eq_some_iff.mp hc).1
    have hsg : isSg c = true := hl c (List.mem_of_getElem? hc)
    have tT : tr ≠ T := ne_of_none et hT
    have wT : wr ≠ T := ne_of_none ew hT
    have et2 : (upd H' T (.tup [.int (k : Nat), sg c])) tr = some (.lst (arr.map vO)) := by rw [upd_ne tT]; exact et
    have ew2 : (upd H' T (.tup [.int (k : Nat), sg c])) wr = some (.lst (W.reverse.map fun i => V.int (i : Nat))) := by rw [upd_ne wT]; exact ew
    have hS2 : Same H (upd H' T (.tup [.int (k : Nat), sg c])) := hS.trans (same_new hT _)
    refine ⟨_, _, SqT.of upd_same, ?_⟩
    generalize upd H' T (.tup [.int (k : Nat), sg c]) = H2 at et2 ew2 hS2 ⊢
    refine ite2 (fun c1 => ?_) (fun c1 => ?_)
    · have c1 : isOp c = true := mem_ops.mp (dE c1)
      refine ⟨⟨_, ew2⟩, _, ew2, ?_, ?_⟩
      · rw [List.length_map, List.length_reverse]; omega
      refine ⟨k :: W, arr, _, _, _, rfl, x.opn hc c1, x.push_nd nd, by rw [List.length_cons]; omega, ?_, ?_, sU hS2 hwr0 _⟩
      · rw [upd_ne tw]; exact et2
      · rw [upd_same, List.reverse_cons, List.map_append]; rfl
    have c1 : ¬ isOp c = true := fun z => dEF c1 (mem_ops.mpr z)
    refine ite2 (fun c2 => ?_) (fun c2 => ?_)
    · have c2 : isCl c = true := mem_cls.mp (dE c2)
      cases W with
      | nil =>
        refine .inl ⟨_, .inl (SqL.of ew2), ?_⟩
        refine ⟨_, ew2, ?_⟩
        refine ⟨[], arr, _, _, _, rfl, x.clear hc c2 (fun i q e => by cases e), List.nodup_nil, Nat.zero_le _, ?_, upd_same, sU hS2 hwr0 _⟩
        rw [upd_ne tw]; exact et2
      | cons i W' =>
        obtain ⟨ik, ⟨c0, hc0, ho0⟩, _⟩ := x.stk [] i W' rfl
        have gd : l.getD i 0 = c0 := by rw [List.getD_eq_getElem?_getD, hc0]; rfl
        have eW : ((i :: W').reverse.map fun i => V.int (i : Nat)) = (W'.reverse.map fun i => V.int (i : Nat)) ++ [V.int (i : Nat)] := by rw [List.reverse_cons, List.map_append]; rfl
        have i0 : (i : Int) < l.length := by omega
        rw [eW] at ew2
        have tru : (!((W'.reverse.map fun i => V.int (i : Nat)) ++ [V.int (i : Nat)]).isEmpty) = true := by simp
        refine .inl ⟨_, .inl (SqL.of ew2), ?_⟩
        rw [tru]
        refine ⟨_, V.int (i : Nat), .inl (SqL.of ew2), atI_last _ _, lM, c0, atI_nat hc0, [oth c], othT_get (.inr c2), ?_⟩
        refine ite2 (fun c3 => ?_) (fun c3 => ?_)
        · have c3 : [c0] = [oth c] := dE c3
          have e3 : oth (l.getD i 0) = c := by
            rw [gd]
            injection c3 with c3 _
            rw [c3]; exact (oth_cl c2).2
          refine ⟨_, ew2, _, _, rfl, ?_⟩
          have et3 : (upd H2 wr (.lst (W'.reverse.map fun i => V.int (i : Nat)))) tr = some (.lst (arr.map vO)) := by rw [upd_ne tw]; exact et2
          refine ⟨tr, _, _, i, rfl, rfl, et3, ?_, ?_⟩
          · rw [List.length_map, x.len]; exact ixN_of (by omega) i0
          refine ⟨tr, _, _, k, rfl, rfl, upd_same, ?_, ?_⟩
          · rw [List.length_set, List.length_map, x.len]; exact ixN_of (by omega) (by omega)
          refine ⟨W', (arr.set i (some k)).set k (some i), _, _, _, rfl, x.pop hc c2 e3 nd, (List.nodup_cons.mp nd).2, by rw [List.length_cons] at wl; omega, ?_, ?_, sU (sU (sU hS2 hwr0 _) htr0 _) htr0 _⟩
          · rw [upd_same, List.map_set, List.map_set]; rfl
          · rw [upd_ne (Ne.symm tw), upd_ne (Ne.symm tw), upd_same]
        · have c3 : ¬ [c0] = [oth c] := dEF c3
          refine ⟨_, ew2, ?_⟩
          refine ⟨[], arr, _, _, _, rfl, x.clear hc c2 (fun i' q' e => ?_), List.nodup_nil, Nat.zero_le _, ?_, upd_same, sU hS2 hwr0 _⟩
          · cases e
            rw [gd]
            intro z
            apply c3
            rw [← z, (oth_op ho0).2]
          · rw [upd_ne tw]; exact et2
    · have c2 : ¬ isCl c = true := fun z => dEF c2 (mem_cls.mpr z)
      obtain ⟨a1, a2⟩ := not_sign c1 c2
      exact ⟨W, arr, _, _, _, rfl, x.lett hc a1 a2, nd, by omega, et2, ew2, hS2⟩
  · rintro σ H' ⟨W, arr, pv, sv, bv, rfl, x, nd, wl, et, ew, hS⟩
    exact q tr H' arr htr0 hS et x.done
end
theorem mem_abc {c : Nat} : c ∈ abc ↔ isLt c = true := by
  constructor
  · exact fun h => List.all_eq_true.mp sg_abc c h
  · intro h
    have h' : 97 ≤ c ∧ c ≤ 122 := by simpa [isLt] using h
    have e : abc = (List.range 26).map (· + 97) := by decide +kernel
    rw [e]
    exact List.mem_map.mpr ⟨c - 97, List.mem_range.mpr (by omega), by omega⟩
section
variable {P : Program} {w : World} {K : PySem.W.Frag} {mg : Str → Option Value} {base : Heap} {f : Addr} {fd : FuncData}
def spIsClean (T : Addr) : Sp := fun vs H Q _ => ∃ l : List Nat, vs = [.str (S l)] ∧ Sgs l ∧ l.length ≤ 1000 ∧ Tb T H ∧ ∀ H' : Hp, Same H H' → Q (.bl (decide (Clean l))) H'
theorem ok_is_clean {n : Nat} {c T : Addr} (F : Fun K "is_clean" "is_clean" (top 12) f fd) (e : fd.code = .ref c) (hd : PySem.W.CodeHd base c T) (bm : BMod mg base) (b_all : mg "all" = none) (b_zip : mg "zip" = none) (g_LETTERS : ∃ t, mg "LETTERS" = some (.str (S abc) t))
    (c_partners : Cal P w K mg base (n + 1) "partners" ["text"] spPartners) : FnOk P w K mg base CX0 (n + 2) f fd ["text"] (spIsClean T) := by
  have sc : FnScope ["text", "sign", "partner"] ["text"] (defScope (top 12)) := ⟨rfl, rfl, rfl, by decide +kernel, rfl, by decide +kernel, by decide +kernel⟩
  refine okC F e sc (fun vs H Q E h => ?_) (fun A outer s H vs Q E hr h => ?_)
  · obtain ⟨l, rfl, _⟩ := h
    rfl
  obtain ⟨l, rfl, hl, hz, tb, q⟩ := h
  have gc : GCode (cxOf CX0 P w K mg base ["text", "sign", "partner"] "is_clean" (defScope (top 12)) f (.ref c) A outer s H E).nox c T := ⟨rfl, hd, bm⟩
  refine ⟨_, (pss_one (ps_ret (pall (Ng := ["sign", "partner"]) (cap := [none, none]) (own := [0, 1]) (g := (gPair _ 0 1)) gc (genOk_by (N := ["text", "sign", "partner"]) (sc := defScope (top 12)) (by decide +kernel)) rfl hr  (pi_zipS rfl b_zip (pa_cons (pn 0) (pa_cons (pcall c_partners hr rfl (pa_cons (pn 0) pa_nil)) pa_nil))) (fun _ _ _ _ _ _ _ _ hr => (pg_pair (i := 0) (j := 1) (show (["sign", "partner"] : List Str).Nodup by decide +kernel) rfl (Or.inl rfl) rfl (Or.inl rfl) rfl)) (fun _ _ _ _ _ _ _ _ hr => (por (pe_cmpR opIn (pn 0) (pgs g_LETTERS rfl) rfl) (pe_one (pe_cmpR opIsNot (pn 1) pe_non (nomark _))))) rfl b_all))), ?_⟩
  refine ⟨l, rfl, hl, hz, fun r H1 arr h1 S1 e1 M1 => ?_⟩
  have key : ((List.range l.length).all fun i => isLt (l.getD i 0) || (arr.getD i none).isSome) = decide (Clean l) := by
    rw [Bool.eq_iff_iff, List.all_eq_true, decide_eq_true_eq, M1.full]
    constructor
    · intro h i c hc hb
      have hi : i < l.length := (List.getElem?_eq_some_iff.mp hc).1
      have := h i (List.mem_range.mpr hi)
      rw [List.getD_eq_getElem?_getD, hc] at this
      have nl : isLt c = false := by
        cases z : isLt c with
        | false => rfl
        | true =>
          obtain ⟨a, b⟩ := lt_not z
          rcases hb with hb | hb
          · rw [a] at hb; cases hb
          · rw [b] at hb; cases hb
      rw [show (some c).getD 0 = c from rfl, nl, Bool.false_or, List.getD_eq_getElem?_getD] at this
      have hi2 : i < arr.length := by rw [M1.len]; exact hi
      rw [List.getElem?_eq_getElem hi2] at this ⊢
      obtain ⟨j, hj⟩ := Option.isSome_iff_exists.mp this
      exact ⟨j, by rw [← hj]; rfl⟩
    · intro h i hi
      have hi : i < l.length := List.mem_range.mp hi
      have hc : l[i]? = some l[i] := List.getElem?_eq_getElem hi
      rw [Bool.or_eq_true]
      by_cases z : isLt l[i] = true
      · left; rw [List.getD_eq_getElem?_getD, hc]; exact z
      · right
        have hs := hl l[i] (List.getElem_mem hi)
        have hb : isOp l[i] = true ∨ isCl l[i] = true := by
          unfold isSg at hs
          rcases Bool.or_eq_true_iff.mp hs with hs | hs
          · rcases Bool.or_eq_true_iff.mp hs with hs | hs
            · exact absurd hs z
            · exact .inl hs
          · exact .inr hs
        obtain ⟨j, hj⟩ := h i _ hc hb
        rw [List.getD_eq_getElem?_getD, hj]; rfl
  refine ⟨⟨_, SqL.of e1⟩, tb.same S1, l.length, fun i => isLt (l.getD i 0) || (arr.getD i none).isSome, fun _ H' => Same H1 H', Same.refl _, gen_zip (ys := arr.map vO) (by rw [List.length_map, M1.len]) (fun i H' p => SqL.of (p _ _ e1)) (fun i c y t H' hc hy ht p => ?_), fun i H' hi p => ?_⟩
  · have gd : l.getD i 0 = c := by rw [List.getD_eq_getElem?_getD, hc]; rfl
    have S2 : Same H1 (upd H' t (.tup [sg c, y])) := p.trans (same_new ht _)
    refine ⟨_, _, SqT.of upd_same, rfl, ?_⟩
    refine ite2 (fun c1 => ?_) (fun c1 => ?_)
    · have c1 : isLt c = true := mem_abc.mp (dE c1)
      exact ⟨by show V.bl true = V.bl (isLt (l.getD i 0) || (arr.getD i none).isSome); rw [gd, c1]; rfl, S2⟩
    · have c1 : isLt c = false := by
        cases z : isLt c with
        | false => rfl
        | true => exact absurd (mem_abc.mpr z) (dEF c1)
      refine ⟨?_, S2⟩
      show V.bl (true != isNon y) = V.bl (isLt (l.getD i 0) || (arr.getD i none).isSome)
      rw [gd, c1, Bool.false_or]
      rw [List.getElem?_map] at hy
      cases ha : arr[i]? with
      | none => rw [ha] at hy; cases hy
      | some o =>
        rw [ha] at hy
        have hy : vO o = y := Option.some.inj hy
        rw [List.getD_eq_getElem?_getD, ha]
        subst hy
        cases o <;> rfl
  · have := q H' (S1.trans p)
    rw [← key] at this
    exact this
end
section
variable {P : Program} {w : World} {K : PySem.W.Frag} {mg : Str → Option Value} {base : Heap} {f : Addr} {fd : FuncData}
theorem fn_none {k : Nat} {ps : List Str} {sp : Sp} (no : ∀ vs H Q E, ¬ sp vs H Q E) : FnOk P w K mg base CX0 k f fd ps sp := ⟨fun vs H Q E h => absurd h (no vs H Q E), fun A outer s H args us vs Q E _ _ _ _ h => absurd h (no vs H Q E)⟩
theorem ok_one_of {n : Nat} (F : Fun K "is_one_of" "is_one_of" (top 10) f fd) (b_isinstance : mg "isinstance" = none) (b_str : mg "str" = none) (b_len : mg "len" = none) : FnOk P w K mg base CX0 (n + 1) f fd ["thing", "signs"] spOneOf := by
  have sc : FnScope ["thing", "signs"] ["thing", "signs"] (defScope (top 10)) := ⟨rfl, rfl, rfl, by decide +kernel, rfl, by decide +kernel, by decide +kernel⟩
  refine F.ok sc (fun vs H Q E h => ?_) (fun cdv A outer s H vs Q E hr h => ?_)
  · obtain ⟨x, l, rfl, _⟩ := h
    rfl
  obtain ⟨x, l, rfl, hl, h⟩ := h
  refine ⟨_, (pss_one (ps_ret (pand (pe_callB cIsi rfl b_isinstance (by decide +kernel) (pa_cons (pn 0) (pa_cons (ptype (T := "str") rfl b_str (by decide +kernel)) pa_nil))) (pand (pe_cmpR (opEq hr.units) (pe_callB cLen rfl b_len (by decide +kernel) (pa_cons (pn 0) pa_nil)) pe_int (nomark _)) (pe_one (pe_cmpR opIn (pn 0) (pn 1) rfl)))))), ?_⟩
  rcases h with ⟨c, rfl, q⟩ | ⟨r, xs, rfl, e, q⟩
  · refine ⟨_, _, .str _, kit_str (.str [c]), (show 1 ≤ 1000000 by decide), ?_⟩
    exact (show Q (.bl (false != decide (c ∈ l))) H by rw [Bool.false_bne]; exact q)
  · exact ⟨_, _, .tup e, kit_str (.tup []), q⟩
theorem ok_is_letter {n : Nat} (F : Fun K "is_letter" "is_letter" (top 8) f fd) (g_LETTERS : ∃ t, mg "LETTERS" = some (.str (S abc) t)) (c_is_one_of : Cal P w K mg base n "is_one_of" ["thing", "signs"] spOneOf) : FnOk P w K mg base CX0 (n + 1) f fd ["thing"] spIsLetter := by
  have sc : FnScope ["thing"] ["thing"] (defScope (top 8)) := ⟨rfl, rfl, rfl, by decide +kernel, rfl, by decide +kernel, by decide +kernel⟩
  refine F.ok sc (fun vs H Q E h => ?_) (fun cdv A outer s H vs Q E hr h => ?_)
  · obtain ⟨x, rfl, _⟩ := h
    rfl
  obtain ⟨x, rfl, h⟩ := h
  refine ⟨_, (pss_one (ps_ret (pcall c_is_one_of hr rfl (pa_cons (pn 0) (pa_cons (pgs g_LETTERS rfl) pa_nil))))), ?_⟩
  exact ⟨x, abc, rfl, by decide +kernel, h⟩
theorem ok_is_opening {n : Nat} (F : Fun K "is_opening" "is_opening" (top 9) f fd) (g_OPENING : ∃ t, mg "OPENING" = some (.str (S (Lc (Str.ofString "(<[{"))) t)) (c_is_one_of : Cal P w K mg base n "is_one_of" ["thing", "signs"] spOneOf) : FnOk P w K mg base CX0 (n + 1) f fd ["thing"] spIsOpening := by
  have sc : FnScope ["thing"] ["thing"] (defScope (top 9)) := ⟨rfl, rfl, rfl, by decide +kernel, rfl, by decide +kernel, by decide +kernel⟩
  refine F.ok sc (fun vs H Q E h => ?_) (fun cdv A outer s H vs Q E hr h => ?_)
  · obtain ⟨x, rfl, _⟩ := h
    rfl
  obtain ⟨c, rfl, h⟩ := h
  refine ⟨_, (pss_one (ps_ret (pcall c_is_one_of hr rfl (pa_cons (pn 0) (pa_cons (pgs g_OPENING rfl) pa_nil))))), ?_⟩
  exact ⟨_, _, rfl, by decide +kernel, .inl ⟨c, rfl, h⟩⟩
theorem ok_iw {n k : Nat} {T : Addr} (F : Fun K "is_item_within" "is_item_within" (top 20) f fd) (b_isinstance : mg "isinstance" = none) (b_tuple : mg "tuple" = none) (b_len : mg "len" = none)
    (c_is_letter : Cal P w K mg base n "is_letter" ["thing"] spIsLetter) (c_is_opening : Cal P w K mg base n "is_opening" ["thing"] spIsOpening) (c_is_nest_within : Cal P w K mg base n "is_nest_within" ["thing", "room"] (spNW T k)) : FnOk P w K mg base CX0 (n + 1) f fd ["thing", "room"] (spIW T (k + 1)) := by
  have sc : FnScope ["thing", "room"] ["thing", "room"] (defScope (top 20)) := ⟨rfl, rfl, rfl, by decide +kernel, rfl, by decide +kernel, by decide +kernel⟩
  refine F.ok sc (fun vs H Q E h => ?_) (fun cdv A outer s H vs Q E hr h => ?_)
  · obtain ⟨x, m, z, rfl, _⟩ := h
    rfl
  obtain ⟨x, m, z, rfl, m1, mk, m100, hx, tb, q⟩ := h
  refine ⟨_, (pss_cons (ps_if (ptru (pcall c_is_letter hr rfl (pa_cons (pn 0) pa_nil))) (pss_one (ps_ret pe_bl)) pss_nil) (pss_cons (ps_if (PW.pt (pw_or (pt_not (ptru (pe_callB cIsi rfl b_isinstance (by decide +kernel) (pa_cons (pn 0) (pa_cons (ptype (T := "tuple") rfl b_tuple (by decide +kernel)) pa_nil))))) (pw_or1 (pcmp (opNe hr.units) (pe_callB cLen rfl b_len (by decide +kernel) (pa_cons (pn 0) pa_nil)) pe_int (nomark _))))) (pss_one (ps_ret pe_bl)) pss_nil) (pss_one (ps_ret (pand (pcall c_is_opening hr rfl (pa_cons (pe_ix ixC (pn 0) pe_int (fun _ _ => rfl)) pa_nil)) (pe_one (pcall c_is_nest_within hr rfl (pa_cons (pe_ix ixC (pn 0) pe_int (fun _ _ => rfl)) (pa_cons (pe_op opSub (pn 1) pe_int) pa_nil))))))))), ?_⟩
  cases hx with
  | lett c hc _ =>
    refine ⟨_, rfl, .inl ⟨c, rfl, ?_⟩⟩
    rw [decide_eq_true (mem_abc.mpr hc)]
    exact q H (Same.refl _)
  | br c t a N hc ht ha hN wN lN zN =>
    refine ⟨_, rfl, .inr ⟨t, _, rfl, ht, ?_⟩⟩
    refine ⟨_, _, .tup ht, kit_tuple (.tup []), .inl ⟨_, .inr (SqT.of ht), ?_⟩⟩
    refine ⟨_, sg c, .inr (SqT.of ht), rfl, ?_⟩
    refine ⟨c, rfl, ?_⟩
    rw [decide_eq_true (show c ∈ Lc (Str.ofString "(<[{") from mem_ops.mpr hc)]
    refine ⟨_, .ref a, .inr (SqT.of ht), rfl, ?_⟩
    exact ⟨a, m - 1, _, N, by show [V.ref a, V.int ((m : Int) - 1)] = _; rw [show ((m : Int) - 1) = ((m - 1 : Nat) : Int) by omega], by omega, by omega, ⟨ha, hN, wN, by omega, rfl, zN⟩, tb, q⟩
theorem ok_nw {n k : Nat} {c T : Addr} (F : Fun K "is_nest_within" "is_nest_within" (top 19) f fd) (e : fd.code = .ref c) (hd : PySem.W.CodeHd base c T) (bm : BMod mg base) (b_all : mg "all" = none) (b_isinstance : mg "isinstance" = none) (b_list : mg "list" = none) (b_len : mg "len" = none)
    (c_is_item_within : Cal P w K mg base n "is_item_within" ["thing", "room"] (spIW T k)) : FnOk P w K mg base CX0 (n + 2) f fd ["thing", "room"] (spNW T k) := by
  have sc : FnScope ["thing", "room", "item"] ["thing", "room"] (defScope (top 19)) := ⟨rfl, rfl, rfl, by decide +kernel, rfl, by decide +kernel, by decide +kernel⟩
  refine okC F e sc (fun vs H Q E h => ?_) (fun A outer s H vs Q E hr h => ?_)
  · obtain ⟨a, m, z, N, rfl, _⟩ := h
    rfl
  obtain ⟨a, m, z, N, rfl, mk, m100, hN, tb, q⟩ := h
  have gc : GCode (cxOf CX0 P w K mg base ["thing", "room", "item"] "is_nest_within" (defScope (top 19)) f (.ref c) A outer s H E).nox c T := ⟨rfl, hd, bm⟩
  refine ⟨_, (pss_cons (ps_if (pt_not (ptru (pe_callB cIsi rfl b_isinstance (by decide +kernel) (pa_cons (pn 0) (pa_cons (ptype (T := "list") rfl b_list (by decide +kernel)) pa_nil))))) (pss_one (ps_ret pe_bl)) pss_nil) (pss_cons (ps_if (pcmp (opEq hr.units) (pn 1) pe_int (nomark _)) (pss_one (ps_ret (pe_cmpR (opEq hr.units) (pe_callB cLen rfl b_len (by decide +kernel) (pa_cons (pn 0) pa_nil)) pe_int (nomark _)))) pss_nil) (pss_one (ps_ret (pall (Ng := ["item", "room"]) (cap := [none, some 1]) (own := [0]) (g := (gName 0)) gc (genOk_by (N := ["thing", "room", "item"]) (sc := defScope (top 19)) (by decide +kernel)) rfl hr  (pi_list (pn 0)) (fun _ _ _ _ _ _ _ _ hr => (pg_name (i := 0) (show (["item", "room"] : List Str).Nodup by decide +kernel) rfl (Or.inl rfl))) (fun _ _ _ _ _ _ _ _ hr => (pcall c_is_item_within hr rfl (pa_cons (pn 0) (pa_cons (pn 1) pa_nil)))) rfl b_all))))), ?_⟩
  refine ⟨_, _, .lst hN.top, kit_list (.lst []), ?_⟩
  refine ite2 (fun c0 => absurd (show false = true from c0) Bool.false_ne_true) (fun _ => ?_)
  refine ite2 (fun c1 => ?_) (fun c1 => ?_)
  · have c1 : (m : Int) = 0 := dE c1
    have l0 : Nd.lv N ≤ 0 := by have := hN.lv; omega
    have e0 := Nd.lv0 l0
    subst e0
    exact .inl ⟨_, .inl (SqL.of hN.top), q H (Same.refl _)⟩
  · have c1 : ¬ (m : Int) = 0 := dEF c1
    refine ⟨a, rfl, ⟨_, SqL.of hN.top⟩, tb, (Nd.vals N).length, fun _ => true, fun _ H' => Same H H', Same.refl _, gen_list (xs := Nd.vals N) (fun i H' p => SqL.of (p _ _ hN.top)) (fun i x H' hx p => ?_), fun i H' hi p => ?_⟩
    · obtain ⟨s', _, it⟩ := Nd.itm hN.holds hN.wf hN.lv (hN.tx ▸ hN.len) i x hx
      refine ⟨rfl, ?_⟩
      exact ⟨x, m, s', rfl, by omega, mk, m100, it.same p, tb.same p, fun H2 S2 => ⟨rfl, p.trans S2⟩⟩
    · have := q H' p
      rw [show (List.range (Nd.vals N).length).all (fun _ => true) = true by simp]
      exact this
theorem nw_all {fI : Addr} {fdI : FuncData} {c T : Addr} (F : Fun K "is_nest_within" "is_nest_within" (top 19) f fd) (kF : PySem.W.keepIn K (.ref f) = true) (mF : mg "is_nest_within" = some (.ref f)) (bF : Binds K fd ["thing", "room"] []) (e : fd.code = .ref c) (hd : PySem.W.CodeHd base c T) (bm : BMod mg base)
    (FI : Fun K "is_item_within" "is_item_within" (top 20) fI fdI) (kI : PySem.W.keepIn K (.ref fI) = true) (mI : mg "is_item_within" = some (.ref fI)) (bI : Binds K fdI ["thing", "room"] [])
    (b_all : mg "all" = none) (b_isinstance : mg "isinstance" = none) (b_list : mg "list" = none) (b_tuple : mg "tuple" = none) (b_len : mg "len" = none)
    (c_is_letter : Cal P w K mg base 2 "is_letter" ["thing"] spIsLetter) (c_is_opening : Cal P w K mg base 2 "is_opening" ["thing"] spIsOpening) :
    ∀ k : Nat, FnOk P w K mg base CX0 (3 * k + 4) f fd ["thing", "room"] (spNW T k)
  | 0 => ok_nw (n := 2) F e hd bm b_all b_isinstance b_list b_len ⟨fI, fdI, fn_none fun vs H Q E h => by
      obtain ⟨x, m, z, _, m1, m2, _⟩ := h
      omega, bI, kI, mI⟩
  | k + 1 => by
    have ih := nw_all F kF mF bF e hd bm FI kI mI bI b_all b_isinstance b_list b_tuple b_len c_is_letter c_is_opening k
    exact ok_nw (n := 3 * k + 5) F e hd bm b_all b_isinstance b_list b_len ⟨fI, fdI, ok_iw (n := 3 * k + 4) FI b_isinstance b_tuple b_len (c_is_letter.mono (by omega)) (c_is_opening.mono (by omega)) ⟨f, fd, ih, bF, kF, mF⟩, bI, kI, mI⟩
def spIsNest (T : Addr) : Sp := fun vs H Q _ => ∃ (a : Addr) (s : List Nat) (n : Nd), vs = [.ref a] ∧ Nd.Nst H a 60 s n ∧ Tb T H ∧ ∀ H' : Hp, Same H H' → Q (.bl true) H'
def spRefuse (T : Addr) : Sp := fun vs H Q _ => ∃ (a : Addr) (s : List Nat) (n : Nd), vs = [.ref a] ∧ Nd.Nst H a 60 s n ∧ Tb T H ∧ ∀ H' : Hp, Same H H' → Q .non H'
theorem ok_is_nest {n : Nat} {T : Addr} (F : Fun K "is_nest" "is_nest" (top 18) f fd) (g_DEEPEST : ∃ t, mg "DEEPEST" = some (.int 60 t)) (c_is_nest_within : Cal P w K mg base n "is_nest_within" ["thing", "room"] (spNW T 60)) : FnOk P w K mg base CX0 (n + 1) f fd ["thing"] (spIsNest T) := by
  have sc : FnScope ["thing"] ["thing"] (defScope (top 18)) := ⟨rfl, rfl, rfl, by decide +kernel, rfl, by decide +kernel, by decide +kernel⟩
  refine F.ok sc (fun vs H Q E h => ?_) (fun cdv A outer s H vs Q E hr h => ?_)
  · obtain ⟨a, z, N, rfl, _⟩ := h
    rfl
  obtain ⟨a, z, N, rfl, hN, tb, q⟩ := h
  refine ⟨_, (pss_one (ps_ret (pcall c_is_nest_within hr rfl (pa_cons (pn 0) (pa_cons (pgi g_DEEPEST rfl) pa_nil))))), ?_⟩
  exact ⟨a, 60, z, N, rfl, by decide, by decide, hN, tb, q⟩
theorem ok_refuse {n : Nat} {T : Addr} (F : Fun K "refuse_no_nest" "refuse_no_nest" (top 21) f fd) (c_is_nest : Cal P w K mg base n "is_nest" ["thing"] (spIsNest T)) : FnOk P w K mg base CX0 (n + 1) f fd ["thing"] (spRefuse T) := by
  have sc : FnScope ["thing"] ["thing"] (defScope (top 21)) := ⟨rfl, rfl, rfl, by decide +kernel, rfl, by decide +kernel, by decide +kernel⟩
  refine F.ok sc (fun vs H Q E h => ?_) (fun cdv A outer s H vs Q E hr h => ?_)
  · obtain ⟨a, z, N, rfl, _⟩ := h
    rfl
  obtain ⟨a, z, N, rfl, hN, tb, q⟩ := h
  refine ⟨_, (pss_one (ps_if (pt_not (ptru (pcall c_is_nest hr rfl (pa_cons (pn 0) pa_nil)))) (pss_one ps_never) pss_nil)), ?_⟩
  exact ⟨a, z, N, rfl, hN, tb, fun H1 S1 => q H1 S1⟩
end
section
variable {P : Program} {w : World} {K : PySem.W.Frag} {mg : Str → Option Value} {base : Heap} {f : Addr} {fd : FuncData}
theorem ok_spellI {n k : Nat} {T tO : Addr} (F : Fun K "spelled_item" "spelled_item" (top 26) f fd) (b_isinstance : mg "isinstance" = none) (b_str : mg "str" = none) (g_OTHER : mg "OTHER" = some (.ref tO)) (t_OTHER : TabK K w.params tO othT)
    (c_spelled : Cal P w K mg base n "spelled" ["nest"] (spSpell T k)) : FnOk P w K mg base CX0 (n + 1) f fd ["item"] (spSpellI T (k + 1)) := by
  have sc : FnScope ["item", "bracket", "inner"] ["item"] (defScope (top 26)) := ⟨rfl, rfl, rfl, by decide +kernel, rfl, by decide +kernel, by decide +kernel⟩
  refine F.ok sc (fun vs H Q E h => ?_) (fun cdv A outer s H vs Q E hr h => ?_)
  · obtain ⟨x, z, rfl, _⟩ := h
    rfl
  obtain ⟨x, z, rfl, hx, hz, tb, q⟩ := h
  refine ⟨_, (pss_cons (ps_if (ptru (pe_callB cIsi rfl b_isinstance (by decide +kernel) (pa_cons (pn 0) (pa_cons (ptype (T := "str") rfl b_str (by decide +kernel)) pa_nil)))) (pss_one (ps_ret (pn 0))) pss_nil) (pss_cons (ps_asg (pn 0) (pg_pair (i := 1) (j := 2) sc.nd rfl (Or.inl rfl) rfl (Or.inl rfl) rfl)) (pss_one (ps_ret (pe_op opAdd (pe_op opAdd (pn 1) (pcall c_spelled hr rfl (pa_cons (pn 2) pa_nil))) (ptab t_OTHER rfl g_OTHER (pn 1))))))), ?_⟩
  cases hx with
  | lett c hc _ => exact ⟨_, _, .str _, kit_str (.str [c]), q H (Same.refl _)⟩
  | br c t a N hc ht ha hN wN lN zN =>
    refine ⟨_, _, .tup ht, kit_str (.tup []), ?_⟩
    refine ⟨_, _, SqT.of ht, ?_⟩
    have hz : (c :: (Nd.tx N ++ [oth c])).length ≤ 1000 := hz
    simp at hz
    refine ⟨a, _, N, rfl, ⟨ha, hN, wN, by omega, rfl, zN⟩, tb, fun H1 S1 => ?_⟩
    refine ⟨?_, ?_⟩
    · show 1 + (Nd.tx N).length ≤ 1000000
      omega
    refine ⟨[oth c], othT_get (.inl hc), ?_, ?_⟩
    · show ([c] ++ Nd.tx N).length + 1 ≤ 1000000
      simp; omega
    · exact q H1 S1
theorem ok_spelled {n k : Nat} {c T : Addr} (F : Fun K "spelled" "spelled" (top 25) f fd) (e : fd.code = .ref c) (hd : PySem.W.CodeHd base c T) (bm : BMod mg base)
    (c_spelled_item : Cal P w K mg base n "spelled_item" ["item"] (spSpellI T k)) : FnOk P w K mg base CX0 (n + 2) f fd ["nest"] (spSpell T k) := by
  have sc : FnScope ["nest", "item"] ["nest"] (defScope (top 25)) := ⟨rfl, rfl, rfl, by decide +kernel, rfl, by decide +kernel, by decide +kernel⟩
  refine okC F e sc (fun vs H Q E h => ?_) (fun A outer s H vs Q E hr h => ?_)
  · obtain ⟨a, z, N, rfl, _⟩ := h
    rfl
  obtain ⟨a, z, N, rfl, hN, tb, q⟩ := h
  have gc : GCode (cxOf CX0 P w K mg base ["nest", "item"] "spelled" (defScope (top 25)) f (.ref c) A outer s H E).nox c T := ⟨rfl, hd, bm⟩
  refine ⟨_, (pss_one (ps_ret (pjoinG (Ng := ["item"]) (cap := [none]) (own := [0]) (g := (gName 0)) gc (genOk_by (N := ["nest", "item"]) (sc := defScope (top 25)) (by decide +kernel)) rfl hr pe_strS (pi_list (pn 0)) (fun _ _ _ _ _ _ _ _ hr => (pg_name (i := 0) (show (["item"] : List Str).Nodup by decide +kernel) rfl (Or.inl rfl))) (fun _ _ _ _ _ _ _ _ hr => (pcall c_spelled_item hr rfl (pa_cons (pn 0) pa_nil)))))), ?_⟩
  have ln := Nd.len_vals N
  have hz : (Nd.tx N).length ≤ 1000 := by rw [hN.tx]; exact hN.len
  have fl : (List.range (Nd.vals N).length).map (fun i => (Nd.ti N).getD i []) = Nd.ti N := by
    apply List.ext_getElem
    · simp [Nd.ti_len]
    · intro i h1 h2
      simp [List.getElem?_eq_getElem h2]
  refine ⟨a, rfl, ⟨_, SqL.of hN.top⟩, tb, (Nd.vals N).length, fun i => (Nd.ti N).getD i [], fun _ H' => Same H H', Same.refl _, gen_list (xs := Nd.vals N) (fun i H' p => SqL.of (p _ _ hN.top)) (fun i x H' hx p => ?_), by omega, ?_, fun H' p => ?_⟩
  · obtain ⟨s', hs', it⟩ := Nd.itm hN.holds hN.wf hN.lv hz i x hx
    have hs1 : s'.length ≤ 1000 := Nat.le_trans (Nd.len_flat (List.mem_of_getElem? hs')) (by rw [Nd.ti_flat]; exact hz)
    refine ⟨rfl, ?_⟩
    exact ⟨x, s', rfl, it.same p, hs1, tb.same p, fun H2 S2 => ⟨by show V.str (S s') = V.str (S ((Nd.ti N).getD i [])); rw [List.getD_eq_getElem?_getD, hs']; rfl, p.trans S2⟩⟩
  · rw [fl, Nd.ti_flat]
    show (Nd.tx N).length + (Nd.vals N).length * 0 ≤ 1000000
    omega
  · have := q H' p
    rw [fl, nil0, joinL_nil, Nd.ti_flat, hN.tx]
    exact this
theorem spell_all {fI : Addr} {fdI : FuncData} {c T tO : Addr} (F : Fun K "spelled" "spelled" (top 25) f fd) (kF : PySem.W.keepIn K (.ref f) = true) (mF : mg "spelled" = some (.ref f)) (bF : Binds K fd ["nest"] []) (e : fd.code = .ref c) (hd : PySem.W.CodeHd base c T) (bm : BMod mg base)
    (FI : Fun K "spelled_item" "spelled_item" (top 26) fI fdI) (kI : PySem.W.keepIn K (.ref fI) = true) (mI : mg "spelled_item" = some (.ref fI)) (bI : Binds K fdI ["item"] [])
    (b_isinstance : mg "isinstance" = none) (b_str : mg "str" = none) (g_OTHER : mg "OTHER" = some (.ref tO)) (t_OTHER : TabK K w.params tO othT) :
    ∀ k : Nat, FnOk P w K mg base CX0 (3 * k + 4) f fd ["nest"] (spSpell T k)
  | 0 => ok_spelled (n := 2) F e hd bm ⟨fI, fdI, fn_none fun vs H Q E h => by
      obtain ⟨x, z, _, it, _⟩ := h
      cases it with
      | lett c _ h => omega
      | br => omega, bI, kI, mI⟩
  | k + 1 => by
    have ih := spell_all F kF mF bF e hd bm FI kI mI bI b_isinstance b_str g_OTHER t_OTHER k
    exact ok_spelled (n := 3 * k + 5) F e hd bm ⟨fI, fdI, ok_spellI (n := 3 * k + 4) FI b_isinstance b_str g_OTHER t_OTHER ⟨f, fd, ih, bF, kF, mF⟩, bI, kI, mI⟩
def spTextOf (T T' : Addr) : Sp := fun vs H Q _ => ∃ (a : Addr) (s : List Nat) (n : Nd), vs = [.ref a] ∧ Nd.Nst H a 60 s n ∧ Tb T H ∧ Tb T' H ∧ ∀ H' : Hp, Same H H' → Q (.str (S s)) H'
theorem ok_text_of {n : Nat} {T T' : Addr} (F : Fun K "text_of" "text_of" (top 24) f fd) (c_refuse_no_nest : Cal P w K mg base n "refuse_no_nest" ["thing"] (spRefuse T)) (c_spelled : Cal P w K mg base n "spelled" ["nest"] (spSpell T' 60)) : FnOk P w K mg base CX0 (n + 1) f fd ["nest"] (spTextOf T T') := by
  have sc : FnScope ["nest"] ["nest"] (defScope (top 24)) := ⟨rfl, rfl, rfl, by decide +kernel, rfl, by decide +kernel, by decide +kernel⟩
  refine F.ok sc (fun vs H Q E h => ?_) (fun cdv A outer s H vs Q E hr h => ?_)
  · obtain ⟨a, z, N, rfl, _⟩ := h
    rfl
  obtain ⟨a, z, N, rfl, hN, tb, tb', q⟩ := h
  refine ⟨_, (pss_cons (ps_expr (pcall c_refuse_no_nest hr rfl (pa_cons (pn 0) pa_nil))) (pss_one (ps_ret (pcall c_spelled hr rfl (pa_cons (pn 0) pa_nil))))), ?_⟩
  exact ⟨a, z, N, rfl, hN, tb, fun H1 S1 => ⟨a, z, N, rfl, hN.same S1, tb'.same S1, fun H2 S2 => q H2 (S1.trans S2)⟩⟩
end
section
variable {P : Program} {w : World} {K : PySem.W.Frag} {mg : Str → Option Value} {base : Heap} {f : Addr} {fd : FuncData}
def spSetDown : Sp := fun vs H Q _ => ∃ (L a : Addr) (I : Nd) (fs : List Nd.Fm) (H0 : Hp) (c : Nat), vs = [.ref L, sg c] ∧ Nd.ZAt H0 H L a I fs ∧ (Nd.vals I).length ≤ 1000 ∧ fs.length ≤ 1000 ∧
  ((isLt c = true ∧ ∀ H', Nd.ZAt H0 H' L a (Nd.app I (.lett c .nil)) fs → Q .non H') ∨ (isOp c = true ∧ ∀ H' t p, Nd.ZAt H0 H' L p .nil (⟨a, I, c, t⟩ :: fs) → Q .non H'))
theorem ok_set_down {n : Nat} (F : Fun K "set_down" "set_down" (top 23) f fd) (g_OPENING : ∃ t, mg "OPENING" = some (.str (S (Lc (Str.ofString "(<[{"))) t)) : FnOk P w K mg base CX0 (n + 1) f fd ["levels", "sign"] spSetDown := by
  have sc : FnScope ["levels", "sign", "inner"] ["levels", "sign"] (defScope (top 23)) := ⟨rfl, rfl, rfl, by decide +kernel, rfl, by decide +kernel, by decide +kernel⟩
  refine F.ok sc (fun vs H Q E h => ?_) (fun cdv A outer s H vs Q E hr h => ?_)
  · obtain ⟨L, a, I, fs, H0, c, rfl, _⟩ := h
    rfl
  obtain ⟨L, a, I, fs, H0, c, rfl, z, l1, l2, q⟩ := h
  refine ⟨_, (pss_one (ps_if (pcmp opIn (pn 1) (pgs g_OPENING rfl) rfl) (pss_cons (ps_set (i := 2) sc.nd rfl (Or.inl rfl) (pe_lst pa_nil)) (pss_cons (ps_expr (pappend (pe_ix ixC (pn 0) (pe_un unNeg pe_int) (fun _ _ => rfl)) (pe_tup (pa_cons (pn 1) (pa_cons (pn 2) pa_nil))))) (pss_one (ps_expr (pappend (pn 0) (pn 2)))))) (pss_one (ps_expr (pappend (pe_ix ixC (pn 0) (pe_un unNeg pe_int) (fun _ _ => rfl)) (pn 1)))))), ?_⟩
  refine ite2 (fun c1 => ?_) (fun c1 => ?_)
  · have c1 : isOp c = true := mem_ops.mp (dE c1)
    have q : ∀ H' t p, Nd.ZAt H0 H' L p .nil (⟨a, I, c, t⟩ :: fs) → Q .non H' := by
      rcases q with ⟨h, _⟩ | ⟨_, q⟩
      · rw [(lt_not h).1] at c1; cases c1
      · exact q
    refine ⟨(by show 0 ≤ sizeLine; decide), fun p hp => ?_⟩
    have z1 := z.keep (same_new hp (.lst []))
    refine ⟨_, .ref a, .inl (SqL.of z1.lev), atI_last _ _, ⟨_, z1.top⟩, ?_⟩
    refine ⟨(by show 2 ≤ sizeLine; decide), fun t ht => ?_⟩
    have z2 := z1.keep (same_new ht (.tup [sg c, .ref p]))
    refine ⟨_, z2.top, (by omega), ?_⟩
    have La := z.La
    refine ⟨⟨_, by rw [upd_ne La]; exact z2.lev⟩, _, by rw [upd_ne La]; exact z2.lev, ?_, ?_⟩
    · rw [List.length_append, Nd.len_zlv]; show fs.length + 1 < 1000000; omega
    · exact q _ t p (z2.opn c1 upd_same (by rw [upd_ne (ne_of_none upd_same ht)]; exact upd_same) (z.same.free hp) (z.apart hp))
  · have c1 : ¬ isOp c = true := fun z => dEF c1 (mem_ops.mpr z)
    rcases q with ⟨hc, q⟩ | ⟨h, _⟩
    · refine ⟨_, .ref a, .inl (SqL.of z.lev), atI_last _ _, ⟨_, z.top⟩, _, z.top, (by omega), ?_⟩
      exact q _ (z.lett hc)
    · exact absurd h c1
end
section
variable {P : Program} {w : World} {K : PySem.W.Frag} {mg : Str → Option Value} {base : Heap} {f : Addr} {fd : FuncData}
theorem ok_nest_of {n : Nat} {T : Addr} (F : Fun K "nest_of" "nest_of" (top 22) f fd) (b_isinstance : mg "isinstance" = none) (b_str : mg "str" = none) (g_CLOSING : ∃ t, mg "CLOSING" = some (.str (S (Lc (Str.ofString ")>]}"))) t))
    (c_is_clean : Cal P w K mg base n "is_clean" ["text"] (spIsClean T)) (c_set_down : Cal P w K mg base n "set_down" ["levels", "sign"] spSetDown) : FnOk P w K mg base CX0 (n + 1) f fd ["text"] (spNestOf T) := by
  have sc : FnScope ["text", "levels", "sign"] ["text"] (defScope (top 22)) := ⟨rfl, rfl, rfl, by decide +kernel, rfl, by decide +kernel, by decide +kernel⟩
  refine F.ok sc (fun vs H Q E h => ?_) (fun cdv A outer s H vs Q E hr h => ?_)
  · obtain ⟨l, rfl, _⟩ := h
    rfl
  obtain ⟨l, rfl, hl, hc, hz, tb, q⟩ := h
  refine ⟨_, (pss_cons (ps_if (PW.pt (pw_or (pt_not (ptru (pe_callB cIsi rfl b_isinstance (by decide +kernel) (pa_cons (pn 0) (pa_cons (ptype (T := "str") rfl b_str (by decide +kernel)) pa_nil))))) (pw_or1 (pt_not (ptru (pcall c_is_clean hr rfl (pa_cons (pn 0) pa_nil))))))) (pss_one ps_never) pss_nil) (pss_cons (ps_set (i := 1) sc.nd rfl (Or.inl rfl) (pe_lst (pa_cons (pe_lst pa_nil) pa_nil))) (pss_cons (ps_for PassesOwn.never rfl (pi_str (pn 0)) (pg_name (i := 2) sc.nd rfl (Or.inl rfl)) (pss_one (ps_if (pcmp opIn (pn 2) (pgs g_CLOSING rfl) rfl) (pss_one (ps_expr (ppop (pn 1)))) (pss_one (ps_expr (pcall c_set_down hr rfl (pa_cons (pn 1) (pa_cons (pn 2) pa_nil)))))))) (pss_one (ps_ret (pe_ix ixC (pn 1) pe_int (fun _ _ => rfl))))))), ?_⟩
  refine ⟨_, _, .str _, kit_str (.str []), ?_⟩
  refine ⟨l, rfl, hl, hz, tb, fun H1 S1 => ?_⟩
  refine ite2 (fun c0 => ?_) (fun _ => ?_)
  · have c0 : (!decide (Clean l)) = true := c0
    rw [decide_eq_true hc] at c0; cases c0
  refine ⟨(by show 0 ≤ sizeLine; decide), fun p hp => ?_⟩
  refine ⟨(by show 1 ≤ sizeLine; decide), fun L hL => ?_⟩
  have z0 : Nd.ZAt H (upd (upd H1 p (.lst [])) L (.lst [.ref p])) L p .nil [] := Nd.ZAt.start (S1.trans ((same_new hp _).trans (same_new hL _))) upd_same (same_new hL _ _ _ upd_same) ((S1.trans (same_new hp _)).free hL) (S1.free hp)
  generalize upd (upd H1 p (.lst [])) L (.lst [.ref p]) = H2 at z0
  refine ⟨S l, rfl, ?_⟩
  refine for_str (x := S l) (fun i σ H' => ∃ a I fs sv, σ = [some (.str (S l)), some (.ref L), sv] ∧ Nd.ZAt H H' L a I fs ∧ Nd.Rd1 l i I fs) ⟨p, .nil, [], none, rfl, z0, Nd.Rd1.start l⟩ ?_ ?_
  · rintro i c σ H' hx ⟨a, I, fs, sv, rfl, z, rd⟩
    have hx : l[i]? = some c := hx
    obtain ⟨b1, b2⟩ := rd.len
    refine ite2 (fun c1 => ?_) (fun c1 => ?_)
    · have c1 : isCl c = true := mem_cls.mp (dE c1)
      obtain ⟨g, fs', rfl, eg⟩ := rd.has hc hx c1
      refine ⟨_, z.lev, _, _, rfl, ?_⟩
      exact ⟨_, _, _, _, rfl, z.cls, rd.cls hx c1 eg a⟩
    · have c1 : ¬ isCl c = true := fun z => dEF c1 (mem_cls.mpr z)
      refine ⟨L, a, I, fs, H, c, rfl, z, by omega, by omega, ?_⟩
      by_cases ho : isOp c = true
      · exact .inr ⟨ho, fun H3 t p z3 => ⟨_, _, _, _, rfl, z3, rd.opn hx ho a t⟩⟩
      · exact .inl ⟨sg_lt (hl c (List.mem_of_getElem? hx)) ho c1, fun H3 z3 => ⟨_, _, _, _, rfl, z3, rd.lett hx ho c1⟩⟩
  · rintro σ H' ⟨a, I, fs, sv, rfl, z, rd⟩
    obtain ⟨rfl, e⟩ := Nd.Rd1.done rd hc
    obtain ⟨d1, d2⟩ := z.done
    refine ⟨_, .ref a, .inl (SqL.of z.lev), rfl, ?_⟩
    exact q H' a I d1 d2 z.same e z.wI
end
section
variable {P : Program} {w : World} {K : PySem.W.Frag} {mg : Str → Option Value} {base : Heap} {f : Addr} {fd : FuncData}
def spTurned (T : Addr) : Sp := fun vs H Q _ => ∃ l : List Nat, vs = [.str (S l)] ∧ l.length ≤ 1000 ∧ Tb T H ∧ ∀ H' : Hp, Same H H' → Q (.str (S (l.reverse.map oth))) H'
theorem ok_turned {n : Nat} {tO c T : Addr} (F : Fun K "turned_about" "turned_about" (top 13) f fd) (e : fd.code = .ref c) (hd : PySem.W.CodeHd base c T) (bm : BMod mg base) (g_OTHER : mg "OTHER" = some (.ref tO)) (t_OTHER : TabK K w.params tO othT) (n_OTHER : (tO == sysModules) = false) :
    FnOk P w K mg base CX0 (n + 2) f fd ["text"] (spTurned T) := by
  have sc : FnScope ["text", "sign"] ["text"] (defScope (top 13)) := ⟨rfl, rfl, rfl, by decide +kernel, rfl, by decide +kernel, by decide +kernel⟩
  refine okC F e sc (fun vs H Q E h => ?_) (fun A outer s H vs Q E hr h => ?_)
  · obtain ⟨l, rfl, _⟩ := h
    rfl
  obtain ⟨l, rfl, hz, tb, q⟩ := h
  have gc : GCode (cxOf CX0 P w K mg base ["text", "sign"] "turned_about" (defScope (top 13)) f (.ref c) A outer s H E).nox c T := ⟨rfl, hd, bm⟩
  refine ⟨_, (pss_one (ps_ret (pjoinG (Ng := ["sign"]) (cap := [none]) (own := [0]) (g := (gName 0)) gc (genOk_by (N := ["text", "sign"]) (sc := defScope (top 13)) (by decide +kernel)) rfl hr pe_strS (pi_str (prev (pn 0))) (fun _ _ _ _ _ _ _ _ hr => (pg_name (i := 0) (show (["sign"] : List Str).Nodup by decide +kernel) rfl (Or.inl rfl))) (fun _ _ _ _ _ _ _ _ hr => (ptget t_OTHER rfl g_OTHER n_OTHER (pn 0) (pn 0)))))), ?_⟩
  have lM : (Lc (S l)).length ≤ 1000000 := by show l.length ≤ 1000000; omega
  refine ⟨lM, _, rfl, tb, l.reverse.length, fun i => [oth (l.reverse.getD i 0)], fun _ H' => H' = H, rfl, gen_str (l := l.reverse) (fun i c H' hc e => ?_), ?_, ?_, fun H' e => ?_⟩
  · subst e
    refine ⟨rfl, ?_, rfl⟩
    refine (othT_d c).trans ?_
    show sg (oth c) = V.str (S [oth (l.reverse.getD i 0)])
    rw [List.getD_eq_getElem?_getD, hc]
    rfl
  · rw [List.length_reverse]; omega
  · rw [flat_val, nil0, List.length_map, List.length_reverse]
    show l.length + l.length * 0 ≤ 1000000
    omega
  · subst e
    rw [nil0, joinL_nil, flat_val]
    exact q _ (Same.refl _)
end
end G
set_option Elab.async false
set_option linter.all false
set_option maxRecDepth 100000
set_option maxHeartbeats 4000000
namespace G
open PySem PySem.Spec PyProof.Rows L2 N1
section
variable {P : Program} {w : World} {K : PySem.W.Frag} {mg : Str → Option Value} {base : Heap} {f : Addr} {fd : FuncData}
theorem ok_walked {n : Nat} (F : Fun K "walked" "walked" (top 29) f fd) (b_enumerate : mg "enumerate" = none) (b_isinstance : mg "isinstance" = none) (b_tuple : mg "tuple" = none) (c_walked : Cal P w K mg base n "walked" ["nest", "before"] (spWalked n)) : FnOk P w K mg base CX0 (n + 1) f fd ["nest", "before"] (spWalked (n + 1)) := by
  have sc : FnScope ["nest", "before", "steps", "place", "item", "path"] ["nest", "before"] (defScope (top 29)) := ⟨rfl, rfl, rfl, by decide +kernel, rfl, by decide +kernel, by decide +kernel⟩
  refine F.ok sc (fun vs H Q E h => ?_) (fun cdv A outer s H vs Q E hr h => ?_)
  · obtain ⟨a, b, N, bs, rfl, _⟩ := h
    rfl
  obtain ⟨a, b, N, bs, rfl, ha, hN, hlv, hz, hb, hd, q⟩ := h
  refine ⟨_, (pss_cons (ps_set (i := 2) sc.nd rfl (Or.inl rfl) (pe_lst pa_nil)) (pss_cons (ps_for PassesOwn.never rfl (pi_enum rfl b_enumerate (pa_cons (pn 0) pa_nil)) (pg_pair (i := 3) (j := 4) sc.nd rfl (Or.inl rfl) rfl (Or.inl rfl) rfl) (pss_cons (ps_set (i := 5) sc.nd rfl (Or.inl rfl) (pe_tup (pa_star (pn 1) (pa_cons (pn 3) pa_nil)))) (pss_cons (ps_expr (pappend (pn 2) (pe_tup (pa_cons (pn 5) (pa_cons (pn 4) pa_nil))))) (pss_one (ps_if (ptru (pe_callB cIsi rfl b_isinstance (by decide +kernel) (pa_cons (pn 4) (pa_cons (ptype (T := "tuple") rfl b_tuple (by decide +kernel)) pa_nil)))) (pss_one (ps_expr (pextend (pn 2) (pcall c_walked hr rfl (pa_cons (pe_ix ixC (pn 4) pe_int (fun _ _ => rfl)) (pa_cons (pn 5) pa_nil)))))) pss_nil))))) (pss_one (ps_ret (pn 2))))), ?_⟩
  refine ⟨(by show 0 ≤ sizeLine; decide), fun p hp => ?_⟩
  have S1 := same_new hp (.lst [])
  refine ⟨a, _, rfl, SqL.of (S1 _ _ ha), ?_⟩
  refine for_enumL (xs := Nd.vals N) (fun i σ H' => ∃ N1 N2 ws v3 v4 v5, σ = [some (.ref a), some (.ref b), some (.ref p), v3, v4, v5] ∧ WI N N1 N2 ∧ (Nd.vals N1).length = i ∧ Same H H' ∧ H' p = some (.lst ws) ∧ Stps H' ws (Nd.ol N1 bs.length))
    ⟨.nil, N, [], none, none, none, rfl, ⟨rfl⟩, rfl, S1, upd_same, Stps.nil⟩ (fun i σ H' ⟨N1, N2, ws, v3, v4, v5, _, _, _, S', _⟩ => SqL.of (S' _ _ ha)) ?_ ?_
  · rintro i x T σ H' hx ⟨N1, N2, ws, v3, v4, v5, rfl, wi, hi, S', hp', st⟩ hT
    refine ⟨_, _, SqT.of upd_same, ?_⟩
    have S2 : Same H' (upd H' T (.tup [.int (i : Nat), x])) := same_new hT _
    have S2' := S'.trans S2
    have hp2 := S2 _ _ hp'
    have st2 := st.same S2
    generalize upd H' T (.tup [.int (i : Nat), x]) = H2 at S2 S2' hp2 st2
    refine ⟨bs, SqT.of (S2' _ _ hb), ?_⟩
    refine ⟨(by show (bs ++ [V.int (i : Nat)]).length ≤ sizeLine; rw [List.length_append]; exact mil (by simp; omega)), fun pa hpa => ?_⟩
    have S3 : Same H2 (upd H2 pa (.tup (bs ++ [.int (i : Nat)]))) := same_new hpa _
    have S3' := S2'.trans S3
    have hp3 := S3 _ _ hp2
    have st3 := st2.same S3
    have hpa3 : (upd H2 pa (.tup (bs ++ [.int (i : Nat)]))) pa = some (.tup (bs ++ [.int (i : Nat)])) := upd_same
    generalize upd H2 pa (.tup (bs ++ [.int (i : Nat)])) = H3 at S3 S3' hp3 st3 hpa3
    have lw : ws.length ≤ 1000 := by
      have h1 := st.1
      have h2 := (Nd.len_ol N1 bs.length).1
      have h3 := congrArg (fun m => (Nd.tx m).length) wi.eq
      have h3 : (Nd.tx (Nd.app N1 N2)).length = (Nd.tx N).length := h3
      rw [Nd.tx_app, List.length_append] at h3
      omega
    refine ⟨⟨_, hp3⟩, (by show 2 ≤ sizeLine; decide), fun r hr' => ?_⟩
    have S4 : Same H3 (upd H3 r (.tup [.ref pa, x])) := same_new hr' _
    have S4' := S3'.trans S4
    have hp4 := S4 _ _ hp3
    have st4 := st3.same S4
    have hpa4 := S4 _ _ hpa3
    have hr4 : (upd H3 r (.tup [.ref pa, x])) r = some (.tup [.ref pa, x]) := upd_same
    generalize upd H3 r (.tup [.ref pa, x]) = H4 at S4 S4' hp4 st4 hpa4 hr4
    refine ⟨_, hp4, (by omega), ?_⟩
    have S5 : Same H (upd H4 p (.lst (ws ++ [.ref r]))) := sU S4' hp _
    rcases wi.item hi hx with ⟨c, r', rfl, rfl⟩ | ⟨c, t, b', n', r', rfl, rfl⟩
    · refine ⟨_, _, .str _, kit_tuple (.str [c]), ?_⟩
      refine ⟨Nd.app N1 (.lett c .nil), r', _, _, _, _, rfl, ⟨by rw [Nd.app_app]; exact wi.eq⟩, by rw [Nd.vals_app, List.length_append, hi]; rfl, S5, upd_same, ?_⟩
      rw [Nd.ol_app]
      refine ((st4.upd hp4).app (Stps.one ?_))
      exact Stp.upd ⟨r, pa, _, _, rfl, hr4, hpa4, by simp, .inl rfl⟩ hp4
    · obtain ⟨b1, b2, b3, b4, b5, b6⟩ := wi.br hN
      have ht5 := S5 _ _ b1
      refine ⟨_, _, .tup ht5, kit_tuple (.tup []), ?_⟩
      refine ⟨⟨_, upd_same⟩, _, .ref b', .inr (SqT.of ht5), rfl, ?_⟩
      have hpa5 : (upd H4 p (.lst (ws ++ [.ref r]))) pa = some (.tup (bs ++ [.int (i : Nat)])) := by
        rw [upd_ne fun e => by rw [e, hp4] at hpa4; cases hpa4]; exact hpa4
      have st5 := (st4.upd hp4 (ys := ws ++ [.ref r]))
      have so5 : Stp (upd H4 p (.lst (ws ++ [.ref r]))) (.ref r) (bs.length, c) := Stp.upd ⟨r, pa, _, _, rfl, hr4, hpa4, by simp, .inr ⟨t, b', rfl, S4' _ _ b1⟩⟩ hp4
      have hp5 : (upd H4 p (.lst (ws ++ [.ref r]))) p = some (.lst (ws ++ [.ref r])) := upd_same
      generalize upd H4 p (.lst (ws ++ [.ref r])) = H5 at S5 ht5 hpa5 st5 so5 hp5
      refine ⟨b', pa, n', bs ++ [.int (i : Nat)], rfl, S5 _ _ b2, b3.same S5, by omega, by omega, hpa5, by rw [List.length_append]; show bs.length + 1 + _ ≤ _; omega, fun H6 p6 ws6 hp6 S6 e6 st6 => ?_⟩
      rw [List.length_append] at st6
      have st6 : Stps H6 ws6 (Nd.ol n' (bs.length + 1)) := st6
      have l6 := st6.1
      rw [len_ol_any] at l6
      have l1 := st.1
      rw [len_ol_any] at l1
      have h6 := S6 _ _ hp5
      refine ⟨_, h6, ws6, e6, (by rw [List.length_append]; show ws.length + 1 + _ ≤ _; omega), ?_⟩
      refine ⟨Nd.app N1 (.br c t b' n' .nil), r', _, _, _, _, rfl, ⟨by rw [Nd.app_app]; exact wi.eq⟩, by rw [Nd.vals_app, List.length_append, hi]; rfl, sU (S5.trans S6) hp _, upd_same, ?_⟩
      rw [Nd.ol_app]
      have e : Nd.ol (.br c t b' n' .nil) bs.length = [(bs.length, c)] ++ Nd.ol n' (bs.length + 1) := by show _ :: (_ ++ []) = _; rw [List.append_nil]; rfl
      rw [e, List.append_assoc]
      refine ((st5.same S6).upd h6).app (((Stps.one (so5.same S6)).upd h6).app (st6.upd h6))
  · rintro σ H' ⟨N1, N2, ws, v3, v4, v5, rfl, wi, hi, S', hp', st⟩
    obtain rfl := wi.last hi
    exact q H' p ws hp S' hp' st
theorem walked_all (F : Fun K "walked" "walked" (top 29) f fd) (kF : PySem.W.keepIn K (.ref f) = true) (mF : mg "walked" = some (.ref f)) (bF : Binds K fd ["nest", "before"] []) (b_enumerate : mg "enumerate" = none) (b_isinstance : mg "isinstance" = none) (b_tuple : mg "tuple" = none) :
    ∀ k : Nat, FnOk P w K mg base CX0 k f fd ["nest", "before"] (spWalked k)
  | 0 => fn_none fun vs H Q E h => by
    obtain ⟨a, b, N, bs, _, _, _, h, _⟩ := h
    omega
  | k + 1 => ok_walked F b_enumerate b_isinstance b_tuple ⟨f, fd, walked_all F kF mF bF b_enumerate b_isinstance b_tuple k, bF, kF, mF⟩
end
section
variable {P : Program} {w : World} {K : PySem.W.Frag} {mg : Str → Option Value} {base : Heap} {f : Addr} {fd : FuncData}
def spOutline (T T' : Addr) : Sp := fun vs H Q _ => ∃ (a : Addr) (s : List Nat) (N : Nd), vs = [.ref a] ∧ Nd.Nst H a 60 s N ∧ s.length ≤ 120 ∧ Tb T H ∧ Tb T' H ∧ ∀ H' : Hp, Same H H' → Q (.str (S (Nd.oT (Nd.ol N 0)))) H'
theorem nl10 : Lc (Str.ofString "\n") = [10] := by decide +kernel
theorem sp32 : Lc (Str.ofString " ") = [32] := by decide +kernel
theorem ok_outline {n : Nat} {c T T' : Addr} (hn : 61 ≤ n) (F : Fun K "outline" "outline" (top 33) f fd) (e : fd.code = .ref c) (hd : PySem.W.CodeHd base c T') (bm : BMod mg base) (b_len : mg "len" = none)
    (c_refuse_no_nest : Cal P w K mg base (n + 1) "refuse_no_nest" ["thing"] (spRefuse T)) (c_walked : Cal P w K mg base (n + 1) "walked" ["nest", "before"] (spWalked 61)) : FnOk P w K mg base CX0 (n + 2) f fd ["nest"] (spOutline T T') := by
  have sc : FnScope ["nest", "path", "item"] ["nest"] (defScope (top 33)) := ⟨rfl, rfl, rfl, by decide +kernel, rfl, by decide +kernel, by decide +kernel⟩
  refine okC F e sc (fun vs H Q E h => ?_) (fun A outer s H vs Q E hr h => ?_)
  · obtain ⟨a, z, N, rfl, _⟩ := h
    rfl
  obtain ⟨a, z, N, rfl, hN, hz, tb, tb', q⟩ := h
  have gc : GCode (cxOf CX0 P w K mg base ["nest", "path", "item"] "outline" (defScope (top 33)) f (.ref c) A outer s H E).nox c T' := ⟨rfl, hd, bm⟩
  refine ⟨_, (pss_cons (ps_expr (pcall c_refuse_no_nest hr rfl (pa_cons (pn 0) pa_nil))) (pss_one (ps_ret (pjoinG (Ng := ["path", "item"]) (cap := [none, none]) (own := [0, 1]) (g := (gPair _ 0 1)) gc (genOk_by (N := ["nest", "path", "item"]) (sc := defScope (top 33)) (by decide +kernel)) rfl hr pe_strS (pi_list (pcall c_walked hr rfl (pa_cons (pn 0) (pa_cons (pe_tup pa_nil) pa_nil)))) (fun _ _ _ _ _ _ _ _ hr => (pg_pair (i := 0) (j := 1) (show (["path", "item"] : List Str).Nodup by decide +kernel) rfl (Or.inl rfl) rfl (Or.inl rfl) rfl)) (fun _ _ _ _ _ _ _ _ hr => (pe_op (opAddK (K := K)) (pe_op opMul pe_str (pe_op opSub (pe_callB (cLenK (K := K)) rfl b_len (by decide +kernel) (pa_cons (pn 0) pa_nil)) pe_int)) (pe_ix (ixK (K := K)) (pn 1) pe_int (fun _ _ => rfl)))))))), ?_⟩
  refine ⟨a, z, N, rfl, hN, tb, fun H1 S1 => ?_⟩
  refine ⟨(by show 0 ≤ sizeLine; decide), fun p0 hp0 => ?_⟩
  have S2 := S1.trans (same_new hp0 (.tup []))
  have hp2 : (upd H1 p0 (.tup [])) p0 = some (.tup []) := upd_same
  generalize upd H1 p0 (.tup []) = H2 at S2 hp2
  have hN2 := hN.same S2
  have hlv := hN.lv
  have hlen := hN.len
  have htx := hN.tx
  refine ⟨a, p0, N, [], rfl, hN2.top, hN2.holds, by omega, by rw [htx]; exact hlen, hp2, by show 0 + _ ≤ _; omega, fun H3 p ws hp S3 e3 st => ?_⟩
  have st : Stps H3 ws (Nd.ol N 0) := st
  have S3' := S2.trans S3
  have lw := st.1
  have lo1 := (Nd.len_ol N 0).1
  rw [htx] at lo1
  have fl : (List.range ws.length).map (fun i => Nd.ln ((Nd.ol N 0).getD i (0, 0))) = (Nd.ol N 0).map Nd.ln := by
    apply List.ext_getElem
    · simp [lw]
    · intro i h1 h2
      have h2' : i < (Nd.ol N 0).length := by simpa using h2
      simp [List.getElem?_eq_getElem h2']
  refine ⟨p, rfl, ⟨_, SqL.of e3⟩, tb'.same S3', ws.length, fun i => Nd.ln ((Nd.ol N 0).getD i (0, 0)), fun _ H' => Same H3 H', Same.refl _, gen_list (xs := ws) (fun i H' p => SqL.of (p _ _ e3)) (fun i x H' hx k => ?_), by omega, ?_, fun H' k => ?_⟩
  · have hi : i < (Nd.ol N 0).length := by
      rw [← lw]
      exact (List.getElem?_eq_some_iff.mp hx).1
    have hy : (Nd.ol N 0)[i]? = some (Nd.ol N 0)[i] := List.getElem?_eq_getElem hi
    have stp := (st.2 i x _ hx hy).same k
    have ey : (Nd.ol N 0).getD i (0, 0) = (Nd.ol N 0)[i] := by rw [List.getD_eq_getElem?_getD, hy]; rfl
    generalize (Nd.ol N 0)[i] = y at ey stp hy
    obtain ⟨r, pa, it, ps, rfl, h2, h3, h4, h5⟩ := stp
    have dep := Nd.ol_dep N 0 y (List.mem_of_getElem? hy)
    refine ⟨_, _, SqT.of h2, rfl, ?_⟩
    refine .inl ⟨ps, .inr (SqT.of h3), ?_⟩
    have ek : ((ps.length : Int) - 1) = (y.1 : Int) := by omega
    refine ⟨⟨by show (ps.length : Int) - 1 < _; omega, by show _ < (ps.length : Int) - 1; omega, ?_⟩, ?_⟩
    · show 1 * ((ps.length : Int) - 1).toNat ≤ 1000000
      omega
    have fin : ∀ H'' : Hp, Same H3 H'' → (Lc (S (repL ((ps.length : Int) - 1).toNat (Lc (Str.ofString " "))))).length + (Lc (S [y.2])).length ≤ 1000000 ∧ (V.str (S (Lc (S (repL ((ps.length : Int) - 1).toNat (Lc (Str.ofString " ")))) ++ Lc (S [y.2]))) = V.str (S (Nd.ln ((Nd.ol N 0).getD i (0, 0)))) ∧ Same H3 H'') := fun H'' k' => by
      rw [ek, Int.toNat_natCast, sp32, ey]
      refine ⟨?_, rfl, k'⟩
      show (repL y.1 [32]).length + 1 ≤ 1000000
      rw [Nd.rep1, List.length_replicate]; omega
    rcases h5 with rfl | ⟨t, a', rfl, h6⟩
    · exact ⟨(by show 1 ≤ 1000000; decide), y.2, rfl, fin _ k⟩
    · exact ⟨_, sg y.2, .inr (SqT.of h6), rfl, fin _ k⟩
  · rw [fl, nl10]
    have h1 := Nd.sum_ln (Nd.ol N 0) 60 fun x hx => by have := Nd.ol_dep N 0 x hx; omega
    show _ + ws.length * 1 ≤ 1000000
    omega
  · rw [fl, nl10]
    exact q H' (S3'.trans k)
end
end G
set_option Elab.async false
set_option linter.all false
set_option maxRecDepth 100000
set_option maxHeartbeats 4000000
namespace G
open PySem PySem.Spec PyProof.Rows L2 N1
section
variable {P : Program} {w : World} {K : PySem.W.Frag} {mg : Str → Option Value} {base : Heap} {f : Addr} {fd : FuncData}
theorem ok_read {n : Nat} (F : Fun K "read_outline" "read_outline" (top 34) f fd) (b_isinstance : mg "isinstance" = none) (b_str : mg "str" = none) (b_len : mg "len" = none) (g_DEEPEST : ∃ t, mg "DEEPEST" = some (.int 60 t))
    (c_is_letter : Cal P w K mg base n "is_letter" ["thing"] spIsLetter) (c_is_opening : Cal P w K mg base n "is_opening" ["thing"] spIsOpening) (c_set_down : Cal P w K mg base n "set_down" ["levels", "sign"] spSetDown) : FnOk P w K mg base CX0 (n + 1) f fd ["text"] spRead := by
  have sc : FnScope ["text", "levels", "line", "sign", "depth"] ["text"] (defScope (top 34)) := ⟨rfl, rfl, rfl, by decide +kernel, rfl, by decide +kernel, by decide +kernel⟩
  refine F.ok sc (fun vs H Q E h => ?_) (fun cdv A outer s H vs Q E hr h => ?_)
  · obtain ⟨N0, rfl, _⟩ := h
    rfl
  obtain ⟨N0, rfl, w0, hz, q⟩ := h
  refine ⟨_, (pss_cons (ps_if (pt_not (ptru (pe_callB cIsi rfl b_isinstance (by decide +kernel) (pa_cons (pn 0) (pa_cons (ptype (T := "str") rfl b_str (by decide +kernel)) pa_nil))))) (pss_one ps_never) pss_nil) (pss_cons (ps_if (pcmp (opEq hr.units) (pn 0) pe_str (nomark _)) (pss_one (ps_ret (pe_lst pa_nil))) pss_nil) (pss_cons (ps_set (i := 1) sc.nd rfl (Or.inl rfl) (pe_lst (pa_cons (pe_lst pa_nil) pa_nil))) (pss_cons (ps_for PassesOwn.never rfl (pi_list (psplit (pn 0) pe_str)) (pg_name (i := 2) sc.nd rfl (Or.inl rfl)) (pss_cons (ps_set (i := 3) sc.nd rfl (Or.inl rfl) (plstrip (pn 2) pe_str)) (pss_cons (ps_set (i := 4) sc.nd rfl (Or.inl rfl) (pe_op opSub (pe_callB cLen rfl b_len (by decide +kernel) (pa_cons (pn 2) pa_nil)) (pe_callB cLen rfl b_len (by decide +kernel) (pa_cons (pn 3) pa_nil)))) (pss_cons (ps_if (PW.pt (pw_and (pt_not (ptru (pcall c_is_letter hr rfl (pa_cons (pn 3) pa_nil)))) (pw_and1 (pt_not (ptru (pcall c_is_opening hr rfl (pa_cons (pn 3) pa_nil))))))) (pss_one ps_never) pss_nil) (pss_cons (ps_if (PW.pt (pw_or (pcmp opGe (pn 4) (pe_callB cLen rfl b_len (by decide +kernel) (pa_cons (pn 1) pa_nil)) (nomark _)) (pw_or1 (pcmp opGe (pn 4) (pgi g_DEEPEST rfl) (nomark _))))) (pss_one ps_never) pss_nil) (pss_cons (pdelS (pn 1) (poC (pe_op opAdd (pn 4) pe_int))) (pss_one (ps_expr (pcall c_set_down hr rfl (pa_cons (pn 1) (pa_cons (pn 3) pa_nil))))))))))) (pss_one (ps_ret (pe_ix ixC (pn 1) pe_int (fun _ _ => rfl)))))))), ?_⟩
  refine ⟨_, _, .str _, kit_str (.str []), ?_⟩
  refine ite2 (fun c0 => absurd (show false = true from c0) Bool.false_ne_true) (fun _ => ?_)
  have e0 : Lc (Str.ofString "") = [] := nil0
  have hlv : Nd.lv N0 ≤ 60 := by have := Nd.lv_len N0; omega
  have hlo := (Nd.len_ol N0 0).1
  refine ite2 (fun c1 => ?_) (fun c1 => ?_)
  · have c1 : Nd.oT (Nd.ol N0 0) = Lc (Str.ofString "") := dE c1
    rw [e0] at c1
    have e := nil_of_ol (Nd.oT_nil.mp c1)
    subst e
    refine ⟨(by show 0 ≤ sizeLine; decide), fun p hp => ?_⟩
    refine q _ p .nil ⟨upd_same, trivial, by simp [Nd.lists]⟩ (fun b hb => ?_) (same_new hp _) rfl trivial
    rw [show b = p by simpa [Nd.lists] using hb]; exact hp
  · have c1 : ¬ Nd.oT (Nd.ol N0 0) = Lc (Str.ofString "") := dEF c1
    rw [e0] at c1
    have hne : Nd.ol N0 0 ≠ [] := fun e => c1 (Nd.oT_nil.mpr e)
    have hdep : ∀ x ∈ Nd.ol N0 0, x.1 < 60 := fun x hx => by have := Nd.ol_dep N0 0 x hx; omega
    have hsg : ∀ x ∈ Nd.ol N0 0, isLt x.2 = true ∨ isOp x.2 = true := Nd.ol_sg w0 0
    have okL := Nd.okL_nest w0 hlv
    have hsum := Nd.sum_ln (Nd.ol N0 0) 60 hdep
    have hj := Nd.len_join ((Nd.ol N0 0).map Nd.ln)
    rw [List.length_map] at hj
    have htx := @Nd.ol_tx
    refine ⟨(by show 0 ≤ sizeLine; decide), fun p hp => ?_⟩
    refine ⟨(by show 1 ≤ sizeLine; decide), fun L hL => ?_⟩
    have S1 := (same_new hp (.lst [])).trans (same_new hL (.lst [.ref p]))
    have nL : H L = none := (same_new hp (.lst [])).free hL
    have hL1 : (upd (upd H p (.lst [])) L (.lst [.ref p])) L = some (.lst [.ref p]) := upd_same
    have hp1 : (upd (upd H p (.lst [])) L (.lst [.ref p])) p = some (.lst []) := same_new hL _ _ _ upd_same
    generalize upd (upd H p (.lst [])) L (.lst [.ref p]) = H1 at S1 hL1 hp1
    refine ⟨nl10, (Nd.ol N0 0).map Nd.ln, fun e => hne (List.map_eq_nil_iff.mp e), fun l hl => ?_, rfl, ?_, fun z hz' => ?_⟩
    · obtain ⟨x, hx, rfl⟩ := List.mem_map.mp hl
      exact Nd.ln_no10 (ltop_ne (hsg x hx)).2
    · show (Nd.oT (Nd.ol N0 0)).length + 2 ≤ 1000000
      unfold Nd.oT
      omega
    have S2 := same_new hz' (.lst (((Nd.ol N0 0).map Nd.ln).map fun l => V.str (S l)))
    have zL : z ≠ L := fun e => by rw [e, hL1] at hz'; cases hz'
    have zp : z ≠ p := fun e => by rw [e, hp1] at hz'; cases hz'
    have hL2 := S2 _ _ hL1
    have hp2 := S2 _ _ hp1
    have S2' := S1.trans S2
    have ez : (upd H1 z (.lst (((Nd.ol N0 0).map Nd.ln).map fun l => V.str (S l)))) z = some (.lst (((Nd.ol N0 0).map Nd.ln).map fun l => V.str (S l))) := upd_same
    generalize upd H1 z (.lst (((Nd.ol N0 0).map Nd.ln).map fun l => V.str (S l))) = H2 at S2 S2' hL2 hp2 ez
    have SH : Same H (hid2 H2 L p) := hid2_of S2' nL hp
    have ez0 : hid2 H2 L p z = some (.lst (((Nd.ol N0 0).map Nd.ln).map fun l => V.str (S l))) := by rw [hid2_ne zL zp]; exact ez
    have z0 : Nd.ZAt (hid2 H2 L p) H2 L p .nil [] := Nd.ZAt.start hid2_same hL2 hp2 hid2_L hid2_a
    generalize hid2 H2 L p = H0 at SH ez0 z0
    generalize exs : Nd.ol N0 0 = xs at *
    refine ⟨z, rfl, ⟨_, SqL.of ez⟩, ?_⟩
    refine for_list (xs := (xs.map Nd.ln).map fun l => V.str (S l)) (fun i σ H' => ∃ a I fs v2 v3 v4, σ = [some (.str (S (Nd.oT xs))), some (.ref L), v2, v3, v4] ∧ Nd.ZAt H0 H' L a I fs ∧ Nd.zol fs ++ Nd.ol I fs.length = xs.take i ∧ Nd.OkL fs.length (xs.drop i))
      ⟨p, .nil, [], none, none, none, rfl, z0, rfl, okL⟩ (fun i σ H' _ ⟨a, I, fs, v2, v3, v4, _, zz, _⟩ => SqL.of (zz.same _ _ ez0)) ?_ ?_
    · rintro i x σ H' hx ⟨a, I, fs, v2, v3, v4, rfl, zz, eo, ok⟩
      rw [List.getElem?_map, List.getElem?_map] at hx
      obtain ⟨y, hy⟩ : ∃ y, xs[i]? = some y := by
        cases h : xs[i]? with
        | none => rw [h] at hx; cases hx
        | some y => exact ⟨y, rfl⟩
      rw [hy] at hx
      cases (show some (V.str (S (Nd.ln y))) = some x from hx)
      have my := List.mem_of_getElem? hy
      have hs := hsg y my
      have hd := hdep y my
      have hil : i < xs.length := (List.getElem?_eq_some_iff.mp hy).1
      have edr : xs.drop i = y :: xs.drop (i + 1) := by
        rw [List.drop_eq_getElem_cons hil]
        congr 1
        exact (List.getElem?_eq_some_iff.mp hy).2
      rw [edr] at ok
      obtain ⟨o1, o2, o3⟩ := ok
      have lnl := Nd.len_ln y
      refine ⟨(by show (Nd.ln y).length ≤ 1000000; omega), ?_⟩
      rw [show (Lc (S (Nd.ln y))).drop ((Lc (S (Nd.ln y))).takeWhile (Lc (Str.ofString " ")).contains).length = [y.2] from Nd.ln_strip (ltop_ne hs).1]
      refine ⟨(by show (Nd.ln y).length ≤ 1000000; omega), (by show 1 ≤ 1000000; decide), ?_⟩
      have ed : ((Lc (S (Nd.ln y))).length : Int) - ((Lc (S [y.2])).length : Int) = (y.1 : Int) := by
        show ((Nd.ln y).length : Int) - 1 = _
        omega
      have ll : (Nd.zlv fs ++ [V.ref a]).length = fs.length + 1 := by rw [List.length_append, Nd.len_zlv]; rfl
      refine ⟨_, rfl, .inl ⟨y.2, rfl, ?_⟩⟩
      obtain ⟨a', I', fs', f1, f2, f3⟩ := Nd.ZAt.cut fs H' a I y.1 zz o1
      have elen : (Nd.zol fs' ++ Nd.ol I' fs'.length).length = (xs.take i).length := by rw [f3, eo]
      rw [List.length_append, List.length_take] at elen
      have lv1 := (Nd.len_ol I' fs'.length).2
      have tk : xs.take (i + 1) = xs.take i ++ [y] := by rw [List.take_add_one, hy]; rfl
      have ey : (fs'.length, y.2) = y := by rw [f1]
      rcases o3 with ⟨hc, okr⟩ | ⟨hc, okr⟩
      · rw [decide_eq_true (mem_abc.mpr hc)]
        refine .inl ⟨_, .inl (SqL.of zz.lev), ?_⟩
        refine ite2 (fun c => ?_) (fun _ => ?_)
        · have c : ((Nd.zlv fs ++ [V.ref a]).length : Int) ≤ ((Lc (S (Nd.ln y))).length : Int) - ((Lc (S [y.2])).length : Int) := of_decide_eq_true c
          rw [ed, ll] at c
          omega
        refine ite2 (fun c => ?_) (fun _ => ?_)
        · have c : (60 : Int) ≤ ((Lc (S (Nd.ln y))).length : Int) - ((Lc (S [y.2])).length : Int) := of_decide_eq_true c
          rw [ed] at c
          omega
        refine ⟨_, zz.lev, ?_, ?_, ?_⟩
        · show (0 : Int) ≤ ((Lc (S (Nd.ln y))).length : Int) - ((Lc (S [y.2])).length : Int) + 1
          rw [ed]; omega
        · show ((Lc (S (Nd.ln y))).length : Int) - ((Lc (S [y.2])).length : Int) + 1 ≤ ((Nd.zlv fs ++ [V.ref a]).length : Int)
          rw [ed, ll]; omega
        rw [show (((Lc (S (Nd.ln y))).length : Int) - ((Lc (S [y.2])).length : Int) + 1).toNat = y.1 + 1 by rw [ed]; omega]
        refine ⟨L, a', I', fs', H0, y.2, rfl, f2, by omega, by omega, ?_⟩
        refine .inl ⟨hc, fun H3 z3 => ?_⟩
        refine ⟨_, _, _, _, _, _, rfl, z3, ?_, by rw [f1]; exact okr⟩
        rw [Nd.ol_app, ← List.append_assoc, f3, eo, tk]
        show _ ++ [(fs'.length, y.2)] = _
        rw [ey]
      · rw [decide_eq_false (fun m => by have h1 := (lt_not (mem_abc.mp m)).1; rw [hc] at h1; cases h1)]
        refine ⟨y.2, rfl, ?_⟩
        rw [decide_eq_true (show y.2 ∈ Lc (Str.ofString "(<[{") from mem_ops.mpr hc)]
        refine .inl ⟨_, .inl (SqL.of zz.lev), ?_⟩
        refine ite2 (fun c => ?_) (fun _ => ?_)
        · have c : ((Nd.zlv fs ++ [V.ref a]).length : Int) ≤ ((Lc (S (Nd.ln y))).length : Int) - ((Lc (S [y.2])).length : Int) := of_decide_eq_true c
          rw [ed, ll] at c
          omega
        refine ite2 (fun c => ?_) (fun _ => ?_)
        · have c : (60 : Int) ≤ ((Lc (S (Nd.ln y))).length : Int) - ((Lc (S [y.2])).length : Int) := of_decide_eq_true c
          rw [ed] at c
          omega
        refine ⟨_, zz.lev, ?_, ?_, ?_⟩
        · show (0 : Int) ≤ ((Lc (S (Nd.ln y))).length : Int) - ((Lc (S [y.2])).length : Int) + 1
          rw [ed]; omega
        · show ((Lc (S (Nd.ln y))).length : Int) - ((Lc (S [y.2])).length : Int) + 1 ≤ ((Nd.zlv fs ++ [V.ref a]).length : Int)
          rw [ed, ll]; omega
        rw [show (((Lc (S (Nd.ln y))).length : Int) - ((Lc (S [y.2])).length : Int) + 1).toNat = y.1 + 1 by rw [ed]; omega]
        refine ⟨L, a', I', fs', H0, y.2, rfl, f2, by omega, by omega, ?_⟩
        refine .inr ⟨hc, fun H3 t p3 z3 => ?_⟩
        refine ⟨_, _, _, _, _, _, rfl, z3, ?_, by show Nd.OkL (fs'.length + 1) _; rw [f1]; exact okr⟩
        show (Nd.zol fs' ++ Nd.ol I' fs'.length ++ [(fs'.length, y.2)]) ++ [] = _
        rw [List.append_nil, f3, eo, tk, ey]
    · rintro σ H' ⟨a, I, fs, v2, v3, v4, rfl, zz, eo, ok⟩
      rw [List.length_map, List.length_map, List.take_length] at eo
      obtain ⟨a', N, h1, h2, h3, h4, h5⟩ := zz.whole
      refine ⟨_, .ref a', .inl (SqL.of zz.lev), at_of rfl h1, ?_⟩
      exact q H' a' N h2 (fun b hb => SH.free (h3 b hb)) (SH.trans zz.same) (htx h4 w0 (by rw [h5, eo, exs])) h4
end
end G
set_option Elab.async false
set_option linter.all false
set_option maxRecDepth 100000
set_option maxHeartbeats 4000000
namespace G
open PySem PySem.Spec PyProof.Rows L2 N1
namespace W2
section
variable {P : Program} {w : World} {K : PySem.W.Frag} {mg : Str → Option Value} {base : Heap} {f : Addr} {fd : FuncData}
theorem ok_walked {n : Nat} (F : Fun K "walked" "walked" (top 29) f fd) (b_enumerate : mg "enumerate" = none) (b_isinstance : mg "isinstance" = none) (b_tuple : mg "tuple" = none) (c_walked : Cal P w K mg base n "walked" ["nest", "before"] (spWalked2 n)) : FnOk P w K mg base CX0 (n + 1) f fd ["nest", "before"] (spWalked2 (n + 1)) := by
  have sc : FnScope ["nest", "before", "steps", "place", "item", "path"] ["nest", "before"] (defScope (top 29)) := ⟨rfl, rfl, rfl, by decide +kernel, rfl, by decide +kernel, by decide +kernel⟩
  refine F.ok sc (fun vs H Q E h => ?_) (fun cdv A outer s H vs Q E hr h => ?_)
  · obtain ⟨a, b, N, π, rfl, _⟩ := h
    rfl
  obtain ⟨a, b, N, π, rfl, ha, hN, hlv, hz, hb, hd, q⟩ := h
  refine ⟨_, (pss_cons (ps_set (i := 2) sc.nd rfl (Or.inl rfl) (pe_lst pa_nil)) (pss_cons (ps_for PassesOwn.never rfl (pi_enum rfl b_enumerate (pa_cons (pn 0) pa_nil)) (pg_pair (i := 3) (j := 4) sc.nd rfl (Or.inl rfl) rfl (Or.inl rfl) rfl) (pss_cons (ps_set (i := 5) sc.nd rfl (Or.inl rfl) (pe_tup (pa_star (pn 1) (pa_cons (pn 3) pa_nil)))) (pss_cons (ps_expr (pappend (pn 2) (pe_tup (pa_cons (pn 5) (pa_cons (pn 4) pa_nil))))) (pss_one (ps_if (ptru (pe_callB cIsi rfl b_isinstance (by decide +kernel) (pa_cons (pn 4) (pa_cons (ptype (T := "tuple") rfl b_tuple (by decide +kernel)) pa_nil)))) (pss_one (ps_expr (pextend (pn 2) (pcall c_walked hr rfl (pa_cons (pe_ix ixC (pn 4) pe_int (fun _ _ => rfl)) (pa_cons (pn 5) pa_nil)))))) pss_nil))))) (pss_one (ps_ret (pn 2))))), ?_⟩
  refine ⟨(by show 0 ≤ sizeLine; decide), fun p hp => ?_⟩
  have S1 := same_new hp (.lst [])
  refine ⟨a, _, rfl, SqL.of (S1 _ _ ha), ?_⟩
  refine for_enumL (xs := Nd.vals N) (fun i σ H' => ∃ N1 N2 ws v3 v4 v5, σ = [some (.ref a), some (.ref b), some (.ref p), v3, v4, v5] ∧ WI N N1 N2 ∧ (Nd.vals N1).length = i ∧ Same H H' ∧ H' p = some (.lst ws) ∧ St2s H' ws (Nd.wl N1 π 0))
    ⟨.nil, N, [], none, none, none, rfl, ⟨rfl⟩, rfl, S1, upd_same, All2.nil⟩ (fun i σ H' ⟨N1, N2, ws, v3, v4, v5, _, _, _, S', _⟩ => SqL.of (S' _ _ ha)) ?_ ?_
  · rintro i x T σ H' hx ⟨N1, N2, ws, v3, v4, v5, rfl, wi, hi, S', hp', st⟩ hT
    refine ⟨_, _, SqT.of upd_same, ?_⟩
    have S2 : Same H' (upd H' T (.tup [.int (i : Nat), x])) := same_new hT _
    have S2' := S'.trans S2
    have hp2 := S2 _ _ hp'
    have st2 := St2s.same st S2
    generalize upd H' T (.tup [.int (i : Nat), x]) = H2 at S2 S2' hp2 st2
    refine ⟨pathV π, SqT.of (S2' _ _ hb), ?_⟩
    refine ⟨(by show (pathV π ++ [V.int (i : Nat)]).length ≤ sizeLine; rw [List.length_append, List.length_map]; exact mil (by simp; omega)), fun pa hpa => ?_⟩
    rw [← pathV_snoc]
    have S3 : Same H2 (upd H2 pa (.tup (pathV (π ++ [i])))) := same_new hpa _
    have S3' := S2'.trans S3
    have hp3 := S3 _ _ hp2
    have st3 := St2s.same st2 S3
    have hpa3 : (upd H2 pa (.tup (pathV (π ++ [i])))) pa = some (.tup (pathV (π ++ [i]))) := upd_same
    generalize upd H2 pa (.tup (pathV (π ++ [i]))) = H3 at S3 S3' hp3 st3 hpa3
    have lw : ws.length ≤ 1000 := by
      have h1 := st.1
      rw [Nd.len_wl] at h1
      have h2 := (Nd.len_ol N1 0).1
      have h3 := congrArg (fun m => (Nd.tx m).length) wi.eq
      have h3 : (Nd.tx (Nd.app N1 N2)).length = (Nd.tx N).length := h3
      rw [Nd.tx_app, List.length_append] at h3
      omega
    refine ⟨⟨_, hp3⟩, (by show 2 ≤ sizeLine; decide), fun r hr' => ?_⟩
    have S4 : Same H3 (upd H3 r (.tup [.ref pa, x])) := same_new hr' _
    have S4' := S3'.trans S4
    have hp4 := S4 _ _ hp3
    have st4 := St2s.same st3 S4
    have hpa4 := S4 _ _ hpa3
    have hr4 : (upd H3 r (.tup [.ref pa, x])) r = some (.tup [.ref pa, x]) := upd_same
    generalize upd H3 r (.tup [.ref pa, x]) = H4 at S4 S4' hp4 st4 hpa4 hr4
    refine ⟨_, hp4, (by omega), ?_⟩
    have S5 : Same H (upd H4 p (.lst (ws ++ [.ref r]))) := sU S4' hp _
    have e0 : 0 + (Nd.vals N1).length = i := by omega
    rcases wi.item hi hx with ⟨c, r', rfl, rfl⟩ | ⟨c, t, b', n', r', rfl, rfl⟩
    · refine ⟨_, _, .str _, kit_tuple (.str [c]), ?_⟩
      refine ⟨Nd.app N1 (.lett c .nil), r', _, _, _, _, rfl, ⟨by rw [Nd.app_app]; exact wi.eq⟩, by rw [Nd.vals_app, List.length_append, hi]; rfl, S5, upd_same, ?_⟩
      rw [Nd.wl_app, e0]
      refine (St2s.upd st4 hp4).app (All2.one ?_)
      exact St2.upd ⟨r, pa, rfl, hr4, hpa4⟩ hp4
    · obtain ⟨b1, b2, b3, b4, b5, b6⟩ := wi.br hN
      have ht5 := S5 _ _ b1
      refine ⟨_, _, .tup ht5, kit_tuple (.tup []), ?_⟩
      refine ⟨⟨_, upd_same⟩, _, .ref b', .inr (SqT.of ht5), rfl, ?_⟩
      have hpa5 := keep_tup (ys := ws ++ [.ref r]) hp4 hpa4
      have st5 := St2s.upd st4 hp4 (ys := ws ++ [.ref r])
      have so5 : St2 (upd H4 p (.lst (ws ++ [.ref r]))) (.ref r) (π ++ [i], .ref t) := St2.upd ⟨r, pa, rfl, hr4, hpa4⟩ hp4
      have hp5 : (upd H4 p (.lst (ws ++ [.ref r]))) p = some (.lst (ws ++ [.ref r])) := upd_same
      generalize upd H4 p (.lst (ws ++ [.ref r])) = H5 at S5 ht5 hpa5 st5 so5 hp5
      refine ⟨b', pa, n', π ++ [i], rfl, S5 _ _ b2, b3.same S5, by omega, by omega, hpa5, by rw [List.length_append]; show π.length + 1 + _ ≤ _; omega, fun H6 p6 ws6 hp6 S6 e6 st6 => ?_⟩
      have l6 := st6.1
      rw [Nd.len_wl] at l6
      have l1 := st.1
      rw [Nd.len_wl] at l1
      have h6 := S6 _ _ hp5
      refine ⟨_, h6, ws6, e6, (by rw [List.length_append]; show ws.length + 1 + _ ≤ _; omega), ?_⟩
      refine ⟨Nd.app N1 (.br c t b' n' .nil), r', _, _, _, _, rfl, ⟨by rw [Nd.app_app]; exact wi.eq⟩, by rw [Nd.vals_app, List.length_append, hi]; rfl, sU (S5.trans S6) hp _, upd_same, ?_⟩
      rw [Nd.wl_app, e0]
      have e : Nd.wl (.br c t b' n' .nil) π i = [(π ++ [i], .ref t)] ++ Nd.wl n' (π ++ [i]) 0 := by show _ :: (_ ++ []) = _; rw [List.append_nil]; rfl
      rw [e, List.append_assoc]
      exact (St2s.upd (St2s.same st5 S6) h6).app ((All2.one (St2.upd (so5.same S6) h6)).app (St2s.upd st6 h6))
  · rintro σ H' ⟨N1, N2, ws, v3, v4, v5, rfl, wi, hi, S', hp', st⟩
    obtain rfl := wi.last hi
    exact q H' p ws hp S' hp' st
theorem walked_all (F : Fun K "walked" "walked" (top 29) f fd) (kF : PySem.W.keepIn K (.ref f) = true) (mF : mg "walked" = some (.ref f)) (bF : Binds K fd ["nest", "before"] []) (b_enumerate : mg "enumerate" = none) (b_isinstance : mg "isinstance" = none) (b_tuple : mg "tuple" = none) :
    ∀ k : Nat, FnOk P w K mg base CX0 k f fd ["nest", "before"] (spWalked2 k)
  | 0 => fn_none fun vs H Q E h => by
    obtain ⟨a, b, N, π, _, _, _, h, _⟩ := h
    omega
  | k + 1 => ok_walked F b_enumerate b_isinstance b_tuple ⟨f, fd, walked_all F kF mF bF b_enumerate b_isinstance b_tuple k, bF, kF, mF⟩
end
end W2
section
variable {P : Program} {w : World} {K : PySem.W.Frag} {mg : Str → Option Value} {base : Heap} {f : Addr} {fd : FuncData}
theorem ok_paths {n : Nat} {T : Addr} (F : Fun K "paths_of" "paths_of" (top 28) f fd) (b_isinstance : mg "isinstance" = none) (b_tuple : mg "tuple" = none) (c_refuse_no_nest : Cal P w K mg base n "refuse_no_nest" ["thing"] (spRefuse T)) (c_walked : Cal P w K mg base n "walked" ["nest", "before"] (spWalked2 61)) :
    FnOk P w K mg base CX0 (n + 1) f fd ["nest"] (spPaths T) := by
  have sc : FnScope ["nest", "path", "item"] ["nest"] (defScope (top 28)) := ⟨rfl, rfl, rfl, by decide +kernel, rfl, by decide +kernel, by decide +kernel⟩
  refine F.ok sc (fun vs H Q E h => ?_) (fun cdv A outer s H vs Q E hr h => ?_)
  · obtain ⟨a, z, N, rfl, _⟩ := h
    rfl
  obtain ⟨a, z, N, rfl, hN, hz, tb, q⟩ := h
  refine ⟨_, (pss_cons (ps_expr (pcall c_refuse_no_nest hr rfl (pa_cons (pn 0) pa_nil))) (pss_one (ps_ret (pe_lc (own := [("path", 1), ("item", 2)]) (g := (gPair _ 1 2)) rfl sc.nd (pi_list (pcall c_walked hr rfl (pa_cons (pn 0) (pa_cons (pe_tup pa_nil) pa_nil)))) (blkOk_by (own := [("path", 1), ("item", 2)]) (N := ["nest", "path", "item"]) (sc := defScope (top 28)) (by decide +kernel)) (fun _ _ _ _ _ => (pg_pair (i := 1) (j := 2) sc.nd rfl (Or.inl rfl) rfl (Or.inl rfl) rfl)) (fun _ _ _ _ _ => (pts_one (ptruK (K := K) (pe_callB (cIsiK (K := K)) rfl b_isinstance (by decide +kernel) (pa_cons (pn 2) (pa_cons (ptype (T := "tuple") rfl b_tuple (by decide +kernel)) pa_nil)))))) (fun _ _ _ _ _ => (pn 1)))))), ?_⟩
  refine ⟨a, z, N, rfl, hN, tb, fun H1 S1 => ?_⟩
  refine ⟨(by show 0 ≤ sizeLine; decide), fun p0 hp0 => ?_⟩
  have S2 := S1.trans (same_new hp0 (.tup []))
  have hp2 : (upd H1 p0 (.tup [])) p0 = some (.tup (pathV [])) := upd_same
  generalize upd H1 p0 (.tup []) = H2 at S2 hp2
  have hN2 := hN.same S2
  have hlv := hN.lv
  have hlen := hN.len
  have htx := hN.tx
  refine ⟨a, p0, N, [], rfl, hN2.top, hN2.holds, by omega, by rw [htx]; exact hlen, hp2, by show 0 + _ ≤ _; omega, fun H3 p ws hp S3 e3 st => ?_⟩
  have S3' := S2.trans S3
  refine ⟨p, rfl, ⟨_, SqL.of e3⟩, fun D hD => ?_⟩
  have lw := st.1
  have lo1 := (Nd.len_ol N 0).1
  rw [Nd.len_wl] at lw
  rw [htx] at lo1
  have it := wl_item (hN.holds.same S3') [] 0
  refine lc_list (xs := ws) (fun i H' => Same H3 H' ∧ ∃ us, H' D = some (.lst us) ∧ us.length ≤ i ∧ Pths H' us ((((Nd.wl N [] 0).take i).filter fun x => Nd.isRef x.2).map (·.1))) ⟨same_new hD _, [], upd_same, Nat.le_refl _, All2.nil⟩ (fun i H' _ h => SqL.of (h.1 _ _ e3)) ?_ ?_
  · rintro i x H' hx ⟨k, us, hu, lu, pu⟩
    have hi : i < (Nd.wl N [] 0).length := by
      rw [← st.1]
      exact (List.getElem?_eq_some_iff.mp hx).1
    have hy : (Nd.wl N [] 0)[i]? = some (Nd.wl N [] 0)[i] := List.getElem?_eq_getElem hi
    have stp := (st.2 i x _ hx hy).same k
    have my := it _ (List.mem_of_getElem? hy)
    generalize (Nd.wl N [] 0)[i] = y at stp hy my
    obtain ⟨r, pa, rfl, h2, h3⟩ := stp
    have tk : (Nd.wl N [] 0).take (i + 1) = (Nd.wl N [] 0).take i ++ [y] := by rw [List.take_add_one, hy]; rfl
    have li : i < ws.length := (List.getElem?_eq_some_iff.mp hx).1
    refine ⟨_, _, SqT.of h2, rfl, ?_⟩
    rw [tk, List.filter_append, List.map_append]
    rcases my with ⟨c, e⟩ | ⟨t, c, a', e, ht⟩
    · rw [e]
      refine ⟨_, _, .str _, kit_tuple (.str [c]), ?_⟩
      refine ⟨k, us, hu, by omega, ?_⟩
      have : [y].filter (fun x => Nd.isRef x.2) = [] := by simp [e, Nd.isRef]
      rw [this, List.map_nil, List.append_nil]
      exact pu
    · rw [e]
      have ht' := k _ _ ht
      refine ⟨_, _, .tup ht', kit_tuple (.tup []), ?_⟩
      refine ⟨us, hu, mil (by omega), ?_⟩
      refine ⟨sU k hD _, _, upd_same, by rw [List.length_append]; show us.length + 1 ≤ _; omega, ?_⟩
      have : [y].filter (fun x => Nd.isRef x.2) = [y] := by simp [e, Nd.isRef]
      rw [this]
      exact (Pths.upd pu hu).app (All2.one (PthAt.upd ⟨pa, rfl, h3⟩ hu))
  · rintro H' ⟨k, us, hu, lu, pu⟩
    rw [List.take_of_length_le (by rw [Nd.len_wl]; omega), Nd.wl_pb] at pu
    exact q H' D us (S3'.free hD) (S3'.trans k) hu pu
theorem ok_depth {n : Nat} {T : Addr} (F : Fun K "depth_of" "depth_of" (top 27) f fd) (b_max : mg "max" = none) (b_len : mg "len" = none) (c_paths_of : Cal P w K mg base n "paths_of" ["nest"] (spPaths T)) : FnOk P w K mg base CX0 (n + 1) f fd ["nest"] (spDepth T) := by
  have sc : FnScope ["nest", "path"] ["nest"] (defScope (top 27)) := ⟨rfl, rfl, rfl, by decide +kernel, rfl, by decide +kernel, by decide +kernel⟩
  refine F.ok sc (fun vs H Q E h => ?_) (fun cdv A outer s H vs Q E hr h => ?_)
  · obtain ⟨a, z, N, rfl, _⟩ := h
    rfl
  obtain ⟨a, z, N, rfl, hN, hz, tb, q⟩ := h
  refine ⟨_, (pss_one (ps_ret (pmaxD rfl rfl b_max (pe_lc (own := [("path", 1)]) (g := (gName 1)) rfl sc.nd (pi_list (pcall c_paths_of hr rfl (pa_cons (pn 0) pa_nil))) (blkOk_by (own := [("path", 1)]) (N := ["nest", "path"]) (sc := defScope (top 27)) (by decide +kernel)) (fun _ _ _ _ _ => (pg_name (i := 1) sc.nd rfl (Or.inl rfl))) (fun _ _ _ _ _ => pts_nil) (fun _ _ _ _ _ => (pe_callB (cLenK (K := K)) rfl b_len (by decide +kernel) (pa_cons (pn 1) pa_nil))))))), ?_⟩
  refine ⟨a, z, N, rfl, hN, hz, tb, fun H1 p ws hp S1 e1 pw => ?_⟩
  refine ⟨p, rfl, ⟨_, SqL.of e1⟩, fun D hD => ?_⟩
  have lp := Nd.len_pb N [] 0
  have htx := hN.tx
  rw [htx] at lp
  have lw := pw.1
  rw [List.length_map] at lw
  refine lc_list (xs := ws) (fun i H' => Same H1 H' ∧ H' D = some (.lst ((((Nd.pb N [] 0).map fun y => ((y.1.length : Nat) : Int)).take i).map V.int))) ⟨same_new hD _, upd_same⟩ (fun i H' _ h => SqL.of (h.1 _ _ e1)) ?_ ?_
  · rintro i x H' hx ⟨k, hu⟩
    have hi : i < (Nd.pb N [] 0).length := by
      rw [← lw]
      exact (List.getElem?_eq_some_iff.mp hx).1
    have hy : (Nd.pb N [] 0)[i]? = some (Nd.pb N [] 0)[i] := List.getElem?_eq_getElem hi
    have pt := (pw.2 i x _ hx (by rw [List.getElem?_map, hy]; rfl)).same k
    have tk : ((Nd.pb N [] 0).map fun y => ((y.1.length : Nat) : Int)).take (i + 1) = ((Nd.pb N [] 0).map fun y => ((y.1.length : Nat) : Int)).take i ++ [(((Nd.pb N [] 0)[i].1.length : Nat) : Int)] := by rw [List.take_add_one, List.getElem?_map, hy]; rfl
    generalize (Nd.pb N [] 0)[i] = y at pt hy tk
    obtain ⟨r, rfl, h2⟩ := pt
    refine ⟨rfl, ?_⟩
    refine .inl ⟨_, .inr (SqT.of h2), _, hu, ?_, sU k hD _, ?_⟩
    · rw [List.length_map, List.length_take, List.length_map]; exact Nat.lt_of_le_of_lt (Nat.min_le_right _ _) (by have : (1000000 : Nat) < sizeLine := by decide
                                                                                                                   omega)
    · rw [upd_same, tk, List.map_append, List.length_map]; rfl
  · rintro H' ⟨k, hu⟩
    rw [List.take_of_length_le (by rw [List.length_map]; omega)] at hu
    obtain ⟨p1, p2, p3⟩ := Nd.pb_len N [] 0
    refine ⟨_, SqL.of hu, fun e => ?_, fun m hm hmax => ?_⟩
    · have e0 : Nd.bd N = 0 := by
        by_cases c : Nd.bd N = 0
        · exact c
        · obtain ⟨y, hy, _⟩ := p3 (by omega)
          rw [List.map_eq_nil_iff.mp e] at hy; cases hy
      have := q H' (S1.trans k)
      rw [e0] at this; exact this
    · obtain ⟨y, hy, e⟩ := List.mem_map.mp hm
      have h1 := p1 y hy
      have h0 : 0 < Nd.bd N := by
        by_cases c : Nd.bd N = 0
        · rw [p2 c] at hy; cases hy
        · omega
      obtain ⟨y', hy', e'⟩ := p3 h0
      have h2 := hmax _ (List.mem_map.mpr ⟨y', hy', rfl⟩)
      have h1 : y.1.length ≤ 0 + Nd.bd N := h1
      have e' : y'.1.length = 0 + Nd.bd N := e'
      have em : m = ((Nd.bd N : Nat) : Int) := by omega
      rw [em]
      exact q H' (S1.trans k)
end
section
variable {P : Program} {w : World} {K : PySem.W.Frag} {mg : Str → Option Value} {base : Heap} {f : Addr} {fd : FuncData}
theorem ok_copied {n : Nat} (F : Fun K "copied" "copied" (top 32) f fd) (b_isinstance : mg "isinstance" = none) (b_str : mg "str" = none) (c_copied : Cal P w K mg base n "copied" ["nest"] (spCopied n)) : FnOk P w K mg base CX0 (n + 1) f fd ["nest"] (spCopied (n + 1)) := by
  have sc : FnScope ["nest", "item"] ["nest"] (defScope (top 32)) := ⟨rfl, rfl, rfl, by decide +kernel, rfl, by decide +kernel, by decide +kernel⟩
  refine F.ok sc (fun vs H Q E h => ?_) (fun cdv A outer s H vs Q E hr h => ?_)
  · obtain ⟨a, N, rfl, _⟩ := h
    rfl
  obtain ⟨a, N, rfl, ha, hN, wN, hlv, hz, q⟩ := h
  refine ⟨_, (pss_one (ps_ret (pe_lc (own := [("item", 1)]) (g := (gName 1)) rfl sc.nd (pi_list (pn 0)) (blkOk_by (own := [("item", 1)]) (N := ["nest", "item"]) (sc := defScope (top 32)) (by decide +kernel)) (fun _ _ _ _ _ => (pg_name (i := 1) sc.nd rfl (Or.inl rfl))) (fun _ _ _ _ _ => pts_nil) (fun _ _ _ _ _ => (pe_ifExp (ptruK (K := K) (pe_callB (cIsiK (K := K)) rfl b_isinstance (by decide +kernel) (pa_cons (pn 1) (pa_cons (ptype (T := "str") rfl b_str (by decide +kernel)) pa_nil)))) (pn 1) (pe_tup (pa_cons (pe_ix (ixK (K := K)) (pn 1) pe_int (fun _ _ => rfl)) (pa_cons (pcall c_copied hr rfl (pa_cons (pe_ix (ixK (K := K)) (pn 1) pe_int (fun _ _ => rfl)) pa_nil)) pa_nil)))))))), ?_⟩
  refine ⟨a, rfl, ⟨_, SqL.of ha⟩, fun D hD => ?_⟩
  have lv := Nd.len_vals N
  refine lc_list (xs := Nd.vals N) (fun i H' => ∃ N1 N2 M, WI N N1 N2 ∧ (Nd.vals N1).length = i ∧ Same H H' ∧ H' D = some (.lst (Nd.vals M)) ∧ Nd.Holds H' M ∧ (D :: Nd.lists M).Nodup ∧ (∀ b ∈ D :: Nd.lists M, H b = none) ∧ Nd.tx M = Nd.tx N1 ∧ Nd.WF M ∧ (Nd.vals M).length = i)
    ⟨.nil, N, .nil, ⟨rfl⟩, rfl, same_new hD _, upd_same, trivial, by simp [Nd.lists], fun b hb => by rw [show b = D by simpa [Nd.lists] using hb]; exact hD, rfl, trivial, rfl⟩
    (fun i H' _ ⟨N1, N2, M, _, _, S', _⟩ => SqL.of (S' _ _ ha)) ?_ ?_
  · rintro i x H' hx ⟨N1, N2, M, wi, hi, S', hD', hM, nd, fr, et, wM, lM⟩
    have li : i < (Nd.vals N).length := (List.getElem?_eq_some_iff.mp hx).1
    refine ⟨rfl, ?_⟩
    have nD : D ∉ Nd.lists M := (List.nodup_cons.mp nd).1
    rcases wi.item hi hx with ⟨c, r', rfl, rfl⟩ | ⟨c, t, b', n', r', rfl, rfl⟩
    · refine ⟨_, _, .str _, kit_str (.str [c]), ?_⟩
      refine ⟨_, hD', mil (by omega), Nd.app N1 (.lett c .nil), r', Nd.app M (.lett c .nil), ⟨by rw [Nd.app_app]; exact wi.eq⟩, by rw [Nd.vals_app, List.length_append, hi]; rfl, sU S' hD _, by rw [upd_same, Nd.vals_app]; rfl, (Nd.holds_app _ _).mpr ⟨hM.upd hD' nD, trivial⟩, ?_, ?_, by rw [Nd.tx_app, Nd.tx_app, et], ?_, by rw [Nd.vals_app, List.length_append, lM]; rfl⟩
      · rw [Nd.lists_app]; simpa [Nd.lists] using nd
      · rw [Nd.lists_app]; simpa [Nd.lists] using fr
      · refine (Nd.wf_app _ _).mpr ⟨wM, ?_, trivial⟩
        have := ((Nd.wf_app _ _).mp (by rw [wi.eq]; exact wN)).2
        exact this.1
    · obtain ⟨b1, b2, b3, b4, b5, b6⟩ := wi.br hN
      have w2 := ((Nd.wf_app _ _).mp (by rw [wi.eq]; exact wN)).2
      have ht := S' _ _ b1
      refine ⟨_, _, .tup ht, kit_str (.tup []), ?_⟩
      refine ⟨_, sg c, .inr (SqT.of ht), rfl, _, .ref b', .inr (SqT.of ht), rfl, ?_⟩
      refine ⟨b', n', rfl, S' _ _ b2, b3.same S', w2.2.1, by omega, by omega, fun H2 p2 M2 at2 fr2 S2 et2 wM2 => ?_⟩
      refine ⟨(by show 2 ≤ sizeLine; decide), fun t' ht' => ?_⟩
      have S3 : Same H2 (upd H2 t' (.tup [sg c, .ref p2])) := same_new ht' _
      have at3 := at2.same S3
      have e3 : (upd H2 t' (.tup [sg c, .ref p2])) t' = some (.tup [sg c, .ref p2]) := upd_same
      have S3' := S2.trans S3
      generalize upd H2 t' (.tup [sg c, .ref p2]) = H3 at S3 S3' at3 e3
      have hD3 := S3' _ _ hD'
      have hM3 := hM.same S3'
      have apart : ∀ b ∈ p2 :: Nd.lists M2, b ∉ D :: Nd.lists M := fun b hb hm => by
        have h1 := fr2 b hb
        rcases List.mem_cons.mp hm with e | hm
        · rw [e, hD'] at h1; cases h1
        · obtain ⟨xs, e⟩ := hM.lst b hm
          rw [e] at h1; cases h1
      have nD2 : D ∉ p2 :: Nd.lists M2 := fun hm => apart D hm List.mem_cons_self
      have el : Nd.lists (Nd.app M (.br c t' p2 M2 .nil)) = Nd.lists M ++ (p2 :: Nd.lists M2) := by rw [Nd.lists_app]; simp [Nd.lists]
      refine ⟨_, hD3, mil (by omega), Nd.app N1 (.br c t b' n' .nil), r', Nd.app M (.br c t' p2 M2 .nil), ⟨by rw [Nd.app_app]; exact wi.eq⟩, by rw [Nd.vals_app, List.length_append, hi]; rfl, sU (S'.trans S3') hD _, by rw [upd_same, Nd.vals_app]; rfl, (Nd.holds_app _ _).mpr ⟨hM3.upd hD3 nD, ?_, ?_, at3.holds.upd hD3 fun m => nD2 (List.mem_cons_of_mem _ m), trivial⟩, ?_, ?_, by rw [Nd.tx_app, Nd.tx_app, et]; show _ ++ (c :: (Nd.tx M2 ++ _)) = _; rw [et2]; rfl, (Nd.wf_app _ _).mpr ⟨wM, w2.1, wM2, trivial⟩, by rw [Nd.vals_app, List.length_append, lM]; rfl⟩
      · exact keep_tup hD3 e3
      · rw [upd_ne fun e => nD2 (by rw [← e]; exact List.mem_cons_self)]; exact at3.top
      · rw [el]
        refine List.nodup_cons.mpr ⟨fun m => ?_, List.nodup_append.mpr ⟨(List.nodup_cons.mp nd).2, at3.nd, fun b hb b2 hb2 e => apart b2 hb2 (by rw [← e]; exact List.mem_cons_of_mem _ hb)⟩⟩
        rcases List.mem_append.mp m with m | m
        · exact nD m
        · exact nD2 m
      · intro b hb
        rw [el] at hb
        rcases List.mem_cons.mp hb with e | hb
        · rw [e]; exact hD
        · rcases List.mem_append.mp hb with hb | hb
          · exact fr b (List.mem_cons_of_mem _ hb)
          · exact S'.free (fr2 b hb)
  · rintro H' ⟨N1, N2, M, wi, hi, S', hD', hM, nd, fr, et, wM, lM⟩
    obtain rfl := wi.last hi
    exact q H' D M ⟨hD', hM, nd⟩ fr S' et wM
theorem copied_all (F : Fun K "copied" "copied" (top 32) f fd) (kF : PySem.W.keepIn K (.ref f) = true) (mF : mg "copied" = some (.ref f)) (bF : Binds K fd ["nest"] []) (b_isinstance : mg "isinstance" = none) (b_str : mg "str" = none) :
    ∀ k : Nat, FnOk P w K mg base CX0 k f fd ["nest"] (spCopied k)
  | 0 => fn_none fun vs H Q E h => by
    obtain ⟨a, N, _, _, _, _, h, _⟩ := h
    omega
  | k + 1 => ok_copied F b_isinstance b_str ⟨f, fd, copied_all F kF mF bF b_isinstance b_str k, bF, kF, mF⟩
theorem ok_whole {n : Nat} (F : Fun K "is_whole" "is_whole" (top 15) f fd) (b_isinstance : mg "isinstance" = none) (b_int : mg "int" = none) (b_bool : mg "bool" = none) : FnOk P w K mg base CX0 (n + 1) f fd ["thing"] spWhole := by
  have sc : FnScope ["thing"] ["thing"] (defScope (top 15)) := ⟨rfl, rfl, rfl, by decide +kernel, rfl, by decide +kernel, by decide +kernel⟩
  refine F.ok sc (fun vs H Q E h => ?_) (fun cdv A outer s H vs Q E hr h => ?_)
  · obtain ⟨i, rfl, _⟩ := h
    rfl
  obtain ⟨i, rfl, q⟩ := h
  refine ⟨_, (pss_one (ps_ret (pand (pe_callB cIsi rfl b_isinstance (by decide +kernel) (pa_cons (pn 0) (pa_cons (ptype (T := "int") rfl b_int (by decide +kernel)) pa_nil))) (pe_one (pnot (pe_callB cIsi rfl b_isinstance (by decide +kernel) (pa_cons (pn 0) (pa_cons (ptype (T := "bool") rfl b_bool (by decide +kernel)) pa_nil)))))))), ?_⟩
  refine ⟨_, _, .int i, kit_int (.int i), _, _, .int i, kit_bool (.int i), ?_⟩
  exact q
theorem ok_tupAt {n : Nat} (F : Fun K "tuple_at" "tuple_at" (top 31) f fd) (b_isinstance : mg "isinstance" = none) (b_str : mg "str" = none) (b_len : mg "len" = none) (c_is_whole : Cal P w K mg base n "is_whole" ["thing"] spWhole) : FnOk P w K mg base CX0 (n + 1) f fd ["nest", "place"] spTupAt := by
  have sc : FnScope ["nest", "place"] ["nest", "place"] (defScope (top 31)) := ⟨rfl, rfl, rfl, by decide +kernel, rfl, by decide +kernel, by decide +kernel⟩
  refine F.ok sc (fun vs H Q E h => ?_) (fun cdv A outer s H vs Q E hr h => ?_)
  · obtain ⟨a, N, j, c, t, b, m, rfl, _⟩ := h
    rfl
  obtain ⟨a, N, j, c, t, b, m, rfl, ha, it, ht, lv, q⟩ := h
  refine ⟨_, (pss_cons (ps_if (PW.pt (pw_or (pt_not (ptru (pcall c_is_whole hr rfl (pa_cons (pn 1) pa_nil)))) (pw_or (pcmp opLt (pn 1) pe_int (nomark _)) (pw_or (pcmp opGe (pn 1) (pe_callB cLen rfl b_len (by decide +kernel) (pa_cons (pn 0) pa_nil)) (nomark _)) (pw_or1 (ptru (pe_callB cIsi rfl b_isinstance (by decide +kernel) (pa_cons (pe_ix ixC (pn 0) (pn 1) (fun _ _ => rfl)) (pa_cons (ptype (T := "str") rfl b_str (by decide +kernel)) pa_nil))))))))) (pss_one ps_never) pss_nil) (pss_one (ps_ret (pe_ix ixC (pn 0) (pn 1) (fun _ _ => rfl))))), ?_⟩
  obtain ⟨g1, g2⟩ := it.get
  refine ⟨_, rfl, ?_⟩
  refine ite2 (fun z => ?_) (fun _ => ?_)
  · have z : ((j : Nat) : Int) < 0 := of_decide_eq_true z
    omega
  refine .inl ⟨_, .inl (SqL.of ha), ?_⟩
  refine ite2 (fun z => ?_) (fun _ => ?_)
  · have z : ((Nd.vals N).length : Int) ≤ ((j : Nat) : Int) := of_decide_eq_true z
    omega
  refine ⟨_, .ref t, .inl (SqL.of ha), atI_nat g1, ?_⟩
  refine ⟨_, _, .tup ht, kit_str (.tup []), ?_⟩
  exact ⟨_, .ref t, .inl (SqL.of ha), atI_nat g1, q⟩
theorem ok_atPath {n : Nat} {T : Addr} (F : Fun K "at_path" "at_path" (top 30) f fd) (b_isinstance : mg "isinstance" = none) (b_tuple : mg "tuple" = none) (b_len : mg "len" = none) (c_refuse_no_nest : Cal P w K mg base n "refuse_no_nest" ["thing"] (spRefuse T)) (c_tuple_at : Cal P w K mg base n "tuple_at" ["nest", "place"] spTupAt) (c_copied : Cal P w K mg base n "copied" ["nest"] (spCopied 61)) :
    FnOk P w K mg base CX0 (n + 1) f fd ["nest", "path"] (spAtPath T) := by
  have sc : FnScope ["nest", "path", "place", "bracket", "inner"] ["nest", "path"] (defScope (top 30)) := ⟨rfl, rfl, rfl, by decide +kernel, rfl, by decide +kernel, by decide +kernel⟩
  refine F.ok sc (fun vs H Q E h => ?_) (fun cdv A outer s H vs Q E hr h => ?_)
  · obtain ⟨a, pa, z, N, p, c, m, rfl, _⟩ := h
    rfl
  obtain ⟨a, pa, z, N, p, c, m, rfl, hN, hz, tb, hpa, hp, q⟩ := h
  refine ⟨_, (pss_cons (ps_expr (pcall c_refuse_no_nest hr rfl (pa_cons (pn 0) pa_nil))) (pss_cons (ps_if (PW.pt (pw_or (pt_not (ptru (pe_callB cIsi rfl b_isinstance (by decide +kernel) (pa_cons (pn 1) (pa_cons (ptype (T := "tuple") rfl b_tuple (by decide +kernel)) pa_nil))))) (pw_or1 (pcmp (opEq hr.units) (pe_callB cLen rfl b_len (by decide +kernel) (pa_cons (pn 1) pa_nil)) pe_int (nomark _))))) (pss_one ps_never) pss_nil) (pss_cons (ps_par (i := 3) (j := 4) rfl sc.nd rfl rfl (by decide) rfl rfl (pa_cons pe_str (pa_cons (pn 0) pa_nil)) rfl) (pss_cons (ps_for PassesOwn.never rfl (pi_tup (pn 1)) (pg_name (i := 2) sc.nd rfl (Or.inl rfl)) (pss_one (ps_asg (pcall c_tuple_at hr rfl (pa_cons (pn 4) (pa_cons (pn 2) pa_nil))) (pg_pair (i := 3) (j := 4) sc.nd rfl (Or.inl rfl) rfl (Or.inl rfl) rfl)))) (pss_one (ps_ret (pe_tup (pa_cons (pn 3) (pa_cons (pcall c_copied hr rfl (pa_cons (pn 4) pa_nil)) pa_nil))))))))), ?_⟩
  refine ⟨a, z, N, rfl, hN, tb, fun H1 S1 => ?_⟩
  have hpa1 := S1 _ _ hpa
  have hN1 := hN.same S1
  obtain ⟨_, e0, hne, way⟩ := Nd.pb_way N .nil [] 0 p c m rfl hp
  have e0 : p = _ := e0
  subst e0
  have hlv := hN.lv
  have hlen := hN.len
  have htx := hN.tx
  refine ⟨_, _, .tup hpa1, kit_tuple (.tup []), ?_⟩
  refine .inl ⟨_, .inr (SqT.of hpa1), ?_⟩
  refine ite2 (fun z => ?_) (fun _ => ?_)
  · have z : ((pathV p).length : Int) = 0 := dE z
    rw [List.length_map] at z
    exact absurd (List.length_eq_zero_iff.mp (by omega)) hne
  refine ⟨_, _, rfl, ?_⟩
  refine ⟨pa, rfl, ⟨_, SqT.of hpa1⟩, ?_⟩
  refine for_tup (xs := pathV p) (fun i σ H' => H' = H1 ∧ ∃ v2 bv b' m', σ = [some (.ref a), some (.ref pa), v2, some bv, some (.ref b')] ∧ H1 b' = some (.lst (Nd.vals m')) ∧ Nd.Holds H1 m' ∧ Nd.WF m' ∧ Nd.lv m' ≤ 60 ∧ (Nd.tx m').length ≤ 1000 ∧ Nd.Way bv m' (p.drop i) c m)
    ⟨rfl, none, _, a, N, rfl, hN1.top, hN1.holds, hN.wf, hlv, by rw [htx]; exact hlen, way _⟩ (fun i σ H' _ h => by rw [h.1]; exact SqT.of hpa1) ?_ ?_
  · rintro i x σ H' hx ⟨rfl, v2, bv, b', m', rfl, hb, hm, wm, lm, zm, wy⟩
    rw [List.getElem?_map] at hx
    obtain ⟨j, hj⟩ : ∃ j, p[i]? = some j := by
      cases h : p[i]? with
      | none => rw [h] at hx; cases hx
      | some j => exact ⟨j, rfl⟩
    rw [hj] at hx
    cases (show some (V.int (j : Nat)) = some x from hx)
    have hil : i < p.length := (List.getElem?_eq_some_iff.mp hj).1
    have edr : p.drop i = j :: p.drop (i + 1) := by
      rw [List.drop_eq_getElem_cons hil]
      congr 1
      exact (List.getElem?_eq_some_iff.mp hj).2
    rw [edr] at wy
    obtain ⟨c1, t, a1, n1, it, wy⟩ := wy
    obtain ⟨x1, x2, x3, x4, x5, x6⟩ := it.holds hm wm
    have lv := Nd.len_vals m'
    refine ⟨b', m', j, c1, t, a1, n1, rfl, hb, it, x1, by omega, ?_⟩
    refine ⟨_, _, SqT.of x1, ?_⟩
    exact ⟨rfl, _, _, a1, n1, rfl, x2, x3, x4, by omega, by omega, wy⟩
  · rintro σ H' ⟨rfl, v2, bv, b', m', rfl, hb, hm, wm, lm, zm, wy⟩
    rw [List.length_map, List.drop_length] at wy
    obtain ⟨rfl, rfl⟩ := wy
    refine ⟨b', m', rfl, hb, hm, wm, by omega, zm, fun H2 q2 M at2 fr2 S2 et2 wM => ?_⟩
    refine ⟨(by show 2 ≤ sizeLine; decide), fun r hr' => ?_⟩
    have S3 := same_new hr' (.tup [sg c, .ref q2])
    exact q _ r q2 M ((S1.trans S2).free hr') upd_same (at2.same S3) (fun b hb => S1.free (fr2 b hb)) ((S1.trans S2).trans S3) et2 wM
end
end G
set_option Elab.async false
set_option linter.all false
set_option maxRecDepth 100000
set_option maxHeartbeats 4000000
namespace N1
open PySem PySem.Spec PyProof.Rows L2
namespace Nd
theorem bd_app (m : Nd) : ∀ n, bd (app n m) = max (bd n) (bd m)
  | nil => by show bd m = max 0 (bd m); omega
  | lett c r => bd_app m r
  | br c t a n r => by show max (bd n + 1) (bd (app r m)) = max (max (bd n + 1) (bd r)) (bd m); rw [bd_app m r]; omega
theorem pb_pre : ∀ (n : Nd) (π : List Nat) (k : Nat), pb n π k = (pb n [] k).map fun y => (π ++ y.1, y.2)
  | nil, _, _ => rfl
  | lett c r, π, k => pb_pre r π (k + 1)
  | br c t a n r, π, k => by
    show (π ++ [k], c, n) :: (pb n (π ++ [k]) 0 ++ pb r π (k + 1)) = (([] ++ [k], c, n) :: (pb n ([] ++ [k]) 0 ++ pb r [] (k + 1))).map _
    rw [pb_pre n (π ++ [k]) 0, pb_pre n ([] ++ [k]) 0, pb_pre r π (k + 1), List.map_cons, List.map_append, List.map_map]
    simp [Function.comp_def]
def nop : Nd → Nat
  | nil => 0
  | lett _ r => nop r
  | br _ _ _ n r => nop n + nop r + 1
theorem pb_nop : ∀ (n : Nd) (π : List Nat) (k : Nat), (pb n π k).length = nop n
  | nil, _, _ => rfl
  | lett c r, π, k => pb_nop r π (k + 1)
  | br c t a n r, π, k => by
    show (pb n (π ++ [k]) 0 ++ pb r π (k + 1)).length + 1 = _
    rw [List.length_append, pb_nop n, pb_nop r]; rfl
theorem nop_app (m : Nd) : ∀ n, nop (app n m) = nop n + nop m
  | nil => by show nop m = 0 + nop m; omega
  | lett c r => nop_app m r
  | br c t a n r => by show nop n + nop (app r m) + 1 = nop n + nop r + 1 + nop m; rw [nop_app m r]; omega
theorem nop_sh : ∀ n, nop (sh n) = nop n
  | nil => rfl
  | lett c r => nop_sh r
  | br c t a n r => by show nop (sh n) + nop (sh r) + 1 = _; rw [nop_sh n, nop_sh r]; rfl
theorem bd_sh : ∀ n, bd (sh n) = bd n
  | nil => rfl
  | lett c r => bd_sh r
  | br c t a n r => by show max (bd (sh n) + 1) (bd (sh r)) = _; rw [bd_sh n, bd_sh r]; rfl
def ab : Nd → Nd
  | nil => nil
  | lett c r => app (ab r) (lett c nil)
  | br c t a n r => app (ab r) (br c t a (ab n) nil)
theorem tx_ab : ∀ {n : Nd}, WF n → tx (ab n) = turn (tx n)
  | nil, _ => rfl
  | lett c r, w => by
    show tx (app (ab r) (lett c nil)) = turn (c :: tx r)
    rw [tx_app, tx_ab (n := r) w.2, show c :: tx r = [c] ++ tx r from rfl, turn_app]
    show turn (tx r) ++ [c] = turn (tx r) ++ [oth c]
    obtain ⟨h1, h2⟩ := lt_not w.1
    rw [oth_id (by rw [h1]; exact Bool.false_ne_true) (by rw [h2]; exact Bool.false_ne_true)]
  | br c t a n r, w => by
    show tx (app (ab r) (br c t a (ab n) nil)) = turn (c :: (tx n ++ oth c :: tx r))
    rw [tx_app, tx_ab (n := r) w.2.2, show c :: (tx n ++ oth c :: tx r) = ([c] ++ tx n) ++ ([oth c] ++ tx r) by simp, turn_app, turn_app, turn_app]
    show turn (tx r) ++ (c :: (tx (ab n) ++ [oth c])) = turn (tx r) ++ [oth (oth c)] ++ (turn (tx n) ++ [oth c])
    rw [tx_ab (n := n) w.2.1, oth_oth]
    simp
theorem wf_ab : ∀ {n : Nd}, WF n → WF (ab n)
  | nil, _ => trivial
  | lett c r, w => (wf_app _ _).mpr ⟨wf_ab (n := r) w.2, w.1, trivial⟩
  | br c t a n r, w => (wf_app _ _).mpr ⟨wf_ab (n := r) w.2.2, w.1, wf_ab (n := n) w.2.1, trivial⟩
theorem bd_ab : ∀ n, bd (ab n) = bd n
  | nil => rfl
  | lett c r => by show bd (app (ab r) (lett c nil)) = bd r; rw [bd_app, bd_ab r]; show max (bd r) 0 = _; omega
  | br c t a n r => by show bd (app (ab r) (br c t a (ab n) nil)) = max (bd n + 1) (bd r); rw [bd_app, bd_ab r]; show max (bd r) (max (bd (ab n) + 1) 0) = _; rw [bd_ab n]; omega
theorem nop_ab : ∀ n, nop (ab n) = nop n
  | nil => rfl
  | lett c r => by show nop (app (ab r) (lett c nil)) = nop r; rw [nop_app, nop_ab r]; rfl
  | br c t a n r => by show nop (app (ab r) (br c t a (ab n) nil)) = nop n + nop r + 1; rw [nop_app, nop_ab r]; show nop r + (nop (ab n) + 0 + 1) = _; rw [nop_ab n]; omega
theorem turned_same {n m : Nd} (wn : WF n) (wm : WF m) (h : tx n = turn (tx m)) : bd n = bd m ∧ nop n = nop m := by
  have e := tx_sh wn (wf_ab wm) (h.trans (tx_ab wm).symm)
  exact ⟨by rw [← bd_sh n, e, bd_sh, bd_ab], by rw [← nop_sh n, e, nop_sh, nop_ab]⟩
theorem pb_hd : ∀ (n : Nd) (k : Nat), ∀ p ∈ (pb n [] k).map (·.1), ∃ j r, p = j :: r ∧ k ≤ j
  | nil, _, p, h => by cases h
  | lett c r, k, p, h => by obtain ⟨j, r', e, hj⟩ := pb_hd r (k + 1) p h; exact ⟨j, r', e, by omega⟩
  | br c t a n r, k, p, h => by
    have h : p ∈ [k] :: ((pb n [k] 0 ++ pb r [] (k + 1)).map (·.1)) := h
    rcases List.mem_cons.mp h with e | h
    · exact ⟨k, [], e, Nat.le_refl _⟩
    · rw [List.map_append, pb_pre n [k] 0, List.map_map] at h
      rcases List.mem_append.mp h with h | h
      · obtain ⟨y, _, e⟩ := List.mem_map.mp h
        exact ⟨k, y.1, e.symm, Nat.le_refl _⟩
      · obtain ⟨j, r', e, hj⟩ := pb_hd r (k + 1) p h
        exact ⟨j, r', e, by omega⟩
theorem pb_paths (c : Nat) (t a : Addr) (n r : Nd) (k : Nat) : (pb (br c t a n r) [] k).map (·.1) = ([k] :: (((pb n [] 0).map (·.1)).map fun p => k :: p)) ++ (pb r [] (k + 1)).map (·.1) := by
  show [k] :: ((pb n [k] 0 ++ pb r [] (k + 1)).map (·.1)) = _
  rw [List.map_append, pb_pre n [k] 0, List.map_map, List.map_map]
  rfl
theorem pb_nodup : ∀ (n : Nd) (k : Nat), ((pb n [] k).map (·.1)).Nodup
  | nil, _ => List.nodup_nil
  | lett c r, k => pb_nodup r (k + 1)
  | br c t a n r, k => by
    rw [pb_paths]
    refine List.nodup_append.mpr ⟨List.nodup_cons.mpr ⟨fun h => ?_, ?_⟩, pb_nodup r (k + 1), fun x hx y hy e => ?_⟩
    · obtain ⟨p, hp, e⟩ := List.mem_map.mp h
      obtain ⟨j, r', e', _⟩ := pb_hd n 0 p hp
      rw [e'] at e; cases e
    · exact List.Pairwise.map _ (fun a b h e => h (List.cons.inj e).2) (pb_nodup n 0)
    · obtain ⟨j, r', e', hj⟩ := pb_hd r (k + 1) y hy
      rcases List.mem_cons.mp hx with e1 | hx
      · rw [e1, e'] at e
        injection e with e _; omega
      · obtain ⟨p, _, e1⟩ := List.mem_map.mp hx
        rw [← e1, e'] at e
        injection e with e _; omega
def Frt (L : List (List Nat)) : Prop := ∀ pre x post, L = pre ++ x :: post → 1 < x.length → x.dropLast ∈ pre
theorem Frt.app {A B : List (List Nat)} (h : Frt A) (k : Frt B) : Frt (A ++ B) := by
  intro pre x post e hx
  rcases List.append_eq_append_iff.mp e with ⟨as, e1, e2⟩ | ⟨bs, e1, e2⟩
  · rw [e1]; exact List.mem_append_right _ (k as x post e2 hx)
  · cases bs with
    | nil =>
      rw [List.append_nil] at e1
      have e2 : B = [] ++ x :: post := by simpa using e2.symm
      have := k [] x post e2 hx
      cases this
    | cons b bs =>
      have e2 : x = b ∧ post = bs ++ B := by simpa using e2
      rw [← e2.1] at e1
      exact h pre x bs e1 hx
theorem Frt.br {L : List (List Nat)} (h : Frt L) (hn : ∀ p ∈ L, p ≠ []) (k : Nat) : Frt ([k] :: L.map fun p => k :: p) := by
  intro pre x post e hx
  cases pre with
  | nil =>
    have e := (List.cons.inj (show [k] :: (L.map fun p => k :: p) = x :: post from e)).1
    rw [← e] at hx
    exact absurd hx (by simp)
  | cons z pre =>
    obtain ⟨rfl, e'⟩ := List.cons.inj (show [k] :: (L.map fun p => k :: p) = z :: (pre ++ x :: post) from e)
    obtain ⟨l1, l2, e1, e2, e3⟩ := List.map_eq_append_iff.mp e'
    obtain ⟨y, l3, e4, e5, e6⟩ := List.map_eq_cons_iff.mp e3
    subst e1; subst e4; subst e5; subst e2
    have hy : y ≠ [] := hn y (List.mem_append_right _ List.mem_cons_self)
    rw [List.dropLast_cons_of_ne_nil hy]
    by_cases c : 1 < y.length
    · exact List.mem_cons_of_mem _ (List.mem_map.mpr ⟨_, h l1 y l3 rfl c, rfl⟩)
    · have : y.dropLast = [] := by
        cases y with
        | nil => rfl
        | cons a b =>
          cases b with
          | nil => rfl
          | cons c d => exact absurd (by simp) c
      rw [this]; exact List.mem_cons_self
theorem pb_front : ∀ (n : Nd) (k : Nat), Frt ((pb n [] k).map (·.1))
  | nil, _ => fun pre x post e => by simp [pb] at e
  | lett c r, k => pb_front r (k + 1)
  | br c t a n r, k => by
    rw [pb_paths]
    exact (Frt.br (pb_front n 0) (fun p hp e => by obtain ⟨j, r', e', _⟩ := pb_hd n 0 p hp; rw [e] at e'; cases e') k).app (pb_front r (k + 1))
theorem pb_front_at {n : Nd} {i : Nat} {x : List Nat} (h : ((pb n [] 0).map (·.1))[i]? = some x) (hx : 1 < x.length) : x.dropLast ∈ ((pb n [] 0).map (·.1)).take i := by
  obtain ⟨hi, e⟩ := List.getElem?_eq_some_iff.mp h
  refine pb_front n 0 _ x (((pb n [] 0).map (·.1)).drop (i + 1)) ?_ hx
  conv => lhs; rw [← List.take_append_drop i ((pb n [] 0).map (·.1)), List.drop_eq_getElem_cons hi, e]
def opAt (l : List Nat) (i : Nat) : Bool := match l[i]? with
  | some c => isOp c
  | none => false
theorem tp_eq (l : List Nat) : ∀ k j, tp l j k = ((List.range' j k).filter (opAt l)).map fun i => (l.getD i 0, seg l (i + 1) ((mate l i).getD 0))
  | 0, j => rfl
  | k + 1, j => by
    rw [List.range'_succ, List.filter_cons, tp, tp_eq l k (j + 1)]
    unfold opAt
    cases e : l[j]? with
    | none => rfl
    | some c =>
      dsimp only
      by_cases h : isOp c = true
      · rw [if_pos h, if_pos h, List.map_cons, List.getD_eq_getElem?_getD, e]; rfl
      · rw [if_neg h, if_neg h]; rfl
def opl (l : List Nat) : List Nat := (List.range l.length).filter (opAt l)
theorem opl_eq {n : Nd} (w : WF n) : (opl (tx n)).map (fun i => ((tx n).getD i 0, seg (tx n) (i + 1) ((mate (tx n) i).getD 0))) = (pb n [] 0).map fun y => (y.2.1, tx y.2.2) := by
  rw [← tp_nest w, tp_eq, opl, List.range_eq_range']
theorem joinL_app (g : List Nat) : ∀ (a b : List (List Nat)), a ≠ [] → b ≠ [] → joinL g (a ++ b) = joinL g a ++ g ++ joinL g b
  | [], _, h, _ => absurd rfl h
  | [x], [], _, h => absurd rfl h
  | [x], y :: r, _, _ => rfl
  | x :: y :: r, b, _, hb => by
    have ih := joinL_app g (y :: r) b (by simp) hb
    show x ++ g ++ joinL g ((y :: r) ++ b) = x ++ g ++ joinL g (y :: r) ++ g ++ joinL g b
    rw [ih]; simp
theorem oT_app (A B : List (Nat × Nat)) : joinL [10] ((if oT A = [] then [] else [oT A]) ++ (if oT B = [] then [] else [oT B])) = oT (A ++ B) := by
  by_cases hA : A = []
  · subst hA
    by_cases hB : B = []
    · subst hB; rfl
    · rw [if_pos (oT_nil.mpr rfl), if_neg fun h => hB (oT_nil.mp h)]; rfl
  · by_cases hB : B = []
    · subst hB
      rw [if_neg fun h => hA (oT_nil.mp h), if_pos (oT_nil.mpr rfl), List.append_nil, List.append_nil]; rfl
    · rw [if_neg fun h => hA (oT_nil.mp h), if_neg fun h => hB (oT_nil.mp h)]
      show oT A ++ [10] ++ oT B = joinL [10] ((A ++ B).map ln)
      rw [List.map_append, joinL_app _ _ _ (by simpa using hA) (by simpa using hB)]
      rfl
theorem ol_shift : ∀ (n : Nd) (d : Nat), ol n (d + 1) = (ol n d).map fun x => (x.1 + 1, x.2)
  | nil, _ => rfl
  | lett c r, d => by show (d + 1, c) :: ol r (d + 1) = _; rw [ol_shift r d]; rfl
  | br c t a n r, d => by
    show (d + 1, c) :: (ol n (d + 1 + 1) ++ ol r (d + 1)) = ((d, c) :: (ol n (d + 1) ++ ol r d)).map _
    rw [ol_shift n (d + 1), ol_shift r d, List.map_cons, List.map_append]
theorem ln_shift (x : Nat × Nat) : ln (x.1 + 1, x.2) = 32 :: ln x := by
  unfold ln; rw [rep1, rep1, List.replicate_succ]; rfl
theorem join_in1 : ∀ (x : List Nat) (r : List (List Nat)), joinL [10] ((x :: r).map (32 :: ·)) = 32 :: joinL [10, 32] (x :: r)
  | x, [] => rfl
  | x, y :: r => by
    have ih := join_in1 y r
    show (32 :: x) ++ [10] ++ joinL [10] ((y :: r).map (32 :: ·)) = 32 :: (x ++ [10, 32] ++ joinL [10, 32] (y :: r))
    rw [ih]; simp
theorem join_in (c : Nat) : ∀ ls : List (List Nat), joinL [10] ([c] :: ls.map (32 :: ·)) = c :: joinL [10, 32] ([] :: ls)
  | [] => rfl
  | x :: r => by
    show [c] ++ [10] ++ joinL [10] ((x :: r).map (32 :: ·)) = c :: ([] ++ [10, 32] ++ joinL [10, 32] (x :: r))
    rw [join_in1]; simp
theorem oT_in (c : Nat) (t a : Addr) (n : Nd) : oT (ol (br c t a n nil) 0) = c :: joinL [10, 32] ([] :: (ol n 0).map ln) := by
  have e : ol (br c t a n nil) 0 = (0, c) :: (ol n 0).map fun x => (x.1 + 1, x.2) := by
    show (0, c) :: (ol n (0 + 1) ++ []) = _
    rw [List.append_nil, ol_shift]
  rw [e, oT, List.map_cons, List.map_map, ← join_in, List.map_map]
  have : (ln ∘ fun x : Nat × Nat => (x.1 + 1, x.2)) = ((32 :: ·) ∘ ln) := funext ln_shift
  rw [this]
  rfl
theorem nst_app {H : Hp} {a b q : Addr} {n m : Nd} (wn : WF n) (wm : WF m) (hn : Holds H n) (hm : Holds H m) (hq : H q = some (.lst (vals n ++ vals m))) (hl : (tx n).length + (tx m).length ≤ 118) : Nst H q 60 (tx n ++ tx m) (app n m) :=
  ⟨by rw [vals_app]; exact hq, (holds_app _ _).mpr ⟨hn, hm⟩, (wf_app _ _).mpr ⟨wn, wm⟩, by have := lv_len (app n m); rw [tx_app, List.length_append] at this; omega, tx_app _ _, by rw [List.length_append]; omega⟩
theorem nst_br {H : Hp} {a q t : Addr} {n : Nd} {c : Nat} (hc : isOp c = true) (wn : WF n) (hn : Holds H n) (ha : H a = some (.lst (vals n))) (ht : H t = some (.tup [sg c, .ref a])) (hq : H q = some (.lst [.ref t])) (hl : (tx n).length ≤ 100) : Nst H q 60 (c :: (tx n ++ [oth c])) (br c t a n nil) :=
  ⟨hq, ⟨ht, ha, hn, trivial⟩, ⟨hc, wn, trivial⟩, by have := lv_len n; show max (lv n + 1) 0 ≤ 60; omega, by simp [tx], by simp; omega⟩
end Nd
theorem nest_eqN {K : PySem.W.Frag} {H : Hp} {a b : Addr} {n m : Nd} (xa : H a = some (.lst (Nd.vals n))) (xh : Nd.Holds H n) (ya : H b = some (.lst (Nd.vals m))) (yh : Nd.Holds H m) (wn : Nd.WF n) (wm : Nd.WF m) (h : Nd.tx n = Nd.tx m) (hl : Nd.lv n ≤ 100) {k : Bool} {Q : VK} (q : Q (.bl (k != true)) H) : rNeX K k (.ref a) (.ref b) H Q := by
  have e : Nd.pd n = Nd.pd m := by rw [← Nd.pd_sh n, Nd.tx_sh wn wm h, Nd.pd_sh]
  have l1 : PyData.canLay0 (.list (Nd.pd n)) = true := by rw [PyData.canLay0]; exact Nd.lay wn
  refine ⟨.list (Nd.pd n), .list (Nd.pd m), .lst (SqL.of xa) (Nd.dp xh), .lst (SqL.of ya) (Nd.dp yh), l1, by rw [← e]; exact l1, ?_, ?_⟩
  · have := Nd.pdeep n
    rw [PyData.depth]; omega
  · rw [← e, SeqAt.eqv_refl _ l1]; exact q
end N1
set_option Elab.async false
set_option linter.all false
set_option maxRecDepth 100000
set_option maxHeartbeats 4000000
namespace N1
open PySem PySem.Spec PyProof.Rows L2
def pathP (p : List Nat) : PyData := .tuple (p.map fun k => .int (k : Nat))
theorem pathP_inj : ∀ {p q : List Nat}, PyData.eqvAll (p.map fun k => PyData.int (k : Nat)) (q.map fun k => PyData.int (k : Nat)) = true → p = q
  | [], [], _ => rfl
  | [], b :: q, h => by simp [PyData.eqvAll] at h
  | a :: p, [], h => by simp [PyData.eqvAll] at h
  | a :: p, b :: q, h => by
    simp only [List.map_cons, PyData.eqvAll, PyData.eqv, Bool.and_eq_true] at h
    have e1 : a = b := by
      have := h.1
      simp at this
      omega
    rw [e1, pathP_inj h.2]
theorem pathP_refl : ∀ p : List Nat, PyData.eqvAll (p.map fun k => PyData.int (k : Nat)) (p.map fun k => PyData.int (k : Nat)) = true
  | [] => by simp [PyData.eqvAll]
  | a :: p => by simp only [List.map_cons, PyData.eqvAll, PyData.eqv, Bool.and_eq_true]; exact ⟨by simp, pathP_refl p⟩
theorem eqv_path (p q : List Nat) : PyData.eqv (pathP p) (pathP q) = decide (p = q) := by
  by_cases h : p = q
  · subst h
    rw [decide_eq_true rfl]
    show PyData.eqv (.tuple _) (.tuple _) = true
    rw [PyData.eqv]; exact pathP_refl p
  · rw [decide_eq_false h]
    cases he : PyData.eqv (pathP p) (pathP q) with
    | false => rfl
    | true =>
      refine absurd (pathP_inj ?_) h
      have he : PyData.eqv (.tuple _) (.tuple _) = true := he
      rw [PyData.eqv] at he; exact he
theorem path_dpA {K : PySem.W.Frag} {H : Hp} : ∀ p : List Nat, DpAll K H (pathV p) (p.map fun k => PyData.int (k : Nat))
  | [] => .nil
  | k :: p => .cons (.int _) (path_dpA p)
theorem PthAt.dp {K : PySem.W.Frag} {H : Hp} {v : V} {p : List Nat} (h : PthAt H v p) : Dp K H v (pathP p) := by
  obtain ⟨r, rfl, e⟩ := h
  exact .tup (SqT.of e) (path_dpA p)
theorem Pths.dp {K : PySem.W.Frag} {H : Hp} : ∀ {ws : List V} {ps : List (List Nat)}, Pths H ws ps → DpAll K H ws (ps.map pathP)
  | [], [], _ => .nil
  | [], _ :: _, h => by cases h.1
  | _ :: _, [], h => by cases h.1
  | v :: ws, p :: ps, h => .cons (h.2 0 v p rfl rfl).dp (Pths.dp (ws := ws) (ps := ps) ⟨by have := h.1; simpa using this, fun i x y h1 h2 => h.2 (i + 1) x y h1 h2⟩)
theorem lay_ints : ∀ p : List Nat, PyData.canLayAll0 (p.map fun k => PyData.int (k : Nat)) = true
  | [] => by simp [PyData.canLayAll0]
  | k :: p => by rw [List.map_cons, PyData.canLayAll0, lay_ints p, Bool.and_true, PyData.canLay0]
theorem lay_path (p : List Nat) : PyData.canLay0 (pathP p) = true := by
  show PyData.canLay0 (.tuple _) = true
  rw [PyData.canLay0]; exact lay_ints p
theorem lay_paths : ∀ ps : List (List Nat), PyData.canLayAll0 (ps.map pathP) = true
  | [] => by simp [PyData.canLayAll0]
  | p :: ps => by rw [List.map_cons, PyData.canLayAll0, lay_paths ps, lay_path]; rfl
theorem dep_ints : ∀ p : List Nat, PyData.depthAll (p.map fun k => PyData.int (k : Nat)) ≤ 1
  | [] => by simp [PyData.depthAll]
  | k :: p => by have := dep_ints p; simp only [List.map_cons, PyData.depthAll, PyData.depth]; omega
theorem dep_path (p : List Nat) : (pathP p).depth ≤ 2 := by
  show (PyData.tuple _).depth ≤ 2
  have := dep_ints p
  rw [PyData.depth]; omega
theorem dep_pathsP : ∀ ps : List (List Nat), PyData.depthAll (ps.map pathP) ≤ 2
  | [] => by simp [PyData.depthAll]
  | p :: ps => by have h1 := dep_pathsP ps; have h2 := dep_path p; simp only [List.map_cons, PyData.depthAll]; omega
def VP (H : Hp) (v : Value) (p : List Nat) : Prop := ∃ b, v = .ref b ∧ H b = some (.tup (pathV p))
theorem pathV_inj : ∀ {p q : List Nat}, pathV p = pathV q → p = q
  | [], [], _ => rfl
  | [], b :: q, h => by cases h
  | a :: p, [], h => by cases h
  | a :: p, b :: q, h => by
    have h : V.int (a : Nat) :: pathV p = V.int (b : Nat) :: pathV q := h
    injection h with h1 h2
    injection h1 with h1
    rw [pathV_inj h2, show a = b by omega]
theorem VP.uniq {H : Hp} {v : Value} {p q : List Nat} (h : VP H v p) (k : VP H v q) : p = q := by
  obtain ⟨b, rfl, h⟩ := h
  obtain ⟨c, z, k⟩ := k
  injection z with z
  subst z
  rw [h] at k
  injection k with k
  injection k with k
  exact pathV_inj k
noncomputable def decP (H : Hp) (v : Value) : List Nat := open Classical in if h : ∃ d, VP H v d then h.choose else []
theorem decP_eq {H : Hp} {v : Value} {p : List Nat} (h : VP H v p) : decP H v = p := by
  unfold decP
  rw [dif_pos ⟨p, h⟩]
  exact (Exists.choose_spec (⟨p, h⟩ : ∃ d, VP H v d)).uniq h
def rNotInP (K : PySem.W.Frag) : R2 := fun x y H Q => ∃ (a : Addr) (vs : List V) (ps : List (List Nat)) (p : List Nat), y = .ref a ∧ SqL K H a vs ∧ PthAt H x p ∧ Pths H vs ps ∧ Q (.bl (decide (p ∉ ps))) H
section
variable {X : Cx}
theorem opNotInP {K : PySem.W.Frag} (hu : X.A.units + 64 < cLine) (hK : X.K = K := by rfl) : OpR X (compareOp .NotIn) (rNotInP K) := by
  subst hK
  intro pins s σ H x y v u Q I rx ry h
  obtain ⟨a, vs, ps, p, rfl, hq, hp, hat, q⟩ := h
  cases ry
  obtain ⟨its, r, pl, hz⟩ := I.list hq
  obtain ⟨bs, r2⟩ := Dp.reads I _ _ v (PthAt.dp (K := X.K) hp) rx
  have hv : ∀ (i : Nat) (z : Value), its[i]? = some z → ∃ e, ps[i]? = some e ∧ VP H z e ∧ ∃ w, RelV w z ∧ PthAt H w e := fun i z hz => by
    have hi : i < vs.length := by rw [r.length]; exact (List.getElem?_eq_some_iff.mp hz).1
    have e1 : vs[i]? = some vs[i] := List.getElem?_eq_getElem hi
    have hi2 : i < ps.length := by rw [← hat.1]; exact hi
    have e2 : ps[i]? = some ps[i] := List.getElem?_eq_getElem hi2
    obtain ⟨u', e3, e4⟩ := Vals.get r e1
    obtain rfl : z = u' := Option.some.inj (hz.symm.trans e3)
    have e5 := hat.2 i _ _ e1 e2
    refine ⟨_, e2, ?_, _, e4, e5⟩
    obtain ⟨b, e6, e7⟩ := e5
    rw [e6] at e4
    exact ⟨b, e4, e7⟩
  refine SeqAt.notIn_listAt (fun z => decide (decP H z = p)) pl.isList (fun z hz => ?_) ⟨.bl _, H, I, rfl, ?_⟩
  · obtain ⟨i, hi⟩ := List.mem_iff_getElem?.mp (show z ∈ its by simpa using hz)
    obtain ⟨e, e1, e2, w, e3, e4⟩ := hv i z hi
    obtain ⟨as, r1⟩ := Dp.reads I _ _ z (PthAt.dp (K := X.K) e4) e3
    rw [decP_eq e2, ← eqv_path]
    refine SeqAt.eqAt_reads _ _ _ _ _ _ _ _ r1 r2 (lay_path e) (lay_path p) ?_
    show X.A.units + 1 + min (pathP e).depth (pathP p).depth < cLine
    have h1 := dep_path e
    have h2 := Nat.min_le_left (pathP e).depth (pathP p).depth
    omega
  · have e : (!its.toArray.any fun z => decide (decP H z = p)) = decide (p ∉ ps) := by
      rw [List.any_toArray, Bool.eq_iff_iff, Bool.not_eq_true', decide_eq_true_eq, List.any_eq_false]
      constructor
      · intro h hm
        obtain ⟨i, hi⟩ := List.mem_iff_getElem?.mp hm
        have hlt : i < its.length := by rw [← r.length, hat.1]; exact (List.getElem?_eq_some_iff.mp hi).1
        have hz : its[i]? = some its[i] := List.getElem?_eq_getElem hlt
        obtain ⟨e, e1, e2, _⟩ := hv i _ hz
        rw [hi] at e1
        obtain rfl := Option.some.inj e1
        exact h _ (List.mem_of_getElem? hz) (by rw [decP_eq e2]; exact decide_eq_true rfl)
      · intro h z hz hd'
        obtain ⟨i, hi⟩ := List.mem_iff_getElem?.mp hz
        obtain ⟨e, e1, e2, _⟩ := hv i _ hi
        rw [decP_eq e2] at hd'
        exact h (by rw [← of_decide_eq_true hd']; exact List.mem_of_getElem? e1)
    rw [e]
    exact q
end
end N1
set_option Elab.async false
set_option linter.all false
set_option maxRecDepth 100000
set_option maxHeartbeats 4000000
namespace N1
open PySem
def fS (m i : Nat) : Nat := (i * 5 + 1) % m
def itS (m : Nat) : Nat → Nat → Nat
  | 0, i => i
  | n + 1, i => fS m (itS m n i)
theorem itS_add (m a b i : Nat) : itS m (a + b) i = itS m a (itS m b i) := by
  induction a with
  | zero => rw [Nat.zero_add]; rfl
  | succ a ih => rw [Nat.succ_add]; show fS m (itS m (a + b) i) = fS m (itS m a (itS m b i)); rw [ih]
def Cyc (m : Nat) : Prop := itS m m 0 = 0 ∧ ∀ j, j < m → ∃ t, t < m ∧ itS m t 0 = j
theorem Cyc.all {m : Nat} (h : Cyc m) {i j : Nat} (hi : i < m) (hj : j < m) : ∃ t, t < m ∧ itS m t i = j := by
  obtain ⟨a, ha, rfl⟩ := h.2 i hi
  obtain ⟨b, hb, rfl⟩ := h.2 j hj
  by_cases c : a ≤ b
  · exact ⟨b - a, by omega, by rw [← itS_add, show b - a + a = b by omega]⟩
  · refine ⟨b + m - a, by omega, ?_⟩
    rw [← itS_add, show b + m - a + a = b + m by omega, itS_add, h.1]
def orbF (m : Nat) : Nat → Nat → List Nat
  | 0, _ => []
  | n + 1, i => i :: orbF m n (fS m i)
theorem orbF_mem {m j : Nat} : ∀ {n i : Nat}, j ∈ orbF m n i → ∃ t, t < n ∧ itS m t i = j
  | 0, i, h => by cases h
  | n + 1, i, h => by
    rcases List.mem_cons.mp h with h | h
    · exact ⟨0, Nat.succ_pos _, h.symm⟩
    · obtain ⟨t, a, b⟩ := orbF_mem h
      refine ⟨t + 1, by omega, ?_⟩
      rw [itS_add]; exact b
def endF (m : Nat) : Nat → Nat → Nat
  | 0, i => i
  | n + 1, i => endF m n (fS m i)
theorem endF_eq (m : Nat) : ∀ n i, endF m n i = itS m n i
  | 0, i => rfl
  | n + 1, i => by
    show endF m n (fS m i) = _
    rw [endF_eq m n, show n + 1 = n + 1 from rfl, itS_add m n 1 i]; rfl
theorem cyc_of {m : Nat} (h1 : endF m m 0 = 0) (h2 : (List.range m).all (fun j => (orbF m m 0).contains j) = true) : Cyc m :=
  ⟨by rw [← endF_eq]; exact h1, fun j hj => orbF_mem (by
    have := List.all_eq_true.mp h2 j (List.mem_range.mpr hj)
    simpa using this)⟩
theorem cyc8 : Cyc 8 := cyc_of (by decide) (by decide)
end N1
set_option Elab.async false
set_option linter.all false
set_option maxRecDepth 100000
set_option maxHeartbeats 4000000
namespace N1
open PySem
def adv (t : SetTable) : Nat → SetTable.Probe → SetTable.Probe
  | 0, p => p
  | n + 1, p => adv t n (t.advance p)
theorem adv_add (t : SetTable) : ∀ (a b : Nat) (p : SetTable.Probe), adv t (a + b) p = adv t b (adv t a p)
  | 0, b, p => by rw [Nat.zero_add]; rfl
  | a + 1, b, p => by rw [Nat.succ_add]; exact adv_add t a b (t.advance p)
def At0 (t : SetTable) (i q : Nat) (d : Option Nat) : SetTable.Probe := { j := i, more := SetTable.runEnd t.mask i - i, i := i, perturb := q, dummy := d }
theorem adv_run {t : SetTable} : ∀ (r : Nat) (p : SetTable.Probe), r ≤ p.more → adv t r p = { p with j := p.j + r, more := p.more - r }
  | 0, p, _ => rfl
  | r + 1, p, h => by
    have e : t.advance p = { p with j := p.j + 1, more := p.more - 1 } := by
      unfold SetTable.advance
      rw [if_pos (by omega)]
    show adv t r (t.advance p) = _
    rw [e, adv_run r _ (by show r ≤ p.more - 1; omega)]
    show ({ p with j := p.j + 1 + r, more := p.more - 1 - r } : SetTable.Probe) = _
    congr 1 <;> omega
theorem run_le9 (mask i : Nat) : SetTable.runEnd mask i - i ≤ 9 := by unfold SetTable.runEnd; split <;> omega
theorem adv_block {t : SetTable} {i q : Nat} {d : Option Nat} : ∃ r, r ≤ 10 ∧ 1 ≤ r ∧ adv t r (At0 t i q d) = At0 t ((i * 5 + 1 + q / 32) % (t.mask + 1)) (q / 32) d := by
  refine ⟨SetTable.runEnd t.mask i - i + 1, by have := run_le9 t.mask i; omega, by omega, ?_⟩
  have z := adv_run (t := t) (SetTable.runEnd t.mask i - i) (At0 t i q d) (Nat.le_refl _)
  rw [adv_add, z]
  show t.advance _ = _
  unfold SetTable.advance
  rw [if_neg (by simp [At0])]
  rfl
theorem adv_blocks {t : SetTable} {d : Option Nat} : ∀ (c i q : Nat), i < t.mask + 1 → ∃ s i', s ≤ 10 * c ∧ i' < t.mask + 1 ∧ adv t s (At0 t i q d) = At0 t i' (q / 32 ^ c) d
  | 0, i, q, hi => ⟨0, i, Nat.le_refl _, hi, by rw [Nat.pow_zero, Nat.div_one]; rfl⟩
  | c + 1, i, q, hi => by
    obtain ⟨r, h1, _, h2⟩ := adv_block (t := t) (i := i) (q := q) (d := d)
    obtain ⟨s, i', h3, h4, h5⟩ := adv_blocks c ((i * 5 + 1 + q / 32) % (t.mask + 1)) (q / 32) (Nat.mod_lt _ (Nat.succ_pos _))
    refine ⟨r + s, i', by omega, h4, ?_⟩
    rw [adv_add, h2, h5, Nat.div_div_eq_div_mul, Nat.pow_succ, Nat.mul_comm]
theorem adv_zero {t : SetTable} {d : Option Nat} : ∀ (c i : Nat), ∃ s, s ≤ 10 * c ∧ adv t s (At0 t i 0 d) = At0 t (itS (t.mask + 1) c i) 0 d
  | 0, i => ⟨0, Nat.le_refl _, rfl⟩
  | c + 1, i => by
    obtain ⟨s, h1, h2⟩ := adv_zero (t := t) (d := d) c i
    obtain ⟨r, h3, _, h4⟩ := adv_block (t := t) (i := itS (t.mask + 1) c i) (q := 0) (d := d)
    refine ⟨s + r, by omega, ?_⟩
    rw [adv_add, h2, h4]
    rfl
theorem adv_meets {t : SetTable} (hc : Cyc (t.mask + 1)) (h : Int) {e : Nat} (he : e < t.mask + 1) : ∃ N, N ≤ 10 * (t.mask + 14) ∧ (adv t N (t.probeStart h)).j = e := by
  have e0 : t.probeStart h = At0 t (SetTable.bits h % (t.mask + 1)) (SetTable.bits h) none := rfl
  obtain ⟨s, i', h1, h2, h3⟩ := adv_blocks (t := t) (d := none) 13 (SetTable.bits h % (t.mask + 1)) (SetTable.bits h) (Nat.mod_lt _ (Nat.succ_pos _))
  have hb : SetTable.bits h < 2 ^ 64 := by
    unfold SetTable.bits
    have := Int.emod_lt_of_pos h (show (0 : Int) < 2 ^ 64 by decide)
    have := Int.emod_nonneg h (show (2 ^ 64 : Int) ≠ 0 by decide)
    omega
  have hz : SetTable.bits h / 32 ^ 13 = 0 := Nat.div_eq_of_lt (Nat.lt_of_lt_of_le hb (by decide))
  rw [hz] at h3
  obtain ⟨c, h4, h5⟩ := hc.all h2 he
  obtain ⟨r, h6, h7⟩ := adv_zero (t := t) (d := none) c i'
  refine ⟨s + r, by omega, ?_⟩
  rw [e0, adv_add, h3, h7, h5]
  rfl
end N1
set_option Elab.async false
set_option linter.all false
set_option maxRecDepth 100000
set_option maxHeartbeats 4000000
namespace N1
open PySem
theorem nodup_leS {α : Type} [DecidableEq α] : ∀ {xs ys : List α}, xs.Nodup → (∀ a ∈ xs, a ∈ ys) → xs.length ≤ ys.length
  | [], _, _, _ => Nat.zero_le _
  | a :: r, ys, h, hs => by
    have h := List.nodup_cons.mp h
    have := nodup_leS (ys := ys.erase a) h.2 fun b hb => (List.mem_erase_of_ne (fun (e : b = a) => h.1 (by rw [← e]; exact hb))).mpr (hs b (List.mem_cons_of_mem _ hb))
    rw [List.length_erase_of_mem (hs a List.mem_cons_self)] at this
    have hp : 0 < ys.length := List.length_pos_of_mem (hs a List.mem_cons_self)
    rw [List.length_cons]
    omega
theorem slot_free {t : SetTable} (hd : t.dummies = #[]) {j : Nat} (h : j ∉ t.place.toList) : t.slot j = .empty := by
  unfold SetTable.slot
  have h1 : (t.place[SetTable.below t.place j]? == some j) = false := by
    rw [beq_eq_false_iff_ne]
    intro e
    exact h (by
      have := Array.mem_of_getElem? e
      simpa using this)
  have h2 : SetTable.has t.dummies j = false := by
    rw [hd]; unfold SetTable.has
    rw [beq_eq_false_iff_ne]
    intro e
    have := Array.mem_of_getElem? e
    simp at this
  simp only [h1, h2, Bool.false_eq_true, if_false]
theorem slot_cases {t : SetTable} (hd : t.dummies = #[]) (j : Nat) : t.slot j = .empty ∨ ∃ i, t.slot j = .live i ∧ t.place[i]? = some j := by
  by_cases h : (t.place[SetTable.below t.place j]? == some j) = true
  · refine .inr ⟨SetTable.below t.place j, ?_, eq_of_beq h⟩
    unfold SetTable.slot
    simp only [h, if_true]
  · refine .inl ?_
    have h2 : SetTable.has t.dummies j = false := by
      rw [hd]; unfold SetTable.has
      rw [beq_eq_false_iff_ne]
      intro e
      have := Array.mem_of_getElem? e
      simp at this
    unfold SetTable.slot
    simp only [h, h2, Bool.false_eq_true, if_false]
theorem adv_dummy (t : SetTable) : ∀ (n : Nat) (p : SetTable.Probe), (adv t n p).dummy = p.dummy
  | 0, p => rfl
  | n + 1, p => by
    show (adv t n (t.advance p)).dummy = _
    rw [adv_dummy t n]
    unfold SetTable.advance
    split <;> rfl
theorem go_ok {t : SetTable} (hd : t.dummies = #[]) (hashAt : Nat → Int) (h : Int) {p : SetTable.Probe} {N : Nat} (hN : t.slot (adv t N p).j = .empty) : ∀ (fuel m : Nat), m ≤ N → N - m < fuel →
    ∃ n, m ≤ n ∧ n ≤ N ∧ ((SetTable.probe.go t hashAt h fuel (adv t m p) = some (.empty (adv t n p).j p.dummy) ∧ t.slot (adv t n p).j = .empty) ∨
      (n < N ∧ ∃ i, t.slot (adv t n p).j = .live i ∧ t.place[i]? = some (adv t n p).j ∧ hashAt i = h ∧ SetTable.probe.go t hashAt h fuel (adv t m p) = some (.candidate (adv t n p).j i (adv t (n + 1) p))))
  | 0, m, _, hf => by omega
  | fuel + 1, m, hm, hf => by
    have nx : t.advance (adv t m p) = adv t (m + 1) p := by rw [adv_add]; rfl
    rcases slot_cases hd (adv t m p).j with e | ⟨i, e, ep⟩
    · refine ⟨m, Nat.le_refl _, hm, .inl ⟨?_, e⟩⟩
      unfold SetTable.probe.go
      rw [e]
      show some (SetTable.Met.empty (adv t m p).j (adv t m p).dummy) = _
      rw [adv_dummy]
    · have hlt : m < N := by
        by_cases z : m = N
        · subst z; rw [hN] at e; cases e
        · omega
      by_cases c : hashAt i = h
      · refine ⟨m, Nat.le_refl _, hm, .inr ⟨hlt, i, e, ep, c, ?_⟩⟩
        unfold SetTable.probe.go
        rw [e]
        dsimp only
        rw [if_pos (by rw [c]; exact beq_self_eq_true _), nx]
      · obtain ⟨n, h1, h2, h3⟩ := go_ok hd hashAt h hN fuel (m + 1) hlt (by omega)
        refine ⟨n, by omega, h2, ?_⟩
        have eq : SetTable.probe.go t hashAt h (fuel + 1) (adv t m p) = SetTable.probe.go t hashAt h fuel (adv t (m + 1) p) := by
          conv => lhs; unfold SetTable.probe.go
          rw [e]
          dsimp only
          rw [if_neg (by rw [beq_iff_eq]; exact c), nx]
        rw [eq]
        exact h3
theorem probe_ok {t : SetTable} (hd : t.dummies = #[]) (hashAt : Nat → Int) (h : Int) {p : SetTable.Probe} {N : Nat} (hN : t.slot (adv t N p).j = .empty) (hl : N ≤ 10 * (t.mask + 14)) {m : Nat} (hm : m ≤ N) :
    ∃ n, m ≤ n ∧ n ≤ N ∧ ((t.probe hashAt h (adv t m p) = some (.empty (adv t n p).j p.dummy) ∧ t.slot (adv t n p).j = .empty) ∨
      (n < N ∧ ∃ i, t.slot (adv t n p).j = .live i ∧ t.place[i]? = some (adv t n p).j ∧ hashAt i = h ∧ t.probe hashAt h (adv t m p) = some (.candidate (adv t n p).j i (adv t (n + 1) p)))) := by
  have := go_ok hd hashAt h hN (10 * SetTable.turns t.mask) m hm (by unfold SetTable.turns; omega)
  exact this
theorem room_ok {t : SetTable} (hd : t.dummies = #[]) (hc : Cyc (t.mask + 1)) (hr : t.place.size ≤ t.mask) (h : Int) : ∃ N, N ≤ 10 * (t.mask + 14) ∧ t.slot (adv t N (t.probeStart h)).j = .empty := by
  obtain ⟨e, he, hf⟩ : ∃ e, e < t.mask + 1 ∧ e ∉ t.place.toList := by
    apply Classical.byContradiction
    intro c
    have all : ∀ e, e < t.mask + 1 → e ∈ t.place.toList := fun e he => Classical.byContradiction fun z => c ⟨e, he, z⟩
    have := nodup_leS (List.nodup_range (n := t.mask + 1)) fun e he => all e (List.mem_range.mp he)
    rw [List.length_range, Array.length_toList] at this
    omega
  obtain ⟨N, h1, h2⟩ := adv_meets hc h he
  exact ⟨N, h1, by rw [h2]; exact slot_free hd hf⟩
end N1
set_option Elab.async false
set_option linter.all false
set_option maxRecDepth 100000
set_option maxHeartbeats 4000000
namespace N1
open PySem
def blk (mask : Nat) : Nat → Nat → Nat → Nat × Nat
  | 0, i, q => (i, q)
  | n + 1, i, q => blk mask n (SetTable.leap mask i q).1 (SetTable.leap mask i q).2
theorem blk_add (mask : Nat) : ∀ (a b i q : Nat), blk mask (a + b) i q = blk mask b (blk mask a i q).1 (blk mask a i q).2
  | 0, b, i, q => by rw [Nat.zero_add]; rfl
  | a + 1, b, i, q => by rw [Nat.succ_add]; exact blk_add mask a b _ _
theorem blk_q (mask : Nat) : ∀ (c i q : Nat), (blk mask c i q).2 = q / 32 ^ c
  | 0, i, q => by rw [Nat.pow_zero, Nat.div_one]; rfl
  | c + 1, i, q => by
    show (blk mask c _ (q / 32)).2 = _
    rw [blk_q mask c, Nat.div_div_eq_div_mul, Nat.pow_succ, Nat.mul_comm]
theorem blk_lt (mask : Nat) : ∀ (c i q : Nat), i < mask + 1 → (blk mask c i q).1 < mask + 1
  | 0, i, q, h => h
  | c + 1, i, q, h => blk_lt mask c _ _ (Nat.mod_lt _ (Nat.succ_pos _))
theorem blk_zero (mask : Nat) : ∀ (c i : Nat), blk mask c i 0 = (itS (mask + 1) c i, 0)
  | 0, i => rfl
  | c + 1, i => by
    rw [blk_add mask c 1 i 0, blk_zero mask c i]
    show ((itS (mask + 1) c i * 5 + 1 + 0 / 32) % (mask + 1), 0 / 32) = (fS (mask + 1) (itS (mask + 1) c i), 0)
    rw [Nat.zero_div, Nat.add_zero]
    rfl
theorem blk_meets {mask : Nat} (hc : Cyc (mask + 1)) {i q e : Nat} (hi : i < mask + 1) (hq : q < 2 ^ 64) (he : e < mask + 1) : ∃ c, c < mask + 14 ∧ (blk mask c i q).1 = e := by
  have h1 := blk_lt mask 13 i q hi
  obtain ⟨c, h2, h3⟩ := hc.all h1 he
  refine ⟨13 + c, by omega, ?_⟩
  rw [blk_add, blk_q, Nat.div_eq_of_lt (Nat.lt_of_lt_of_le hq (by decide)), blk_zero]
  exact h3
def Fre (owner : Array (Option Nat)) (j : Nat) : Prop := (owner.getD j (some 0)).isNone = true
theorem Fre.lt {owner : Array (Option Nat)} {j : Nat} (h : Fre owner j) : owner[j]? = some none := by
  unfold Fre at h
  rw [Array.getD_eq_getD_getElem?] at h
  cases e : owner[j]? with
  | none => rw [e] at h; cases h
  | some x => rw [e] at h; cases x with
    | none => rfl
    | some y => cases h
theorem free_ok {mask : Nat} {owner : Array (Option Nat)} {i q : Nat} {C : Nat} (hC : Fre owner (blk mask C i q).1) : ∀ (fuel m : Nat), m ≤ C → C - m < fuel → ∃ j, SetTable.layClean.free mask owner fuel (blk mask m i q).1 (blk mask m i q).2 = some j ∧ Fre owner j
  | 0, m, _, h => by omega
  | fuel + 1, m, hm, hf => by
    unfold SetTable.layClean.free
    cases e : (List.range (SetTable.runEnd mask (blk mask m i q).1 + 1 - (blk mask m i q).1)).find? fun k => (owner.getD ((blk mask m i q).1 + k) (some 0)).isNone with
    | some k =>
      have := List.find?_some e
      exact ⟨_, rfl, this⟩
    | none =>
      have hlt : m < C := by
        by_cases z : m = C
        · subst z
          have := List.find?_eq_none.mp e 0 (List.mem_range.mpr (by unfold SetTable.runEnd; split <;> omega))
          exact absurd hC (by unfold Fre; simpa using this)
        · omega
      obtain ⟨j, h1, h2⟩ := free_ok hC fuel (m + 1) hlt (by omega)
      refine ⟨j, ?_, h2⟩
      rw [blk_add mask m 1 i q] at h1
      exact h1
def cntS (owner : Array (Option Nat)) : Nat := owner.toList.countP Option.isSome
theorem cnt_set {owner : Array (Option Nat)} {j k : Nat} (h : owner[j]? = some none) : cntS (owner.setIfInBounds j (some k)) = cntS owner + 1 := by
  unfold cntS
  rw [Array.toList_setIfInBounds]
  have hj : owner.toList[j]? = some none := by rw [Array.getElem?_toList]; exact h
  clear h
  generalize owner.toList = L at hj
  induction L generalizing j with
  | nil => simp at hj
  | cons x r ih =>
    cases j with
    | zero =>
      have : x = none := by simpa using hj
      subst this
      simp
    | succ j =>
      rw [List.set_cons_succ, List.countP_cons, List.countP_cons, ih (by simpa using hj)]
      omega
theorem cnt_room {owner : Array (Option Nat)} {m : Nat} (hs : owner.size = m) (h : cntS owner < m) : ∃ e, e < m ∧ Fre owner e := by
  apply Classical.byContradiction
  intro c
  have all : ∀ x ∈ owner.toList, x.isSome = true := fun x hx => by
    obtain ⟨e, he⟩ := List.mem_iff_getElem?.mp hx
    have hlt := (List.getElem?_eq_some_iff.mp he).1
    rw [Array.length_toList] at hlt
    cases x with
    | some y => rfl
    | none =>
      exfalso
      refine c ⟨e, by omega, ?_⟩
      unfold Fre
      rw [Array.getD_eq_getD_getElem?, ← Array.getElem?_toList, he]
      rfl
  have : cntS owner = owner.toList.length := List.countP_eq_length.mpr all
  rw [Array.length_toList] at this
  omega
end N1
set_option Elab.async false
set_option linter.all false
set_option maxRecDepth 100000
set_option maxHeartbeats 4000000
namespace N1
open PySem
structure Own (mask n : Nat) (owner : Array (Option Nat)) : Prop where
  size : owner.size = mask + 1
  cnt : cntS owner = n
  lt : ∀ k, some k ∈ owner.toList → k < n
theorem bits_lt (h : Int) : SetTable.bits h < 2 ^ 64 := by
  unfold SetTable.bits
  have := Int.emod_lt_of_pos h (show (0 : Int) < 2 ^ 64 by decide)
  have := Int.emod_nonneg h (show (2 ^ 64 : Int) ≠ 0 by decide)
  omega
theorem own_step {mask n : Nat} {owner : Array (Option Nat)} (hc : Cyc (mask + 1)) (o : Own mask n owner) (hn : n < mask + 1) (h : Int) : ∃ j, SetTable.layClean.free mask owner (SetTable.turns mask) (SetTable.bits h % (mask + 1)) (SetTable.bits h) = some j ∧ Own mask (n + 1) (owner.setIfInBounds j (some n)) := by
  obtain ⟨e, he, hf⟩ := cnt_room (m := mask + 1) o.size (by rw [o.cnt]; exact hn)
  obtain ⟨c, h1, h2⟩ := blk_meets hc (Nat.mod_lt (SetTable.bits h) (Nat.succ_pos mask)) (bits_lt h) he
  rw [← h2] at hf
  obtain ⟨j, h3, h4⟩ := free_ok hf (SetTable.turns mask) 0 (Nat.zero_le _) (by unfold SetTable.turns; omega)
  refine ⟨j, h3, by rw [Array.size_setIfInBounds]; exact o.size, by rw [cnt_set h4.lt, o.cnt], fun k hk => ?_⟩
  rw [Array.toList_setIfInBounds] at hk
  rcases List.mem_or_eq_of_mem_set hk with hk | hk
  · exact Nat.lt_succ_of_lt (o.lt k hk)
  · injection hk with hk
    omega
theorem lay_fold {mask : Nat} (hc : Cyc (mask + 1)) : ∀ (hs : List Int) (n : Nat) (owner : Array (Option Nat)), Own mask n owner → n + hs.length ≤ mask →
    ∃ owner', (hs.foldl (init := some (owner, n)) fun acc h => do
      let (owner, k) ← acc
      let j ← SetTable.layClean.free mask owner (SetTable.turns mask) (SetTable.bits h % (mask + 1)) (SetTable.bits h)
      pure (owner.setIfInBounds j (some k), k + 1)) = some (owner', n + hs.length) ∧ Own mask (n + hs.length) owner'
  | [], n, owner, o, _ => ⟨owner, rfl, o⟩
  | h :: hs, n, owner, o, hl => by
    have hl' : n + (hs.length + 1) ≤ mask := hl
    obtain ⟨j, h1, h2⟩ := own_step hc o (by omega) h
    obtain ⟨owner', h3, h4⟩ := lay_fold hc hs (n + 1) _ h2 (by omega)
    refine ⟨owner', ?_, by rw [List.length_cons, show n + (hs.length + 1) = n + 1 + hs.length by omega]; exact h4⟩
    rw [List.foldl_cons, List.length_cons, show n + (hs.length + 1) = n + 1 + hs.length by omega]
    rw [← h3]
    congr 1
    show ((SetTable.layClean.free mask owner (SetTable.turns mask) (SetTable.bits h % (mask + 1)) (SetTable.bits h)).bind fun j => some (owner.setIfInBounds j (some n), n + 1)) = _
    rw [h1]
    rfl
theorem own_nil (mask : Nat) : Own mask 0 (Array.replicate (mask + 1) none) where
  size := by simp
  cnt := by
    unfold cntS
    rw [Array.toList_replicate, List.countP_replicate]
    simp
  lt := fun k hk => by
    rw [Array.toList_replicate] at hk
    have := List.eq_of_mem_replicate hk
    cases this
theorem layClean_ok {mask : Nat} (hc : Cyc (mask + 1)) (hs : Array Int) (hl : hs.size ≤ mask) : ∃ owner, SetTable.layClean mask hs = some owner ∧ Own mask hs.size owner := by
  obtain ⟨o, h1, h2⟩ := lay_fold hc hs.toList 0 _ (own_nil mask) (by rw [Nat.zero_add, Array.length_toList]; exact hl)
  rw [Nat.zero_add, Array.length_toList] at h1 h2
  refine ⟨o, ?_, h2⟩
  unfold SetTable.layClean
  rw [← Array.foldl_toList, h1]
  rfl
end N1
set_option Elab.async false
set_option linter.all false
set_option maxRecDepth 100000
set_option maxHeartbeats 4000000
namespace N1
open PySem
theorem range_getD {owner : Array (Option Nat)} : (List.range owner.size).map (fun j => owner.getD j none) = owner.toList := by
  apply List.ext_getElem?
  intro i
  rw [List.getElem?_map]
  by_cases h : i < owner.size
  · rw [List.getElem?_range h, Array.getElem?_toList, getElem?_pos owner i h]
    show some (owner.getD i none) = _
    rw [Array.getD_eq_getD_getElem?, getElem?_pos owner i h]; rfl
  · rw [List.getElem?_eq_none (by rw [List.length_range]; omega), List.getElem?_eq_none (by rw [Array.length_toList]; omega)]; rfl
theorem fm_len {owner : Array (Option Nat)} : ∀ js : List Nat, (js.filterMap fun j => (owner.getD j none).map (j, ·)).length = (js.map fun j => owner.getD j none).countP Option.isSome
  | [] => rfl
  | j :: js => by
    rw [List.filterMap_cons, List.map_cons, List.countP_cons]
    cases e : owner.getD j none with
    | none => simpa using fm_len js
    | some k => simpa using fm_len js
theorem laid_ok {mask finger moves : Nat} {led plain : Bool} (hc : Cyc (mask + 1)) (hs : Array Int) (hl : hs.size ≤ mask) :
    ∃ (t : SetTable) (order : Array Nat), SetTable.laid mask finger moves led plain hs = some (t, order) ∧ t.mask = mask ∧ t.dummies = #[] ∧ t.place.size = hs.size ∧ t.moves = moves ∧ t.led = led ∧ t.plain = plain ∧ order.size = hs.size ∧ ∀ k ∈ order.toList, k < hs.size := by
  obtain ⟨owner, h1, h2⟩ := layClean_ok hc hs hl
  have len : ((List.range (mask + 1)).filterMap fun j => (owner.getD j none).map (j, ·)).length = hs.size := by
    rw [fm_len, ← h2.size, range_getD]
    exact h2.cnt
  refine ⟨_, _, by unfold SetTable.laid; rw [h1]; rfl, rfl, rfl, ?_, rfl, rfl, rfl, ?_, fun k hk => ?_⟩
  · show (List.map _ _).toArray.size = _
    rw [List.size_toArray, List.length_map]; exact len
  · rw [List.size_toArray, List.length_map]; exact len
  · have hk : k ∈ List.map (·.2) ((List.range (mask + 1)).filterMap fun j => (owner.getD j none).map (j, ·)) := hk
    obtain ⟨p, hp, rfl⟩ := List.mem_map.mp hk
    obtain ⟨j, hj, he⟩ := List.mem_filterMap.mp hp
    cases e : owner.getD j none with
    | none => rw [e] at he; cases he
    | some x =>
      rw [e] at he
      injection he with he
      subst he
      refine h2.lt x ?_
      rw [← range_getD]
      exact List.mem_map.mpr ⟨j, List.mem_range.mpr (by rw [h2.size]; exact List.mem_range.mp hj), e⟩
theorem pick_all {α : Type} {es : Array α} {order : Array Nat} (h1 : order.size = es.size) (h2 : ∀ k ∈ order.toList, k < es.size) : (order.filterMap (es[·]?)).size = es.size ∧ ∀ x ∈ (order.filterMap (es[·]?)).toList, x ∈ es.toList := by
  have key : ∀ ks : List Nat, (∀ k ∈ ks, k < es.size) → (ks.filterMap (es[·]?)).length = ks.length := by
    intro ks
    induction ks with
    | nil => intro _; rfl
    | cons k r ih =>
      intro h
      rw [List.filterMap_cons, getElem?_pos es k (h k List.mem_cons_self)]
      simpa using ih fun x hx => h x (List.mem_cons_of_mem _ hx)
  have e : (order.filterMap (es[·]?)).toList = order.toList.filterMap (es[·]?) := by simp
  constructor
  · rw [← Array.length_toList, e, key _ h2, Array.length_toList]; exact h1
  · intro x hx
    rw [e] at hx
    obtain ⟨k, _, he⟩ := List.mem_filterMap.mp hx
    have := Array.mem_of_getElem? he
    simpa using this
end N1
set_option Elab.async false
set_option linter.all false
set_option maxRecDepth 100000
set_option maxHeartbeats 4000000
namespace N1
open PySem PySem.Spec PyProof.Rows
section
variable {prog : Program} {w : World} {A : Around} {E : Value → Shared → Prop} {s : Shared}
structure Tok' (t : SetTable) (n : Nat) : Prop where
  dum : t.dummies = #[]
  size : t.place.size = n
  room : n ≤ t.mask
  cyc : Cyc (t.mask + 1)
  odd : t.mask % 2 = 1
theorem search_ok {a : Addr} {o : Obj} {es : Array (Int × Value)} {ep : Nat} {t : SetTable} {x : Value} {h : Int} (ho : s.heap.get? a = some o) (hd : o.data = .set es ep t) (ht : Tok' t es.size)
    (hx : ∀ e ∈ es.toList, (∃ b, e.2 = .ref b) ∧ ∀ (Q : Bool → Shared → Prop), Q false s → wpAny (model prog w) A (eqBool e.2 x) Q E s)
    (hs : ∀ ys : List Value, (∀ y ∈ ys, ∃ e ∈ es.toList, e.2 = y) → ∀ (Q : Bool → Shared → Prop), Q false s → wpAny (model prog w) A (searchCouldBeSeen x ys) Q E s)
    {N : Nat} (hN : t.slot (adv t N (t.probeStart h)).j = .empty) (hl : N ≤ 10 * (t.mask + 14)) {Q : SetFound → Shared → Prop}
    (q : ∀ j, t.slot j = .empty → Q (.free j false) s) : ∀ (fuel m : Nat), m ≤ N → N - m < fuel → ∀ stand : Option SetTable.Probe, stand.getD (t.probeStart h) = adv t m (t.probeStart h) →
    wpAny (model prog w) A (setSearchFrom a x h true fuel stand) Q E s
  | 0, m, _, hf, _, _ => by omega
  | fuel + 1, m, hm, hf, stand, hst => by
    unfold setSearchFrom
    have fit : t.fits es.size = true := by
      unfold SetTable.fits SetTable.fill
      rw [ht.size, ht.dum]
      simpa using ht.room
    refine wpAny_bind (wpAny_setState_of ho hd fit ?_)
    dsimp only
    have gw : t.gaveWay = false := by unfold SetTable.gaveWay; rw [ht.odd]; rfl
    rw [gw]
    simp only [Bool.false_eq_true, if_false]
    rw [hst]
    obtain ⟨n, h1, h2, h3⟩ := probe_ok ht.dum _ h hN hl hm
    rcases h3 with ⟨e1, e2⟩ | ⟨hlt, i, e1, e2, _, e3⟩
    · rw [e1]
      exact wpAny_pure (q _ e2)
    · rw [e3]
      dsimp only
      have hi : i < es.size := by
        have := (Array.getElem?_eq_some_iff.mp e2).1
        rw [ht.size] at this; exact this
      have hes : es[i]? = some es[i] := getElem?_pos es i hi
      have hme : es[i] ∈ es.toList := by simp
      generalize es[i] = ev at hes hme
      obtain ⟨h0, y⟩ := ev
      obtain ⟨⟨b, hb⟩, hq⟩ := hx _ hme
      have hb : y = .ref b := hb
      have hq : ∀ (Q : Bool → Shared → Prop), Q false s → wpAny (model prog w) A (eqBool y x) Q E s := hq
      have sm : t.sameMemory t.moves t.mask = some true := by unfold SetTable.sameMemory; rw [if_pos (beq_self_eq_true _)]
      by_cases c : (!t.led) = true
      case' pos =>
        rw [if_pos c]
        refine wpAny_bind (hs _ (fun y hy => ?mem) _ ?_)
        case mem =>
          obtain ⟨e, he, rfl⟩ := List.mem_map.mp hy
          rw [Array.toList_filter] at he
          exact ⟨e, (List.mem_filter.mp he).1, rfl⟩
        rw [if_neg Bool.false_ne_true]
      case' neg => rw [if_neg c]
      all_goals
        rw [hes]
        dsimp only
        refine wpAny_bind (wpAny_holding (hq _ ?_))
        refine wpAny_bind (wpAny_setState_of ho hd fit ?_)
        dsimp only
        rw [if_neg (show ¬ (true && false) = true from Bool.false_ne_true), sm]
        dsimp only
        rw [if_pos rfl, e1]
        dsimp only
        rw [hes]
        dsimp only
        rw [hb]
        refine wpAny_bind (wpAny_isSame_ref_self ?_)
        rw [if_pos rfl]
        refine wpAny_bind (wpAny_pure ?_)
        dsimp only
        rw [if_neg Bool.false_ne_true]
        exact search_ok ho hd ht hx hs hN hl q fuel (n + 1) (by omega) (by omega) _ rfl
end
end N1
set_option Elab.async false
set_option linter.all false
set_option maxRecDepth 100000
set_option maxHeartbeats 4000000
namespace N1
open PySem PySem.Spec PyProof.Rows
theorem ins_size {α : Type} (xs : Array α) (p : Nat) (x : α) (h : p ≤ xs.size) : (SetTable.insertAt xs p x).size = xs.size + 1 := by
  unfold SetTable.insertAt
  rw [Array.size_append, Array.size_push, Array.size_extract, Array.size_extract]
  omega
theorem ins_mem {α : Type} {xs : Array α} {p : Nat} {x y : α} (h : y ∈ (SetTable.insertAt xs p x).toList) : y = x ∨ y ∈ xs.toList := by
  unfold SetTable.insertAt at h
  rw [Array.toList_append, Array.toList_push, List.mem_append, List.mem_append] at h
  rcases h with (h | h) | h
  · refine .inr ?_
    rw [Array.toList_extract] at h
    simp [List.extract_eq_take_drop] at h
    exact List.mem_of_mem_take h
  · exact .inl (List.mem_singleton.mp h)
  · refine .inr ?_
    rw [Array.toList_extract] at h
    simp [List.extract_eq_take_drop] at h
    exact List.mem_of_mem_drop (List.mem_of_mem_take h)
theorem below_le (xs : Array Nat) (j : Nat) : SetTable.below xs j ≤ xs.size := by
  have key : ∀ (fuel lo hi : Nat), lo ≤ hi → hi ≤ xs.size → SetTable.below.go xs j fuel lo hi ≤ xs.size := by
    intro fuel
    induction fuel with
    | zero => intro lo hi h1 h2; unfold SetTable.below.go; omega
    | succ n ih =>
      intro lo hi h1 h2
      unfold SetTable.below.go
      split
      · dsimp only
        split
        · exact ih _ _ (by omega) h2
        · exact ih _ _ (by omega) (by omega)
      · omega
  exact key _ _ _ (Nat.zero_le _) (Nat.le_refl _)
theorem put_ok {t : SetTable} {n : Nat} (ht : Tok' t n) (j : Nat) : (t.put j).1.dummies = #[] ∧ (t.put j).1.place.size = n + 1 ∧ (t.put j).1.mask = t.mask ∧ (t.put j).1.led = t.led ∧ (t.put j).1.plain = t.plain ∧ (t.put j).2 ≤ n := by
  have h2 : SetTable.has t.dummies j = false := by
    rw [ht.dum]; unfold SetTable.has
    rw [beq_eq_false_iff_ne]
    intro e
    have := Array.mem_of_getElem? e
    simp at this
  have hb := below_le t.place j
  refine ⟨?_, ?_, rfl, rfl, rfl, by show SetTable.below t.place j ≤ n; rw [← ht.size]; exact hb⟩
  · show (if SetTable.has t.dummies j = true then _ else t.dummies) = #[]
    rw [h2, if_neg Bool.false_ne_true, ht.dum]
  · show (SetTable.insertAt t.place (SetTable.below t.place j) j).size = n + 1
    rw [ins_size _ _ _ hb, ht.size]
end N1
set_option Elab.async false
set_option linter.all false
namespace N1
def X5 : Nat → Nat
  | 0 => 0
  | n + 1 => X5 n * 5 + 1
theorem X5_pow : ∀ n, 4 * X5 n + 1 = 5 ^ n
  | 0 => rfl
  | n + 1 => by rw [Nat.pow_succ, ← X5_pow n]; show 4 * (X5 n * 5 + 1) + 1 = _; omega
theorem X5_add (a : Nat) : ∀ b, X5 (a + b) = X5 a * 5 ^ b + X5 b
  | 0 => by simp [X5]
  | b + 1 => by
    show X5 (a + b) * 5 + 1 = X5 a * 5 ^ (b + 1) + (X5 b * 5 + 1)
    rw [X5_add a b, Nat.pow_succ, ← Nat.mul_assoc]; omega
theorem X5_two : ∀ p, ∃ r, X5 (2 ^ p) = 2 ^ p * (2 * r + 1)
  | 0 => ⟨0, rfl⟩
  | p + 1 => by
    obtain ⟨r, e⟩ := X5_two p
    have h : X5 (2 ^ (p + 1)) = X5 (2 ^ p) * (2 * (2 * X5 (2 ^ p) + 1)) := by
      rw [show 2 ^ (p + 1) = 2 ^ p + 2 ^ p by rw [Nat.pow_succ]; omega, X5_add, ← X5_pow (2 ^ p)]
      rw [show 2 * (2 * X5 (2 ^ p) + 1) = (4 * X5 (2 ^ p) + 1) + 1 by omega]; simp only [Nat.mul_add, Nat.mul_one]
    generalize hx : 2 * X5 (2 ^ p) + 1 = y at h
    have hy : ∃ z, y = 2 * z + 1 := ⟨_, hx.symm⟩
    obtain ⟨z, rfl⟩ := hy
    refine ⟨(2 * r + 1) * z + r, ?_⟩
    rw [h, e, Nat.pow_succ]
    have : (2 * r + 1) * (2 * z + 1) = 2 * ((2 * r + 1) * z + r) + 1 := by
      rw [Nat.mul_add, Nat.mul_one, Nat.mul_add, ← Nat.mul_assoc, Nat.mul_comm (2 * r + 1) 2, Nat.mul_assoc]; omega
    rw [← this, Nat.mul_assoc, Nat.mul_assoc, Nat.mul_left_comm (2 * r + 1) 2]
theorem odd_pow5 : ∀ n, ∃ z, 5 ^ n = 2 * z + 1 := fun n => ⟨2 * X5 n, by rw [← X5_pow n]; omega⟩
theorem X5_meets : ∀ p j, j < 2 ^ p → ∃ t, t < 2 ^ p ∧ ∃ q, X5 t = j + 2 ^ p * q
  | 0, j, h => ⟨0, by decide, 0, by have : j = 0 := by simpa using h
                                    subst this; rfl⟩
  | p + 1, j, h => by
    have hM : 2 ^ (p + 1) = 2 ^ p + 2 ^ p := by rw [Nat.pow_succ]; omega
    have h0 : 0 < 2 ^ p := Nat.pow_pos (by decide)
    obtain ⟨r, hr⟩ := X5_two p
    generalize hMM : 2 ^ p = M at *
    have hj : ∃ j' c, c < 2 ∧ j' < M ∧ j = j' + M * c := by
      by_cases c : j < M
      · exact ⟨j, 0, by decide, c, by simp⟩
      · exact ⟨j - M, 1, by decide, by omega, by omega⟩
    obtain ⟨j', c, hc, hj', rfl⟩ := hj
    obtain ⟨t, ht, q, e⟩ := hMM ▸ X5_meets p j' (hMM ▸ hj')
    by_cases cq : q % 2 = c
    · refine ⟨t, by omega, q / 2, ?_⟩
      rw [e, hM]
      have : q = c + (q / 2 + q / 2) := by omega
      generalize q / 2 = u at this
      subst this
      rw [Nat.mul_add, Nat.mul_add, Nat.add_mul]; omega
    · obtain ⟨z, hz⟩ := odd_pow5 t
      refine ⟨M + t, by omega, ?_⟩
      have e2 : X5 (M + t) = M * ((2 * r + 1) * (2 * z + 1)) + (j' + M * q) := by rw [X5_add, hr, hz, e, Nat.mul_assoc]
      have h3 : (2 * r + 1) * (2 * z + 1) = 2 * ((2 * r + 1) * z + r) + 1 := by
        rw [Nat.mul_add, Nat.mul_one, Nat.mul_add, ← Nat.mul_assoc, Nat.mul_comm (2 * r + 1) 2, Nat.mul_assoc]; omega
      rw [h3] at e2
      generalize (2 * r + 1) * z + r = k at e2
      have h4 : ∃ u, 2 * k + 1 + q = c + (u + u) := ⟨(2 * k + 1 + q - c) / 2, by omega⟩
      obtain ⟨u, hu⟩ := h4
      refine ⟨u, ?_⟩
      rw [e2, hM, Nat.add_mul, show M * (2 * k + 1) + (j' + M * q) = j' + (M * (2 * k + 1) + M * q) by omega, ← Nat.mul_add, hu, Nat.mul_add, Nat.mul_add]
      omega
theorem itS_X5 {m : Nat} (hm : 0 < m) : ∀ t, itS m t 0 = X5 t % m
  | 0 => by simp [itS, X5]
  | t + 1 => by
    rw [show t + 1 = 1 + t by omega, itS_add, itS_X5 hm t]
    show (X5 t % m * 5 + 1) % m = _
    rw [show 1 + t = t + 1 by omega]
    show _ = (X5 t * 5 + 1) % m
    rw [Nat.add_mod, Nat.mul_mod, Nat.mod_mod, ← Nat.mul_mod, ← Nat.add_mod]
theorem cyc_pow (p : Nat) : Cyc (2 ^ p) := by
  have h0 : 0 < 2 ^ p := Nat.pow_pos (by decide)
  refine ⟨?_, fun j hj => ?_⟩
  · rw [itS_X5 h0]; obtain ⟨r, e⟩ := X5_two p; rw [e, Nat.mul_mod_right]
  · obtain ⟨t, ht, q, e⟩ := X5_meets p j hj
    exact ⟨t, ht, by rw [itS_X5 h0, e, Nat.add_mul_mod_self_left, Nat.mod_eq_of_lt hj]⟩
end N1
set_option Elab.async false
set_option linter.all false
set_option maxRecDepth 100000
set_option maxHeartbeats 4000000
namespace N1
open PySem PySem.Spec PyProof.Rows
section
variable {prog : Program} {w : World} {A : Around} {E : Value → Shared → Prop} {s : Shared} {K : Type} [DecidableEq K] {knd : KeyKind prog w K}
theorem noClass_plain (d : Nat) {v : Value} (h : carriedByValue v = true) : ofAClassStatement d v = pure false := by
  cases v with
  | ref a => simp [carriedByValue] at h
  | _ => cases d <;> rfl
theorem noClass_tup {ks : List K} {a : Addr} {d : Nat} {Q : Bool → Shared → Prop} (hk : IsTupleKey knd s.heap ks a) (h : Q false s) : wpAny (model prog w) A (ofAClassStatement (d + 1) (.ref a)) Q E s := by
  have hT := hk.typeIs
  obtain ⟨o, items, n, ho, hc, hd, hi⟩ := hk
  unfold ofAClassStatement
  refine wpAny_bind (wpAny_typeOf hT ?_)
  dsimp only
  rw [if_pos (by rfl)]
  refine wpAny_bind (wpAny_pure ?_)
  simp only [Bool.not_true, Bool.false_eq_true, if_false]
  refine wpAny_bind (wpAny_seqItems ho hd ?_)
  dsimp only
  refine wpAny_bind ?_
  rw [← Array.forIn_toList]
  refine wpAny_forIn_list _ (fun vs r s1 => s1 = s ∧ r.1 = none ∧ ∀ v ∈ vs, carriedByValue v = true) _ ?_ ?_ _ _ ⟨rfl, rfl, hi.byValue⟩
  · rintro v vs r s1 ⟨rfl, hr, hv⟩
    rw [noClass_plain _ (hv v List.mem_cons_self)]
    refine wpAny_bind (wpAny_pure ?_)
    rw [if_neg Bool.false_ne_true]
    exact wpAny_pure ⟨rfl, rfl, fun u hu => hv u (List.mem_cons_of_mem _ hu)⟩
  · rintro ⟨r1, r2⟩ s1 ⟨rfl, hr, _⟩
    obtain rfl : r1 = none := hr
    exact wpAny_pure h
theorem unseen_tup {x : Addr} {kx : List K} (hx : IsTupleKey knd s.heap kx x) {Q : Bool → Shared → Prop} (q : Q false s) (ys : List Value) (hy : ∀ y ∈ ys, ∃ b k, y = .ref b ∧ IsTupleKey knd s.heap k b) :
    wpAny (model prog w) A (searchCouldBeSeen (.ref x) ys) Q E s := by
  unfold searchCouldBeSeen
  refine wpAny_bind ?_
  refine wpAny_forIn_list _ (fun vs r s1 => s1 = s ∧ r.1 = none ∧ ∀ y ∈ vs, ∃ b k, y = .ref b ∧ IsTupleKey knd s.heap k b) _ ?_ ?_ _ _ ⟨rfl, rfl, hy⟩
  · rintro y vs r s1 ⟨rfl, hr, hv⟩
    obtain ⟨b, k, rfl, hb⟩ := hv y List.mem_cons_self
    have rest : ∀ u ∈ vs, ∃ b k, u = .ref b ∧ IsTupleKey knd s1.heap k b := fun u hu => hv u (List.mem_cons_of_mem _ hu)
    dsimp only
    split
    · exact wpAny_pure ⟨rfl, rfl, rest⟩
    · refine wpAny_bind (wpAny_eqIsQuiet_tuple hx ?_)
      rw [if_neg (by simp)]
      refine wpAny_bind (wpAny_eqIsQuiet_tuple hb ?_)
      rw [if_neg (by simp)]
      refine wpAny_bind (noClass_tup hx ?_)
      rw [if_neg Bool.false_ne_true]
      refine wpAny_bind (noClass_tup hb ?_)
      rw [if_neg Bool.false_ne_true]
      exact wpAny_pure ⟨rfl, rfl, rest⟩
  · rintro ⟨r1, r2⟩ s1 ⟨rfl, hr, _⟩
    obtain rfl : r1 = none := hr
    exact wpAny_pure q
theorem hbv_plain (d : Nat) {v : Value} (h : carriedByValue v = true) : ∃ b, hashByValue d v = pure b := by
  cases v with
  | ref a => simp [carriedByValue] at h
  | _ => cases d <;> exact ⟨_, rfl⟩
theorem hbv_tup {ks : List K} {a : Addr} {d : Nat} {Q : Bool → Shared → Prop} (hk : IsTupleKey knd s.heap ks a) (h : ∀ b, Q b s) : wpAny (model prog w) A (hashByValue (d + 1) (.ref a)) Q E s := by
  have hT := hk.typeIs
  obtain ⟨o, items, n, ho, hc, hd, hi⟩ := hk
  unfold hashByValue
  refine wpAny_bind (wpAny_specialOf hT F.slot_tuple_hash.lookup ?_)
  dsimp only
  refine wpAny_bind (wpAny_seqItems ho hd ?_)
  dsimp only [Option.getD]
  refine wpAny_bind ?_
  rw [← Array.forIn_toList]
  refine wpAny_forIn_list _ (fun vs r s1 => s1 = s ∧ ∀ v ∈ vs, carriedByValue v = true) _ ?_ ?_ _ _ ⟨rfl, hi.byValue⟩
  · rintro v vs r s1 ⟨rfl, hv⟩
    obtain ⟨b, e⟩ := hbv_plain d (hv v List.mem_cons_self)
    rw [e]
    refine wpAny_bind (wpAny_pure ?_)
    cases b
    · rw [if_pos (show (!false) = true from rfl)]
      exact wpAny_pure (wpAny_pure (h _))
    · rw [if_neg (by simp)]
      exact wpAny_pure ⟨rfl, fun u hu => hv u (List.mem_cons_of_mem _ hu)⟩
  · rintro ⟨r1, r2⟩ s1 ⟨rfl, _⟩
    cases r1 <;> exact wpAny_pure (h _)
end
end N1
set_option Elab.async false
set_option linter.all false
set_option maxRecDepth 100000
set_option maxHeartbeats 4000000
namespace N1
open PySem PySem.Spec PyProof.Rows
def sObj (es : Array (Int × Value)) (ep : Nat) (t : SetTable) : Obj := { cls := .type "set", dict := none, data := .set es ep t }
theorem store_get {h : Heap} {a : Addr} {es es' : Array (Int × Value)} {ep : Nat} {t t' : SetTable} (ho : h.get? a = some (sObj es ep t)) : (h.update a (Obj.putSet es' t')).get? a = some (sObj es' (ep + 1) t') := by
  have e := putSet_of es' t' (show (sObj es ep t).data = .set es ep t from rfl)
  have := Heap.get?_update_self (Obj.putSet es' t') ho (by rw [e]; rfl)
  rw [e] at this
  exact this
section
variable {prog : Program} {w : World} {A : Around} {E : Value → Shared → Prop} {s : Shared} {K : Type} [DecidableEq K] {knd : KeyKind prog w K}
theorem relay_ok {a : Addr} {es : Array (Int × Value)} {ep wanted m p : Nat} {t : SetTable} {Q : Unit → Shared → Prop} (ho : s.heap.get? a = some (sObj es ep t)) (fit : t.fits es.size = true)
    (hw : SetTable.sizeAbove wanted = m + 1) (hm : m + 1 ≤ sizeLine) (hp : m + 1 = 2 ^ p) (hl : es.size ≤ m)
    (q : ∀ es' t', es'.size = es.size → (∀ x ∈ es'.toList, x ∈ es.toList) → t'.mask = m → t'.dummies = #[] → t'.place.size = es.size → Q () { s with heap := s.heap.update a (Obj.putSet es' t') }) :
    wpAny (model prog w) A (setRelay a wanted) Q E s := by
  unfold setRelay
  refine wpAny_bind (wpAny_setState_of ho rfl fit ?_)
  dsimp only
  rw [hw, if_neg (by omega)]
  have cyc : Cyc (m + 1) := by rw [hp]; exact cyc_pow p
  obtain ⟨t', order, e, h1, h2, h3, h4, h5, h6, h7, h8⟩ := laid_ok (finger := t.finger) (moves := t.movedTo m) (led := t.led) (plain := t.plain) cyc (es.map (·.1)) (by simpa using hl)
  have er : t.relaid (es.map (·.1)) wanted = some (t', order) := by unfold SetTable.relaid; rw [hw]; exact e
  rw [er]
  obtain ⟨p1, p2⟩ := pick_all (es := es) (order := order) (by simpa using h7) (by simpa using h8)
  refine wpAny_bind ?_
  show wpAny _ _ (if ((order.filterMap (es[·]?)).size != es.size) = true then _ else _) _ _ _
  rw [if_neg (by simp [p1])]
  refine wpAny_pure ?_
  refine wpAny_storeSet_of ho rfl ?_ (by rw [p1]; omega)
  exact q _ _ p1 p2 h1 h2 (by simpa using h3)
def TSet (knd : KeyKind prog w K) (h : Heap) (a : Addr) (kks : List (List K)) : Prop :=
  ∃ es ep t, h.get? a = some (sObj es ep t) ∧ es.size = kks.length ∧ Tok' t es.size ∧ es.size * 5 < t.mask * 3 ∧ t.mask ∈ [7, 31, 127, 511, 2047, 8191] ∧ ∀ e ∈ es.toList, ∃ b k, e.2 = .ref b ∧ k ∈ kks ∧ IsTupleKey knd h k b
theorem TKey.but {h h' : Heap} {ks : List K} {a b : Addr} {es : Array (Int × Value)} {ep : Nat} {t : SetTable} (x : IsTupleKey knd h ks b) (ho : h.get? a = some (sObj es ep t)) (hs : Heap.SameBut a h h') : IsTupleKey knd h' ks b := by
  obtain ⟨o', items, n, e, hc, hd', hi⟩ := x
  have hne : b ≠ a := by
    rintro rfl
    obtain rfl : o' = sObj es ep t := Option.some.inj (e.symm.trans ho)
    exact nomatch hd'
  exact ⟨o', items, n, (hs.2 b hne).trans e, hc, hd', hi⟩
theorem tok_pow {m : Nat} (h : m ∈ [7, 31, 127, 511, 2047, 8191]) : (∃ p, m + 1 = 2 ^ p) ∧ m % 2 = 1 ∧ m ≤ 8191 ∧ 7 ≤ m := by
  simp only [List.mem_cons, List.not_mem_nil, or_false] at h
  rcases h with rfl | rfl | rfl | rfl | rfl | rfl
  · exact ⟨⟨3, rfl⟩, by decide, by decide, by decide⟩
  · exact ⟨⟨5, rfl⟩, by decide, by decide, by decide⟩
  · exact ⟨⟨7, rfl⟩, by decide, by decide, by decide⟩
  · exact ⟨⟨9, rfl⟩, by decide, by decide, by decide⟩
  · exact ⟨⟨11, rfl⟩, by decide, by decide, by decide⟩
  · exact ⟨⟨13, rfl⟩, by decide, by decide, by decide⟩
theorem grow_ok {m n : Nat} (h : m ∈ [7, 31, 127, 511, 2047, 8191]) (h1 : n * 5 < m * 3) (h2 : m * 3 ≤ (n + 1) * 5) (hz : n + 1 ≤ 4914) :
    ∃ m', SetTable.sizeAbove (SetTable.grown (n + 1)) = m' + 1 ∧ m' ∈ [7, 31, 127, 511, 2047, 8191] ∧ (n + 1) * 5 < m' * 3 := by
  simp only [List.mem_cons, List.not_mem_nil, or_false] at h
  rcases h with rfl | rfl | rfl | rfl | rfl | rfl
  · obtain rfl : n = 4 := by omega
    exact ⟨31, by decide +kernel, by decide, by decide⟩
  · obtain rfl : n = 18 := by omega
    exact ⟨127, by decide +kernel, by decide, by decide⟩
  · obtain rfl : n = 76 := by omega
    exact ⟨511, by decide +kernel, by decide, by decide⟩
  · obtain rfl : n = 306 := by omega
    exact ⟨2047, by decide +kernel, by decide, by decide⟩
  · obtain rfl : n = 1228 := by omega
    exact ⟨8191, by decide +kernel, by decide, by decide⟩
  · omega
theorem add_tup {a x : Addr} {kks : List (List K)} {kx : List K} {hsh : Int} {Q : Bool → Shared → Prop} (hu : A.units < cLine) (hT : TSet knd s.heap a kks) (hx : IsTupleKey knd s.heap kx x) (hn : kx ∉ kks) (hz : kks.length + 1 ≤ 4914)
    (q : ∀ h', Heap.SameBut a s.heap h' → TSet knd h' a (kx :: kks) → Q true { s with heap := h' }) : wpAny (model prog w) A (setAddHashed a (.ref x) hsh) Q E s := by
  obtain ⟨es, ep, t, ho, hl, tk, hf, hm, he⟩ := hT
  obtain ⟨⟨p, hp⟩, hodd, hm1, hm2⟩ := tok_pow hm
  have fit : t.fits es.size = true := by unfold SetTable.fits SetTable.fill; rw [tk.size, tk.dum]; simpa using tk.room
  unfold setAddHashed setAddHashedIn
  refine wpAny_holding (wpAny_bind (wpAny_setState_of ho rfl fit ?_))
  dsimp only
  rw [if_neg (show ¬ byScan (.ref x) es = true from Bool.false_ne_true)]
  obtain ⟨N, hN1, hN2⟩ := room_ok tk.dum tk.cyc (by rw [tk.size]; exact tk.room) hsh
  unfold setSearch
  refine wpAny_bind (search_ok ho rfl tk (fun e hm => ?_) (fun ys hy Q q => ?_) hN2 hN1 (fun j _ => ?_) 100000 0 (Nat.zero_le _) (by omega) none rfl)
  · obtain ⟨b, k, h1, h2, h3⟩ := he e hm
    refine ⟨⟨b, h1⟩, fun Q q => ?_⟩
    rw [h1]
    refine wpAny_eqBool_tuple hu h3 hx ?_
    rw [decide_eq_false (fun (z : k = kx) => hn (z ▸ h2))]
    exact q
  · refine unseen_tup hx q ys fun y hy' => ?_
    obtain ⟨e, hm, rfl⟩ := hy y hy'
    obtain ⟨b, k, h1, _, h3⟩ := he e hm
    exact ⟨b, k, h1, h3⟩
  dsimp only
  refine wpAny_bind (wpAny_setState_of ho rfl fit ?_)
  dsimp only
  obtain ⟨g1, g2, g3, g4, g5, g6⟩ := put_ok tk j
  have hins : (SetTable.insertAt es (t.put j).2 (hsh, Value.ref x)).size = es.size + 1 := ins_size _ _ _ g6
  have hmem : ∀ e ∈ (SetTable.insertAt es (t.put j).2 (hsh, Value.ref x)).toList, ∃ b k, e.2 = .ref b ∧ k ∈ kx :: kks ∧ IsTupleKey knd s.heap k b := by
    intro e h
    rcases ins_mem h with rfl | h
    · exact ⟨x, kx, rfl, List.mem_cons_self, hx⟩
    · obtain ⟨b, k, h1, h2, h3⟩ := he e h
      exact ⟨b, k, h1, List.mem_cons_of_mem _ h2, h3⟩
  generalize t.put j = tp at g1 g2 g3 g4 g5 g6 hins hmem
  obtain ⟨t1, pl⟩ := tp
  dsimp only at g1 g2 g3 g4 g5 g6 hins hmem ⊢
  generalize SetTable.insertAt es pl (hsh, Value.ref x) = es1 at hins hmem
  have tail : ∀ t2 : SetTable, t2.dummies = #[] → t2.place.size = es.size + 1 → t2.mask = t.mask →
      wpAny (model prog w) A (do
        storeSet a es1 t2
        if (!false && t2.tooFull) = true then setRelay a (SetTable.grown (es.size + 1))
        return true) Q E s := by
    intro t2 d1 d2 d3
    have fit2 : t2.fits es1.size = true := by
      unfold SetTable.fits SetTable.fill
      rw [d2, d1, hins, d3]
      have : es.size + 1 ≤ t.mask := by omega
      simpa using this
    refine wpAny_bind (wpAny_storeSet_of ho rfl ?_ (by rw [hins, sizeLine_eq]; omega))
    have ho1 : (s.heap.update a (Obj.putSet es1 t2)).get? a = some (sObj es1 (ep + 1) t2) := store_get ho
    have sb1 := Heap.SameBut.update s.heap a (Obj.putSet es1 t2)
    have hfull : t2.tooFull = decide ((es.size + 1) * 5 ≥ t.mask * 3) := by
      unfold SetTable.tooFull SetTable.fill
      rw [d1, d2, d3]; rfl
    by_cases c : (es.size + 1) * 5 ≥ t.mask * 3
    · rw [hfull, decide_eq_true c, if_pos (show (!false && true) = true from rfl)]
      obtain ⟨m', w1, w2, w3⟩ := grow_ok hm hf c (by omega)
      obtain ⟨⟨p', hp'⟩, hodd', hm1', _⟩ := tok_pow w2
      refine wpAny_bind (relay_ok ho1 fit2 w1 (by rw [sizeLine_eq]; omega) hp' (by rw [hins]; omega) fun es2 t3 z1 z2 z3 z4 z5 => ?_)
      have ho2 : ((s.heap.update a (Obj.putSet es1 t2)).update a (Obj.putSet es2 t3)).get? a = some (sObj es2 (ep + 1 + 1) t3) := store_get ho1
      have sb2 := sb1.trans (Heap.SameBut.update (s.heap.update a (Obj.putSet es1 t2)) a (Obj.putSet es2 t3))
      refine wpAny_pure (q _ sb2 ⟨es2, _, t3, ho2, by rw [z1, hins, hl]; rfl, ⟨z4, by rw [z5, z1], by rw [z1, hins, z3]; omega, by rw [z3, hp']; exact cyc_pow p', by rw [z3]; exact hodd'⟩, by rw [z1, hins, z3]; omega, by rw [z3]; exact w2, fun e h => ?_⟩)
      obtain ⟨b, k, h1, h2, h3⟩ := hmem e (z2 e h)
      exact ⟨b, k, h1, h2, TKey.but h3 ho sb2⟩
    · rw [hfull, decide_eq_false c, if_neg (by simp)]
      refine wpAny_pure (q _ sb1 ⟨es1, _, t2, ho1, by rw [hins, hl]; rfl, ⟨d1, by rw [d2, hins], by rw [hins, d3]; omega, by rw [d3]; exact tk.cyc, by rw [d3]; exact hodd⟩, by rw [hins, d3]; omega, by rw [d3]; exact hm, fun e h => ?_⟩)
      obtain ⟨b, k, h1, h2, h3⟩ := hmem e h
      exact ⟨b, k, h1, h2, TKey.but h3 ho sb1⟩
  split
  · refine wpAny_bind (hbv_tup hx fun b => ?_)
    cases b
    · exact tail { t1 with plain := false } g1 (by rw [g2]) g3
    · exact tail t1 g1 (by rw [g2]) g3
  · refine wpAny_bind (wpAny_pure ?_)
    exact tail t1 g1 (by rw [g2]) g3
end
end N1
set_option Elab.async false
set_option linter.all false
set_option maxRecDepth 100000
set_option maxHeartbeats 4000000
namespace N1
open PySem PySem.Spec PyProof.Rows
section
variable {prog : Program} {w : World} {A : Around} {R : Result → Shared → Prop} {K : Type} [DecidableEq K] {knd : KeyKind prog w K}
theorem TSet.but {h h' : Heap} {a I l : Addr} {i : Nat} {kks : List (List K)} (x : TSet knd h a kks) (hI : h.IsListIter I l i) (hs : Heap.SameBut I h h') : TSet knd h' a kks := by
  obtain ⟨es, ep, t, ho, hl, tk, hf, hm, he⟩ := x
  obtain ⟨oI, e1, e2, e3⟩ := hI
  have ha : a ≠ I := by
    rintro rfl
    obtain rfl : oI = sObj es ep t := Option.some.inj (e1.symm.trans ho)
    exact nomatch e3
  refine ⟨es, ep, t, (hs.2 a ha).trans ho, hl, tk, hf, hm, fun e h => ?_⟩
  obtain ⟨b, k, h1, h2, o', its, n, q1, q2, q3, q4⟩ := he e h
  have hb : b ≠ I := by
    rintro rfl
    obtain rfl : oI = o' := Option.some.inj (e1.symm.trans q1)
    rw [e3] at q3; exact nomatch q3
  exact ⟨b, k, h1, h2, o', its, n, (hs.2 b hb).trans q1, q2, q3, q4⟩
theorem TKey.butI {h h' : Heap} {b I l : Addr} {i : Nat} {k : List K} (x : IsTupleKey knd h k b) (hI : h.IsListIter I l i) (hs : Heap.SameBut I h h') : IsTupleKey knd h' k b := by
  obtain ⟨oI, e1, e2, e3⟩ := hI
  obtain ⟨o', its, n, q1, q2, q3, q4⟩ := x
  have hb : b ≠ I := by
    rintro rfl
    obtain rfl : oI = o' := Option.some.inj (e1.symm.trans q1)
    rw [e3] at q3; exact nomatch q3
  exact ⟨o', its, n, (hs.2 b hb).trans q1, q2, q3, q4⟩
theorem loop_tup {S I l : Addr} {items : Array Value} {bs : List (Addr × List K)} (hi : items.toList = bs.map fun p => .ref p.1) (hnd : (bs.map (·.2)).Nodup) (hz : bs.length ≤ 4900) (hSI : S ≠ I) (hlI : l ≠ I) (hlS : l ≠ S)
    (hu : A.units + 4 < cLine) (hh : A.handled = none) : ∀ (k i : Nat) (s : Shared), bs.length - i = k → i ≤ bs.length → s.heap.IsListIter I l i → s.heap.IsList l items → TSet knd s.heap S ((bs.take i).map (·.2)).reverse → (∀ p ∈ bs, IsTupleKey knd s.heap p.2 p.1) →
    (∀ h' tk, (∀ b o, b ≠ S → b ≠ I → s.heap.get? b = some o → h'.get? b = some o) → TSet knd h' S (bs.map (·.2)).reverse → R (.ok (.ret .none)) { s with heap := h', toks := tk }) →
    codeAny (model prog w) A (.builtin "set.update.loop" ⟨[.ref S, .ref I], []⟩) R s := by
  have hsz : items.size = bs.length := by rw [← Array.length_toList, hi, List.length_map]
  intro k
  induction k with
  | zero =>
    intro i s hk hle hI hl hT _ q
    obtain rfl : i = bs.length := by omega
    refine codeAny_builtin F.entry_set_update_loop ?_
    rw [Around.under_plainId F.plain_set_update_loop _]
    show wpAny _ A.in1 (pyNext (.ref I) >>= _) _ _ s
    refine wpAny_bind (wpAny_pyNext_list_end (by simpa using hh) hI hl (by simp [hsz]) fun h' hx => ?_)
    show wpAny _ A.in1 (ret Value.none) _ _ _
    rw [List.take_length] at hT
    refine wpAny_pure (q h' s.toks (fun b o _ hb e => hx b o hb e) ?_)
    obtain ⟨es, ep, t, ho, hl', tk, hf, hm, he⟩ := hT
    obtain ⟨oI, e1, e2, e3⟩ := hI
    refine ⟨es, ep, t, hx S _ hSI ho, hl', tk, hf, hm, fun e h => ?_⟩
    obtain ⟨b, k, h1, h2, o', its, n, q1, q2, q3, q4⟩ := he e h
    have hb : b ≠ I := by
      rintro rfl
      obtain rfl : oI = o' := Option.some.inj (e1.symm.trans q1)
      rw [e3] at q3; exact nomatch q3
    exact ⟨b, k, h1, h2, o', its, n, hx b _ hb q1, q2, q3, q4⟩
  | succ k ih =>
    intro i s hk hle hI hl hT hb q
    have hlt : i < bs.length := by omega
    have hx : items[i]? = some (.ref (bs[i]).1) := by
      rw [← Array.getElem?_toList, hi, List.getElem?_map, List.getElem?_eq_getElem hlt]; rfl
    refine codeAny_builtin F.entry_set_update_loop ?_
    rw [Around.under_plainId F.plain_set_update_loop _]
    show wpAny _ A.in1 (pyNext (.ref I) >>= _) _ _ s
    refine wpAny_bind (wpAny_pyNext_list_item hI hl hx fun h1 hI1 sb1 => ?_)
    have hT1 := TSet.but hT hI sb1
    have hb1 : ∀ p ∈ bs, IsTupleKey knd h1 p.2 p.1 := fun p hp => TKey.butI (hb p hp) hI sb1
    have hl1 : h1.IsList l items := by obtain ⟨o, e, r⟩ := hl; exact ⟨o, (sb1.2 l hlI).trans e, r⟩
    show wpAny _ A.in1 (holding [Value.ref (bs[i]).1] (setAdd S (.ref (bs[i]).1)) >>= _) _ _ _
    have hme : bs[i] ∈ bs := List.getElem_mem hlt
    have hnew : (bs[i]).2 ∉ ((bs.take i).map (·.2)).reverse := by
      intro hc
      have e : bs.map (·.2) = (bs.take i).map (·.2) ++ ((bs[i]).2 :: (bs.drop (i + 1)).map (·.2)) := by
        rw [← List.map_cons, ← List.map_append, List.getElem_cons_drop, List.take_append_drop]
      rw [e] at hnd
      exact (List.nodup_append.mp hnd).2.2 _ (List.mem_reverse.mp hc) _ List.mem_cons_self rfl
    have htk : ((bs.take (i + 1)).map (·.2)).reverse = (bs[i]).2 :: ((bs.take i).map (·.2)).reverse := by
      rw [← List.take_append_getElem hlt, List.map_append, List.reverse_append]; rfl
    refine wpAny_bind (wpAny_holding ?_)
    unfold setAdd
    refine wpAny_holding ?_
    refine wpAny_bind (wpAny_pyHash_tuple (knd := knd) (show A.units + 1 < cLine by omega) (hb1 _ hme) ?_)
    refine add_tup (knd := knd) (s := { s with heap := h1, toks := s.toks + ((bs[i]).2.length + 1) }) (show A.units + 1 < cLine by omega) hT1 (hb1 _ hme) hnew (by simp; omega) fun h2 sb2 hT2 => ?_
    have hI2 : h2.IsListIter I l (i + 1) := by obtain ⟨o, e, r⟩ := hI1; exact ⟨o, (sb2.2 I (Ne.symm hSI)).trans e, r⟩
    have hl2 : h2.IsList l items := by obtain ⟨o, e, r⟩ := hl1; exact ⟨o, (sb2.2 l hlS).trans e, r⟩
    have hb2 : ∀ p ∈ bs, IsTupleKey knd h2 p.2 p.1 := by
      obtain ⟨es, ep, t, ho, _⟩ := hT1
      exact fun p hp => TKey.but (hb1 p hp) ho sb2
    refine wpAny_pure ⟨plainId_quiet F.plain_set_update_loop _, ih (i + 1) _ (by omega) hlt hI2 hl2 (by rw [htk]; exact hT2) hb2 fun h3 tk3 hk3 hT3 => ?_⟩
    refine q h3 tk3 (fun b o c1 c2 e => hk3 b o c1 c2 ?_) hT3
    exact (sb2.2 b c1).trans ((sb1.2 b c2).trans e)
end
end N1
set_option Elab.async false
set_option linter.all false
set_option maxRecDepth 100000
set_option maxHeartbeats 4000000
namespace N1
open PySem PySem.Spec PyProof.Rows
section
variable {prog : Program} {w : World} {A : Around} {E : Value → Shared → Prop} {s : Shared} {K : Type} [DecidableEq K] {knd : KeyKind prog w K}
theorem TSet.fresh {h : Heap} {a : Addr} {led : Bool} (ho : h.get? a = some (sObj #[] 0 (.fresh 0 0 led))) : TSet knd h a [] :=
  ⟨#[], 0, _, ho, rfl, ⟨rfl, rfl, Nat.zero_le _, cyc8, (by decide : 7 % 2 = 1)⟩, (by decide : 0 * 5 < 7 * 3), (by decide : 7 ∈ [7, 31, 127, 511, 2047, 8191]), fun e h => by simp at h⟩
theorem new_tup {l : Addr} {items : Array Value} {bs : List (Addr × List K)} {Q : Value → Shared → Prop}
    (hh : A.handled = none) (hu : A.units + 20 < cLine) (hl : s.heap.IsList l items) (hi : items.toList = bs.map fun p => .ref p.1) (hnd : (bs.map (·.2)).Nodup) (hz : bs.length ≤ 4900) (hb : ∀ p ∈ bs, IsTupleKey knd s.heap p.2 p.1)
    (q : ∀ (h' : Heap) (tk : Nat), TSet knd h' s.heap.objs.size (bs.map (·.2)).reverse → (∀ b o, b < s.heap.objs.size → s.heap.get? b = some o → h'.get? b = some o) → Q (.ref s.heap.objs.size) { s with heap := h', toks := tk }) :
    wpAny (model prog w) A (call (.type "set") [.ref l]) Q E s := by
  obtain ⟨c, tl, hmro⟩ := F.called_set.mro
  have hmade := F.called_set.made
  have hsub := F.called_set.sub
  refine wpAny_call (codeAny_of_tree ?_)
  show wpAny _ _ (callAny (.type "set") _) _ _ _
  refine wpAny_pure ⟨Code.quiet_builtin _ (by decide +kernel), codeAny_builtin F.entry_type_call ?_⟩
  rw [Around.under_plain (weight_type_call_type "set" [.ref l] []) rfl]
  have k1 := F.called_set.notType
  have k2 := F.called_set.canCreate
  have k3 := F.typeCall_set_1 (.ref l)
  repeat (any_goals (first | assumption | wp_step))
  generalize hB : s.heap.objs.size = B at q
  have new := code_set_new_1 (prog := prog) (w := w) (A := A.in1) (s := s) (.ref l) (E := E) (Q₁ := fun obj s1 => ∃ led : Bool, obj = .ref B ∧ s1 = { s with heap := s.heap.push (sObj #[] 0 (.fresh 0 0 led)) }) fun led => ⟨led, by rw [hB], rfl⟩
  refine codeAny_mono new fun r s1 hr => ?_
  rcases r with e | (_ | _ | _ | obj)
  all_goals try exact hr
  all_goals try exact hr.elim
  obtain ⟨led, rfl, rfl⟩ := hr
  have gS : (s.heap.push (sObj #[] 0 (.fresh 0 0 led))).get? B = some (sObj #[] 0 (.fresh 0 0 led)) := by rw [← hB]; exact Heap.get?_push_size _ rfl
  generalize hH : s.heap.push (sObj #[] 0 (.fresh 0 0 led)) = HS at gS
  have tyS : Shared.TypeIs { s with heap := HS } (.ref B) "set" := ⟨_, gS, rfl⟩
  have k4 := F.called_set.init.lookup
  have k5 := F.called_set.init.bind (.ref B)
  have kp : ∀ b o, s.heap.get? b = some o → HS.get? b = some o := fun b o e => by rw [← hH]; exact Heap.get?_push_of_some _ e
  repeat (any_goals (first | assumption | wp_step))
  have init : ∀ A' : Around, A'.units ≤ A.units + 8 → A'.handled = none → codeAny (model prog w) A' (.call (.builtin "set.__init__") ⟨[.ref B, .ref l], []⟩) (wants (fun r s2 => r = .none ∧ ∃ h' tk, s2 = { s with heap := h', toks := tk } ∧ TSet knd h' B (bs.map (·.2)).reverse ∧ ∀ b o, b < B → s.heap.get? b = some o → h'.get? b = some o) E) { s with heap := HS } := by
    intro A' hA1 hA2
    refine codeAny_call_builtin F.called_set.init.plain F.entry_set_init (check_set_init_1 tyS ?_)
    have hl1 : HS.IsList l items := by obtain ⟨o, e, r⟩ := hl; exact ⟨o, kp _ _ e, r⟩
    have tyl : Shared.TypeIs { s with heap := HS } (.ref l) "list" := by obtain ⟨o, e, r, _⟩ := hl1; exact ⟨o, e, r⟩
    obtain ⟨ol, hol, hcl, nl, hdl⟩ := hl1
    obtain ⟨ocls, odict, odata, oslots⟩ := ol
    simp only at hcl hdl
    subst hcl; subst hdl
    have g1 := F.sub_list_set
    have g2 := F.sub_list_frozenset
    have g3 : (Value.type "list" == Value.type "dict") = false := by decide
    have hl1 : HS.IsList l items := ⟨_, hol, rfl, nl, rfl⟩
    unfold Builtin.«set.__init__» noKeywords Builtin.Frozenset.updateFrom
    generalize hPI : pyIter = PI
    wp_walk
    subst hPI
    refine wpAny_pyIter_list hl1 ?_
    refine wpAny_bind (wpAny_runValue ?_)
    have hlB : l < B := by rw [← hB]; obtain ⟨o, e, _⟩ := hl; exact Heap.lt_size e
    have hBI : B < HS.objs.size := Heap.lt_size gS
    refine loop_tup (knd := knd) (l := l) (items := items) (bs := bs) hi hnd hz (Nat.ne_of_lt hBI) (Nat.ne_of_lt (Nat.lt_trans hlB hBI)) (Nat.ne_of_lt hlB) (by show A'.units + 1 + 4 < cLine; omega) (by simpa using hA2) _ 0 _ rfl (Nat.zero_le _) ⟨_, Heap.get?_push_size _ rfl, rfl, rfl⟩ (hl1.push _) (TSet.fresh (led := led) (Heap.get?_push_of_some _ gS)) (fun p hp => ?_) (fun h' tk kk hT => ?_)
    · obtain ⟨o', its, n, q1, q2⟩ := hb p hp
      exact ⟨o', its, n, Heap.get?_push_of_some _ (kp _ _ q1), q2⟩
    · show wpAny _ _ _ _ _ _
      refine wpAny_pure ?_
      show wpAny _ _ (ret Value.none) _ _ _
      refine wpAny_pure ⟨rfl, h', tk, rfl, hT, fun b o hlt e => kk b o (Nat.ne_of_lt hlt) (Nat.ne_of_lt (Nat.lt_trans hlt hBI)) (Heap.get?_push_of_some _ (kp _ _ e))⟩
  refine codeAny_mono (init _ (by show A.units + 1 ≤ _; omega) (by simpa using hh)) fun r2 s2 hr2 => ?_
  rcases r2 with e | (_ | _ | _ | obj)
  all_goals try exact hr2
  all_goals try exact hr2.elim
  obtain ⟨rfl, h', tk, rfl, hT, kk⟩ := hr2
  repeat (any_goals (first | assumption | wp_step))
  rw [hB] at *
  exact q _ _ hT kk
end
end N1
set_option Elab.async false
set_option linter.all false
set_option maxRecDepth 100000
set_option maxHeartbeats 4000000
namespace N1
open PySem PySem.Spec PyProof.Rows L2
section
variable {X : Cx}
def SzS (p : Addr) (n : Nat) : HO := .ext fun h => ∃ es ep t, h.get? p = some (sObj es ep t) ∧ es.size = n ∧ t.fits es.size = true
def rSetTup : List V → Hp → VK → Prop := fun xs H Q => ∃ (a : Addr) (ps : List (Addr × List Key)), xs = [.ref a] ∧ H a = some (.lst (ps.map fun p => .ref p.1)) ∧ (∀ p ∈ ps, H p.1 = some (.tup (p.2.map kV))) ∧ (ps.map (·.2)).Nodup ∧ ps.length ≤ 4900 ∧ ∀ p, H p = none → Q (.ref p) (upd H p (SzS p ps.length))
theorem vals_refs : ∀ {ps : List (Addr × List Key)} {us : List Value}, Vals (ps.map fun p => .ref p.1) us → us = ps.map fun p => .ref p.1
  | [], _, .nil => rfl
  | p :: ps, _, .cons r rs => by cases r; rw [List.map_cons, vals_refs rs]
theorem cSetTup (hr : X.A.handled = none) (hu : X.A.units + 20 < cLine) : CallR X (.type "set") rSetTup := by
  intro pins s σ H xs us Q I r h
  obtain ⟨a, ps, rfl, hH, ht, hn, hz, q⟩ := h
  obtain ⟨u, rfl, ru⟩ := r.one
  cases ru
  obtain ⟨_, its, n, rv, e⟩ := I.hok a _ hH
  have hits := vals_refs rv
  refine new_tup (knd := mixKind X.prog X.w) hr hu ⟨_, e, rfl, n, rfl⟩ (bs := ps) (by simpa using hits) hn hz (fun p hp => key_of I.hok (ht p hp)) fun h' tk hT hk => ?_
  obtain ⟨es, ep, t, ho, hl, tk1, _⟩ := hT
  have hlen : es.size = ps.length := by rw [hl]; simp
  have fit : t.fits es.size = true := by unfold SetTable.fits SetTable.fill; rw [tk1.size, tk1.dum]; simpa using tk1.room
  have hφ : ObjOk X.prog X.w (upd H s.heap.objs.size (SzS s.heap.objs.size ps.length)) h' s.heap.objs.size (SzS s.heap.objs.size ps.length) :=
    ⟨⟨es, ep, t, ho, hlen, fit⟩, ⟨_, ho⟩, fun h1 h2 ⟨es, ep, t, q1, q2⟩ k => ⟨es, ep, t, k _ q1, q2⟩⟩
  exact ⟨.ref s.heap.objs.size, _, I.laid (fun b u e => hk b u (Heap.lt_size e) e) (Nat.le_refl _) hφ, rfl, q _ I.fresh⟩
def rLenS : List V → Hp → VK → Prop := fun xs H Q => ∃ (p : Addr) (n : Nat), xs = [.ref p] ∧ H p = some (SzS p n) ∧ n ≤ 10000 ∧ Q (.int n) H
theorem cLenS : CallR X (.builtin "len") rLenS := by
  intro pins s σ H xs us Q I r h
  obtain ⟨p, n, rfl, hH, hz, q⟩ := h
  obtain ⟨u, rfl, ru⟩ := r.one
  cases ru
  obtain ⟨⟨es, ep, t, ho, rfl, fit⟩, _⟩ := I.hok p _ hH
  exact call_len_set ho ⟨rfl, rfl, rfl⟩ rfl fit (by have : (es.size : Int) ≤ 10000 := by exact_mod_cast hz
                                                    omega) ⟨.int es.size, H, I.tok _, ⟨_, rfl⟩, q⟩
end
end N1
set_option Elab.async false
set_option linter.all false
set_option maxRecDepth 100000
set_option maxHeartbeats 4000000
namespace G
open PySem PySem.Spec PyProof.Rows L2 N1
section
variable {P : Program} {w : World} {K : PySem.W.Frag} {mg : Str → Option Value} {base : Heap} {f : Addr} {fd : FuncData}
structure Tb5 (T1 T2 T3 T4 T5 : Addr) (H : Hp) : Prop where
  a : Tb T1 H
  b : Tb T2 H
  c : Tb T3 H
  d : Tb T4 H
  e : Tb T5 H
theorem Tb5.same {T1 T2 T3 T4 T5 : Addr} {H H' : Hp} (t : Tb5 T1 T2 T3 T4 T5 H) (k : Same H H') : Tb5 T1 T2 T3 T4 T5 H' := ⟨t.a.same k, t.b.same k, t.c.same k, t.d.same k, t.e.same k⟩
theorem nself {α : Type} [DecidableEq α] {x y : α} (e : x = y) (h : (true != decide (x = y)) = true) : False := by rw [decide_eq_true e] at h; cases h
theorem joinL_len (g : List Nat) : ∀ ys : List (List Nat), (joinL g ys).length ≤ ys.flatten.length + ys.length * g.length
  | [] => Nat.zero_le _
  | [x] => by show x.length ≤ _; simp
  | x :: y :: r => by
    have ih := joinL_len g (y :: r)
    show (x ++ g ++ joinL g (y :: r)).length ≤ (x ++ (y :: r).flatten).length + ((y :: r).length + 1) * g.length
    rw [List.length_append, List.length_append, List.length_append, Nat.add_mul]
    omega
theorem oT_len {N : Nd} {l : List Nat} (e : Nd.tx N = l) (h : l.length ≤ 40) : (Nd.oT (Nd.ol N 0)).length ≤ 4000 := by
  have h1 := Nd.sum_ln (Nd.ol N 0) 61 fun x hx => by
    have := Nd.ol_dep N 0 x hx
    have := Nd.lv_len N
    rw [e] at this; omega
  have h2 := (Nd.len_ol N 0).1
  rw [e] at h2
  have h3 := joinL_len [10] ((Nd.ol N 0).map Nd.ln)
  rw [List.length_map] at h3
  have h3 : (Nd.oT (Nd.ol N 0)).length ≤ _ + _ * 1 := h3
  omega
def spTwo (T1 T2 T3 T4 T5 : Addr) : Sp := fun vs H Q _ => ∃ l m : List Nat, vs = [.str (S l), .str (S m)] ∧ Sgs l ∧ Clean l ∧ Sgs m ∧ Clean m ∧ l.length ≤ 40 ∧ m.length ≤ 40 ∧ Tb5 T1 T2 T3 T4 T5 H ∧ ∀ H' : Hp, Same H H' → Q (.bl true) H'
theorem ok_two {n : Nat} {T1 T2 T3 T4 T5 : Addr} (hn : 13 ≤ n) (F : Fun K "_law_two_right" "_law_two_right" (top 44) f fd) (b_len : mg "len" = none) (b_max : mg "max" = none)
    (c_nest_of : Cal P w K mg base n "nest_of" ["text"] (spNestOf T1)) (c_text_of : Cal P w K mg base n "text_of" ["nest"] (spTextOf T2 T3)) (c_depth_of : Cal P w K mg base n "depth_of" ["nest"] (spDepth T2))
    (c_outline : Cal P w K mg base n "outline" ["nest"] (spOutline T2 T4)) (c_read_outline : Cal P w K mg base n "read_outline" ["text"] spRead) (c_turned_about : Cal P w K mg base n "turned_about" ["text"] (spTurned T5)) (c_paths_of : Cal P w K mg base n "paths_of" ["nest"] (spPaths T2)) :
    FnOk P w K mg base CX0 (n + 1) f fd ["one", "other"] (spTwo T1 T2 T3 T4 T5) := by
  have sc : FnScope ["one", "other", "nests", "lines", "joined_lines", "about", "text"] ["one", "other"] (defScope (top 44)) := ⟨rfl, rfl, rfl, by decide +kernel, rfl, by decide +kernel, by decide +kernel⟩
  refine F.ok sc (fun vs H Q E h => ?_) (fun cdv A outer s H vs Q E hr h => ?_)
  · obtain ⟨l, m, rfl, _⟩ := h
    rfl
  obtain ⟨l, m, rfl, hl, cl, hm, cm, zl, zm, tb, q⟩ := h
  have hdeep : (cxOf CX0 P w K mg base ["one", "other", "nests", "lines", "joined_lines", "about", "text"] "_law_two_right" (defScope (top 44)) f cdv A outer s H E).nox.A.units + 400 < cLine := by
    have := hr.un
    show (A.deeper (envOfC "_law_two_right" (defScope (top 44)) s.heap.objs.size f cdv)).units + 400 < cLine
    omega
  refine ⟨_, (pss_cons (ps_set (i := 2) sc.nd rfl (Or.inl rfl) (pe_lst (pa_cons (pcall c_nest_of hr rfl (pa_cons (pn 0) pa_nil)) (pa_cons (pcall c_nest_of hr rfl (pa_cons (pn 1) pa_nil)) pa_nil)))) (pss_cons (ps_if (PW.pt (pw_or (pcmp (opNeX hdeep) (pcall c_nest_of hr rfl (pa_cons (pe_op opAdd (pn 0) (pn 1)) pa_nil)) (pe_op opAdd (pe_ix ixC (pn 2) pe_int (fun _ _ => rfl)) (pe_ix ixC (pn 2) pe_int (fun _ _ => rfl))) (nomark _)) (pw_or1 (pcmp (opNe hr.units) (pcall c_text_of hr rfl (pa_cons (pe_op opAdd (pe_ix ixC (pn 2) pe_int (fun _ _ => rfl)) (pe_ix ixC (pn 2) pe_int (fun _ _ => rfl))) pa_nil)) (pe_op opAdd (pn 1) (pn 0)) (nomark _))))) (pss_one (ps_ret pe_bl)) pss_nil) (pss_cons (ps_if (pcmp (opNe hr.units) (pcall c_depth_of hr rfl (pa_cons (pe_op opAdd (pe_ix ixC (pn 2) pe_int (fun _ _ => rfl)) (pe_ix ixC (pn 2) pe_int (fun _ _ => rfl))) pa_nil)) (pe_callB (cMax2 rfl) rfl b_max (by decide +kernel) (pa_cons (pcall c_depth_of hr rfl (pa_cons (pe_ix ixC (pn 2) pe_int (fun _ _ => rfl)) pa_nil)) (pa_cons (pcall c_depth_of hr rfl (pa_cons (pe_ix ixC (pn 2) pe_int (fun _ _ => rfl)) pa_nil)) pa_nil))) (nomark _)) (pss_one (ps_ret pe_bl)) pss_nil) (pss_cons (ps_setLc (i := 3) (own := [("text", 6)]) (g := (gName 6)) rfl sc.nd rfl rfl (sw_true rfl rfl rfl (by decide +kernel)) (pi_list (pe_lst (pa_cons (pcall c_outline hr rfl (pa_cons (pe_ix ixC (pn 2) pe_int (fun _ _ => rfl)) pa_nil)) (pa_cons (pcall c_outline hr rfl (pa_cons (pe_ix ixC (pn 2) pe_int (fun _ _ => rfl)) pa_nil)) pa_nil)))) (blkOk_by (own := [("text", 6)]) (N := ["one", "other", "nests", "lines", "joined_lines", "about", "text"]) (sc := defScope (top 44)) (by decide +kernel)) (fun _ _ _ _ _ => (pg_name (i := 6) sc.nd rfl (Or.inl rfl))) (fun _ _ _ _ _ => (pts_one (pcmp (opNeK (K := K) hr.units) (pn 6) pe_str (nomark _)))) (fun _ _ _ _ _ => (pn 6))) (pss_cons (ps_set (i := 4) sc.nd rfl (Or.inl rfl) (pjoin pe_str (pn 3))) (pss_cons (ps_if (PW.pt (pw_or (pcmp (opNe hr.units) (pcall c_outline hr rfl (pa_cons (pe_op opAdd (pe_ix ixC (pn 2) pe_int (fun _ _ => rfl)) (pe_ix ixC (pn 2) pe_int (fun _ _ => rfl))) pa_nil)) (pn 4) (nomark _)) (pw_or1 (pcmp (opNeX hdeep) (pcall c_read_outline hr rfl (pa_cons (pn 4) pa_nil)) (pe_op opAdd (pe_ix ixC (pn 2) pe_int (fun _ _ => rfl)) (pe_ix ixC (pn 2) pe_int (fun _ _ => rfl))) (nomark _))))) (pss_one (ps_ret pe_bl)) pss_nil) (pss_cons (ps_set (i := 5) sc.nd rfl (Or.inl rfl) (pcall c_nest_of hr rfl (pa_cons (pcall c_turned_about hr rfl (pa_cons (pn 0) pa_nil)) pa_nil))) (pss_one (ps_ret (pand (pe_cmpR (opEq hr.units) (pe_callB cLen rfl b_len (by decide +kernel) (pa_cons (pcall c_paths_of hr rfl (pa_cons (pn 5) pa_nil)) pa_nil)) (pe_callB cLen rfl b_len (by decide +kernel) (pa_cons (pcall c_paths_of hr rfl (pa_cons (pe_ix ixC (pn 2) pe_int (fun _ _ => rfl)) pa_nil)) pa_nil)) (nomark _)) (pe_one (pe_cmpR (opEq hr.units) (pcall c_depth_of hr rfl (pa_cons (pn 5) pa_nil)) (pcall c_depth_of hr rfl (pa_cons (pe_ix ixC (pn 2) pe_int (fun _ _ => rfl)) pa_nil)) (nomark _))))))))))))), ?_⟩
  refine ⟨l, rfl, hl, cl, by omega, tb.a, fun H1 A0 N0 a0 f0 S1 e0 w0 => ?_⟩
  have tb1 := tb.same S1
  refine ⟨m, rfl, hm, cm, by omega, tb1.a, fun H2 B0 M0 b0 g0 S2 e1 w1 => ?_⟩
  have a0 := a0.same S2
  have S2 := S1.trans S2
  have tb2 := tb.same S2
  refine ⟨(by show 2 ≤ sizeLine; decide), fun p hp => ?_⟩
  have S3 := S2.trans (same_new hp (.lst [.ref A0, .ref B0]))
  have a0 := a0.same (same_new hp (.lst [.ref A0, .ref B0]))
  have b0 := b0.same (same_new hp (.lst [.ref A0, .ref B0]))
  have hp : (upd H2 p (.lst [.ref A0, .ref B0])) p = some (.lst [.ref A0, .ref B0]) := upd_same
  generalize upd H2 p (.lst [.ref A0, .ref B0]) = H3 at S3 a0 b0 hp
  have tb3 := tb.same S3
  have n12 : Nd.WF (Nd.app N0 M0) := (Nd.wf_app _ _).mpr ⟨w0, w1⟩
  have x12 : Nd.tx (Nd.app N0 M0) = l ++ m := by rw [Nd.tx_app, e0, e1]
  have v12 : Nd.lv (Nd.app N0 M0) ≤ 60 := by have := Nd.lv_len (Nd.app N0 M0); rw [x12, List.length_append] at this; omega
  have k0 : ∀ x, x ∈ ([.ref A0, .ref B0] : List V) → True := fun _ _ => trivial
  have lv0 : (Nd.vals N0).length ≤ 40 := by have := Nd.len_vals N0; rw [e0] at this; omega
  have lv1 : (Nd.vals M0).length ≤ 40 := by have := Nd.len_vals M0; rw [e1] at this; omega
  have catN : ∀ (G : Hp), Same H3 G → ∀ r, G r = none → Nd.Nst (upd G r (.lst (Nd.vals N0 ++ Nd.vals M0))) r 60 (l ++ m) (Nd.app N0 M0) := fun G k r hr => by
    have := Nd.nst_app (a := A0) (b := B0) (q := r) (H := upd G r (.lst (Nd.vals N0 ++ Nd.vals M0))) w0 w1 ((a0.holds.same k).same (same_new hr _)) ((b0.holds.same k).same (same_new hr _)) upd_same (by rw [e0, e1]; omega)
    rw [e0, e1] at this; exact this
  have catM : ∀ (G : Hp), Same H3 G → ∀ r, G r = none → Nd.Nst (upd G r (.lst (Nd.vals M0 ++ Nd.vals N0))) r 60 (m ++ l) (Nd.app M0 N0) := fun G k r hr => by
    have := Nd.nst_app (a := A0) (b := B0) (q := r) (H := upd G r (.lst (Nd.vals M0 ++ Nd.vals N0))) w1 w0 ((b0.holds.same k).same (same_new hr _)) ((a0.holds.same k).same (same_new hr _)) upd_same (by rw [e0, e1]; omega)
    rw [e0, e1] at this; exact this
  refine ⟨by show l.length + m.length ≤ 1000000; omega, l ++ m, rfl, hl.app hm, (clean_app cl).mpr cm, by rw [List.length_append]; omega, tb3.a, fun H4 D4 N4 d4 f4 S4 e4 w4 => ?_⟩
  have S4' := S3.trans S4
  refine ⟨_, .ref A0, .inl (SqL.of (S4 _ _ hp)), rfl, _, .ref B0, .inl (SqL.of (S4 _ _ hp)), rfl, ?_⟩
  refine .inl ⟨A0, B0, _, _, rfl, rfl, S4 _ _ a0.top, S4 _ _ b0.top, mil (by omega), fun r4 hr4 => ?_⟩
  have c4 := catN H4 S4 r4 hr4
  have k4 := same_new hr4 (.lst (Nd.vals N0 ++ Nd.vals M0))
  generalize upd H4 r4 (.lst (Nd.vals N0 ++ Nd.vals M0)) = G4 at c4 k4
  refine nest_eqN ((d4.same k4).top) (d4.same k4).holds c4.top c4.holds w4 n12 (by rw [e4, x12]) (by have := Nd.lv_len N4; rw [e4, List.length_append] at this; omega) ?_
  have S4 := S4.trans k4
  have S4' := S3.trans S4
  have tb4 := tb.same S4'
  refine ⟨_, .ref B0, .inl (SqL.of (S4 _ _ hp)), rfl, _, .ref A0, .inl (SqL.of (S4 _ _ hp)), rfl, ?_⟩
  refine .inl ⟨B0, A0, _, _, rfl, rfl, S4 _ _ b0.top, S4 _ _ a0.top, mil (by omega), fun r5 hr5 => ?_⟩
  have c5 := catM G4 S4 r5 hr5
  have k5 := same_new hr5 (.lst (Nd.vals M0 ++ Nd.vals N0))
  generalize upd G4 r5 (.lst (Nd.vals M0 ++ Nd.vals N0)) = G5 at c5 k5
  have tb5 := tb4.same k5
  refine ⟨r5, m ++ l, _, rfl, c5, tb5.b, tb5.c, fun H6 S6 => ?_⟩
  have S6 : Same H3 H6 := S4.trans (k5.trans S6)
  have S6' := S3.trans S6
  have tb6 := tb.same S6'
  refine ⟨by show m.length + l.length ≤ 1000000; omega, ?_⟩
  refine ite2 (fun c => (nself (show Lc (S (m ++ l)) = Lc (S (Lc (S m) ++ Lc (S l))) from rfl) c).elim) (fun _ => ?_)
  refine ⟨_, .ref A0, .inl (SqL.of (S6 _ _ hp)), rfl, _, .ref B0, .inl (SqL.of (S6 _ _ hp)), rfl, ?_⟩
  refine .inl ⟨A0, B0, _, _, rfl, rfl, S6 _ _ a0.top, S6 _ _ b0.top, mil (by omega), fun r7 hr7 => ?_⟩
  have c7 := catN H6 S6 r7 hr7
  have k7 := same_new hr7 (.lst (Nd.vals N0 ++ Nd.vals M0))
  generalize upd H6 r7 (.lst (Nd.vals N0 ++ Nd.vals M0)) = G7 at c7 k7
  have S7 := S6.trans k7
  refine ⟨r7, l ++ m, _, rfl, c7, by rw [List.length_append]; omega, (tb.same (S3.trans S7)).b, fun H8 S8 => ?_⟩
  have S8 := S7.trans S8
  have sN : ∀ (G : Hp), Same H3 G → Nd.Nst G A0 60 l N0 := fun G k => (a0.same k).nst w0 e0 (by omega)
  have sM : ∀ (G : Hp), Same H3 G → Nd.Nst G B0 60 m M0 := fun G k => (b0.same k).nst w1 e1 (by omega)
  refine ⟨_, .ref A0, .inl (SqL.of (S8 _ _ hp)), rfl, A0, l, N0, rfl, sN _ S8, by omega, (tb.same (S3.trans S8)).b, fun H9 S9 => ?_⟩
  have S9 := S8.trans S9
  refine ⟨_, .ref B0, .inl (SqL.of (S9 _ _ hp)), rfl, B0, m, M0, rfl, sM _ S9, by omega, (tb.same (S3.trans S9)).b, fun H10 S10 => ?_⟩
  have S10 := S9.trans S10
  refine ite2 (fun c => (nself (show ((Nd.bd (Nd.app N0 M0) : Nat) : Int) = (if ((Nd.bd M0 : Nat) : Int) > ((Nd.bd N0 : Nat) : Int) then ((Nd.bd M0 : Nat) : Int) else ((Nd.bd N0 : Nat) : Int)) from ?_) c).elim) (fun _ => ?_)
  · rw [Nd.bd_app]
    split <;> omega
  refine ⟨_, .ref A0, .inl (SqL.of (S10 _ _ hp)), rfl, A0, l, N0, rfl, sN _ S10, by omega, (tb.same (S3.trans S10)).b, (tb.same (S3.trans S10)).d, fun H11 S11 => ?_⟩
  have S11 := S10.trans S11
  refine ⟨_, .ref B0, .inl (SqL.of (S11 _ _ hp)), rfl, B0, m, M0, rfl, sM _ S11, by omega, (tb.same (S3.trans S11)).b, (tb.same (S3.trans S11)).d, fun H12 S12 => ?_⟩
  have S12 := S11.trans S12
  refine ⟨(by show 2 ≤ sizeLine; decide), fun p2 hp2 => ?_⟩
  have k12 := same_new hp2 (.lst [.str (S (Nd.oT (Nd.ol N0 0))), .str (S (Nd.oT (Nd.ol M0 0)))])
  have hp2 : (upd H12 p2 (.lst [.str (S (Nd.oT (Nd.ol N0 0))), .str (S (Nd.oT (Nd.ol M0 0)))])) p2 = some (.lst [.str (S (Nd.oT (Nd.ol N0 0))), .str (S (Nd.oT (Nd.ol M0 0)))]) := upd_same
  generalize upd H12 p2 (.lst [.str (S (Nd.oT (Nd.ol N0 0))), .str (S (Nd.oT (Nd.ol M0 0)))]) = H13 at k12 hp2
  have S13 := S12.trans k12
  obtain ⟨LD, hLD⟩ : ∃ x, Nd.oT (Nd.ol N0 0) = x := ⟨_, rfl⟩
  obtain ⟨LE, hLE⟩ : ∃ x, Nd.oT (Nd.ol M0 0) = x := ⟨_, rfl⟩
  rw [hLD, hLE] at hp2
  have zD : LD.length ≤ 4000 := by rw [← hLD]; exact oT_len e0 zl
  have zE : LE.length ≤ 4000 := by rw [← hLE]; exact oT_len e1 zm
  refine ⟨p2, rfl, ⟨_, SqL.of hp2⟩, fun D hD => ?_⟩
  refine lc_list (xs := [.str (S LD), .str (S LE)]) (fun i H' => Same H13 H' ∧ H' D = some (.lst ((([LD, LE].take i).filter fun t => decide (t ≠ [])).map fun t => V.str (S t)))) ⟨same_new hD _, upd_same⟩ (fun i H' _ h => SqL.of (h.1 _ _ hp2)) ?_ ?_
  · rintro i x H' hx ⟨k, hu⟩
    obtain ⟨t, ht, rfl⟩ : ∃ t, [LD, LE][i]? = some t ∧ x = V.str (S t) := by
      match i, hx with
      | 0, h => exact ⟨LD, rfl, (Option.some.inj h).symm⟩
      | 1, h => exact ⟨LE, rfl, (Option.some.inj h).symm⟩
      | i + 2, h => simp at h
    have tk : [LD, LE].take (i + 1) = [LD, LE].take i ++ [t] := by rw [List.take_add_one, ht]; rfl
    refine ⟨rfl, ?_⟩
    rw [tk, List.filter_append, List.map_append]
    have e0' : Lc (Str.ofString "") = [] := by decide +kernel
    refine ite2 (fun c => ?_) (fun c => ?_)
    · have hn : t ≠ [] := fun z => nself (show Lc (S t) = Lc (Str.ofString "") by rw [e0', z]) c
      rw [show [t].filter (fun t => decide (t ≠ [])) = [t] by simp [hn]]
      exact ⟨_, hu, by
        rw [List.length_map]
        have h1 := List.length_filter_le (fun t => decide (t ≠ [])) ([LD, LE].take i)
        have h2 : ([LD, LE].take i).length ≤ 2 := by rw [List.length_take]; exact Nat.min_le_right _ _
        exact Nat.lt_of_le_of_lt (Nat.le_trans h1 h2) (by decide), sU k hD _, upd_same⟩
    · have hn : t = [] := by
        apply Classical.byContradiction
        intro z
        apply c
        have : ¬ Lc (S t) = Lc (Str.ofString "") := fun e => z (by rw [e0'] at e; exact e)
        show (true != decide (Lc (S t) = Lc (Str.ofString ""))) = true
        rw [decide_eq_false this]; rfl
      rw [show [t].filter (fun t => decide (t ≠ [])) = [] by simp [hn]]
      rw [List.map_nil, List.append_nil]
      exact ⟨k, hu⟩
  · rintro H14 ⟨k14, hu⟩
    have hu : H14 D = some (.lst ((([LD, LE].filter fun t => decide (t ≠ []))).map fun t => V.str (S t))) := hu
    have S14 := S13.trans k14
    have hf : ([LD, LE].filter fun t => decide (t ≠ [])) = (if LD = [] then [] else [LD]) ++ (if LE = [] then [] else [LE]) := by
      by_cases h1 : LD = []
      · by_cases h2 : LE = []
        · simp [h1, h2]
        · simp [h1, h2]
      · by_cases h2 : LE = []
        · simp [h1, h2]
        · simp [h1, h2]
    have hj : joinL [10] ([LD, LE].filter fun t => decide (t ≠ [])) = Nd.oT (Nd.ol (Nd.app N0 M0) 0) := by
      rw [hf, ← hLD, ← hLE, Nd.oT_app, Nd.ol_app]
    refine ⟨_, .inl (SqL.of hu), ?_, ?_⟩
    · have h1 : ([LD, LE].filter fun t => decide (t ≠ [])).length ≤ 2 := List.length_filter_le _ _
      have h2 : ([LD, LE].filter fun t => decide (t ≠ [])).flatten.length ≤ 8000 := by
        rw [hf]
        by_cases h1 : LD = []
        · by_cases h2 : LE = []
          · simp [h1, h2]
          · simp [h1, h2]; omega
        · by_cases h2 : LE = []
          · simp [h1, h2]; omega
          · simp [h1, h2]; omega
      rw [nl10]
      show _ + _ * 1 ≤ 1000000
      omega
    rw [nl10, hj]
    refine ⟨_, .ref A0, .inl (SqL.of (S14 _ _ hp)), rfl, _, .ref B0, .inl (SqL.of (S14 _ _ hp)), rfl, ?_⟩
    refine .inl ⟨A0, B0, _, _, rfl, rfl, S14 _ _ a0.top, S14 _ _ b0.top, mil (by omega), fun r15 hr15 => ?_⟩
    have c15 := catN H14 S14 r15 hr15
    have k15 := same_new hr15 (.lst (Nd.vals N0 ++ Nd.vals M0))
    generalize upd H14 r15 (.lst (Nd.vals N0 ++ Nd.vals M0)) = G15 at c15 k15
    have S15 := S14.trans k15
    refine ⟨r15, l ++ m, _, rfl, c15, by rw [List.length_append]; omega, (tb.same (S3.trans S15)).b, (tb.same (S3.trans S15)).d, fun H16 S16 => ?_⟩
    have S16 := S15.trans S16
    refine ite2 (fun c => (nself rfl c).elim) (fun _ => ?_)
    refine ⟨Nd.app N0 M0, rfl, n12, by rw [x12, List.length_append]; omega, fun H17 D17 N17 d17 f17 S17 e17 w17 => ?_⟩
    have S17' := S16.trans S17
    refine ⟨_, .ref A0, .inl (SqL.of (S17' _ _ hp)), rfl, _, .ref B0, .inl (SqL.of (S17' _ _ hp)), rfl, ?_⟩
    refine .inl ⟨A0, B0, _, _, rfl, rfl, S17' _ _ a0.top, S17' _ _ b0.top, mil (by omega), fun r18 hr18 => ?_⟩
    have c18 := catN H17 S17' r18 hr18
    have k18 := same_new hr18 (.lst (Nd.vals N0 ++ Nd.vals M0))
    generalize upd H17 r18 (.lst (Nd.vals N0 ++ Nd.vals M0)) = G18 at c18 k18
    refine nest_eqN ((d17.same k18).top) (d17.same k18).holds c18.top c18.holds w17 n12 e17 (by have := Nd.lv_len N17; rw [e17, x12, List.length_append] at this; omega) ?_
    have S18 := S17'.trans k18
    refine ⟨l, rfl, by omega, (tb.same (S3.trans S18)).e, fun H19 S19 => ?_⟩
    have S19 := S18.trans S19
    refine ⟨turn l, rfl, hl.turn, clean_turn.mpr cl, by rw [turn_len]; omega, (tb.same (S3.trans S19)).a, fun H20 D20 N20 d20 f20 S20 e20 w20 => ?_⟩
    have S20' := S19.trans S20
    obtain ⟨t1, t2⟩ := Nd.turned_same (m := N0) w20 w0 (by rw [e20, e0])
    refine ⟨D20, turn l, N20, rfl, d20.nst w20 e20 (by rw [turn_len]; omega), by rw [turn_len]; omega, (tb.same (S3.trans S20')).b, fun H21 p21 ws21 hp21 S21 e21 pw21 => ?_⟩
    have S21' := S20'.trans S21
    refine .inl ⟨_, .inl (SqL.of e21), ?_⟩
    refine ⟨_, .ref A0, .inl (SqL.of (S21' _ _ hp)), rfl, A0, l, N0, rfl, sN _ S21', by omega, (tb.same (S3.trans S21')).b, fun H22 p22 ws22 hp22 S22 e22 pw22 => ?_⟩
    have S22' := S21'.trans S22
    refine .inl ⟨_, .inl (SqL.of e22), ?_⟩
    have lw : ws21.length = ws22.length := by
      rw [pw21.1, pw22.1, List.length_map, List.length_map, Nd.pb_nop, Nd.pb_nop, t2]
    refine ite2 (fun _ => ?_) (fun c => absurd (show (false != decide (((ws21.length : Nat) : Int) = ((ws22.length : Nat) : Int))) = true by rw [lw, decide_eq_true rfl]; rfl) c)
    have d22 := d20.same (S21.trans S22)
    refine ⟨D20, turn l, N20, rfl, d22.nst w20 e20 (by rw [turn_len]; omega), by rw [turn_len]; omega, (tb.same (S3.trans S22')).b, fun H23 S23 => ?_⟩
    have S23 := S22'.trans S23
    refine ⟨_, .ref A0, .inl (SqL.of (S23 _ _ hp)), rfl, A0, l, N0, rfl, sN _ S23, by omega, (tb.same (S3.trans S23)).b, fun H24 S24 => ?_⟩
    have := q H24 (S3.trans (S23.trans S24))
    show Q (.bl (false != decide (((Nd.bd N20 : Nat) : Int) = ((Nd.bd N0 : Nat) : Int)))) H24
    rw [t1, decide_eq_true rfl]
    exact this
end
end G
set_option Elab.async false
set_option linter.all false
set_option maxRecDepth 100000
set_option maxHeartbeats 4000000
namespace G
open PySem PySem.Spec PyProof.Rows L2 N1
section
variable {P : Program} {w : World} {K : PySem.W.Frag} {mg : Str → Option Value} {base : Heap} {f : Addr} {fd : FuncData}
def spWin (T1 T2 T4 : Addr) : Sp := fun vs H Q _ => ∃ (l : List Nat) (k : Int), vs = [.str (S l), .int k] ∧ 0 ≤ k ∧ k < 4 ∧ Sgs l ∧ Clean l ∧ l.length ≤ 40 ∧ Tb T1 H ∧ Tb T2 H ∧ Tb T4 H ∧ ∀ H' : Hp, Same H H' → Q (.bl true) H'
theorem nest_eqO {H : Hp} {a b : Addr} {n m : Nd} (xa : H a = some (.lst (Nd.vals n))) (xh : Nd.Holds H n) (ya : H b = some (.lst (Nd.vals m))) (yh : Nd.Holds H m) (wn : Nd.WF n) (wm : Nd.WF m) (h : Nd.tx n = Nd.tx m) (hl : Nd.lv n ≤ 100) :
    ∃ d e, Dp K H (.ref a) d ∧ Dp K H (.ref b) e ∧ PyData.canLay0 d = true ∧ PyData.canLay0 e = true ∧ d.depth ≤ 400 ∧ PyData.eqv d e = true := by
  have e : Nd.pd n = Nd.pd m := by rw [← Nd.pd_sh n, Nd.tx_sh wn wm h, Nd.pd_sh]
  have l1 : PyData.canLay0 (.list (Nd.pd n)) = true := by rw [PyData.canLay0]; exact Nd.lay wn
  refine ⟨.list (Nd.pd n), .list (Nd.pd m), .lst (SqL.of xa) (Nd.dp xh), .lst (SqL.of ya) (Nd.dp yh), l1, by rw [← e]; exact l1, ?_, ?_⟩
  · have := Nd.pdeep n
    rw [PyData.depth]; omega
  · rw [← e, SeqAt.eqv_refl _ l1]
theorem ln_no10s {x : Nat × Nat} (h : isLt x.2 = true ∨ isOp x.2 = true) : 10 ∉ Nd.ln x := by
  unfold Nd.ln
  rw [Nd.rep1, List.mem_append]
  rintro (h1 | h1)
  · exact absurd (List.eq_of_mem_replicate h1) (by decide)
  · have h1 : 10 = x.2 := List.mem_singleton.mp h1
    rw [← h1] at h
    rcases h with h | h
    · revert h; decide
    · revert h; decide
theorem ok_win {n : Nat} {T1 T2 T4 : Addr} (hn : 13 ≤ n) (F : Fun K "_law_within_right" "_law_within_right" (top 45) f fd) (b_int : mg "int" = none)
    (c_nest_of : Cal P w K mg base n "nest_of" ["text"] (spNestOf T1)) (c_depth_of : Cal P w K mg base n "depth_of" ["nest"] (spDepth T2))
    (c_outline : Cal P w K mg base n "outline" ["nest"] (spOutline T2 T4)) (c_paths_of : Cal P w K mg base n "paths_of" ["nest"] (spPaths T2)) :
    FnOk P w K mg base CX0 (n + 1) f fd ["text", "k"] (spWin T1 T2 T4) := by
  have sc : FnScope ["text", "k", "nest", "within", "lines", "path"] ["text", "k"] (defScope (top 45)) := ⟨rfl, rfl, rfl, by decide +kernel, rfl, by decide +kernel, by decide +kernel⟩
  refine F.ok sc (fun vs H Q E h => ?_) (fun cdv A outer s H vs Q E hr h => ?_)
  · obtain ⟨l, k, rfl, _⟩ := h
    rfl
  obtain ⟨l, k, rfl, k0, k4, hl, cl, zl, t1, t2, t4, q⟩ := h
  have hdeep : (cxOf CX0 P w K mg base ["text", "k", "nest", "within", "lines", "path"] "_law_within_right" (defScope (top 45)) f cdv A outer s H E).nox.A.units + 400 < cLine := by
    have := hr.un
    show (A.deeper (envOfC "_law_within_right" (defScope (top 45)) s.heap.objs.size f cdv)).units + 400 < cLine
    omega
  obtain ⟨j, rfl, hj⟩ : ∃ j : Nat, k = (j : Int) ∧ j < 4 := ⟨k.toNat, by omega, by omega⟩
  have eo : Lc (Str.ofString "(<[{") = [40, 60, 91, 123] := by decide +kernel
  have ec : Lc (Str.ofString ")>]}") = [41, 62, 93, 125] := by decide +kernel
  obtain ⟨c, hc1, hc2, hc3⟩ : ∃ c, (Lc (Str.ofString "(<[{"))[j]? = some c ∧ (Lc (Str.ofString ")>]}"))[j]? = some (oth c) ∧ isOp c = true := by
    rw [eo, ec]
    match j, hj with
    | 0, _ => exact ⟨40, rfl, rfl, rfl⟩
    | 1, _ => exact ⟨60, rfl, rfl, rfl⟩
    | 2, _ => exact ⟨91, rfl, rfl, rfl⟩
    | 3, _ => exact ⟨123, rfl, rfl, rfl⟩
  refine ⟨_, (pss_cons (ps_set (i := 2) sc.nd rfl (Or.inl rfl) (pcall c_nest_of hr rfl (pa_cons (pn 0) pa_nil))) (pss_cons (ps_set (i := 3) sc.nd rfl (Or.inl rfl) (pe_lst (pa_cons (pe_tup (pa_cons (pe_ix ixC pe_str (pn 1) (fun _ _ => rfl)) (pa_cons (pn 2) pa_nil))) pa_nil))) (pss_cons (ps_if (PW.pt (pw_or (pcmp (opNeX hdeep) (pcall c_nest_of hr rfl (pa_cons (pe_op opAdd (pe_op opAdd (pe_ix ixC pe_str (pn 1) (fun _ _ => rfl)) (pn 0)) (pe_ix ixC pe_str (pn 1) (fun _ _ => rfl))) pa_nil)) (pn 3) (nomark _)) (pw_or1 (pcmp (opNe hr.units) (pcall c_depth_of hr rfl (pa_cons (pn 3) pa_nil)) (pe_op opAdd (pcall c_depth_of hr rfl (pa_cons (pn 2) pa_nil)) pe_int) (nomark _))))) (pss_one (ps_ret pe_bl)) pss_nil) (pss_cons (ps_set (i := 4) sc.nd rfl (Or.inl rfl) (pe_op opAdd (pe_lst (pa_cons pe_str pa_nil)) (pe_op opMul (psplit (pcall c_outline hr rfl (pa_cons (pn 2) pa_nil)) pe_str) (pe_callTy cInt rfl b_int (by decide +kernel) (pa_cons (pe_cmpR (opNe hr.units) (pn 0) pe_str (nomark _)) pa_nil))))) (pss_cons (ps_if (pcmp (opNe hr.units) (pcall c_outline hr rfl (pa_cons (pn 3) pa_nil)) (pe_op opAdd (pe_ix ixC pe_str (pn 1) (fun _ _ => rfl)) (pjoin pe_str (pn 4))) (nomark _)) (pss_one (ps_ret pe_bl)) pss_nil) (pss_one (ps_ret (pe_cmpR (opEqX hdeep) (pcall c_paths_of hr rfl (pa_cons (pn 3) pa_nil)) (pe_op opAdd (pe_lst (pa_cons (pe_tup (pa_cons pe_int pa_nil)) pa_nil)) (pe_lc (own := [("path", 5)]) (g := (gName 5)) rfl sc.nd (pi_list (pcall c_paths_of hr rfl (pa_cons (pn 2) pa_nil))) (blkOk_by (own := [("path", 5)]) (N := ["text", "k", "nest", "within", "lines", "path"]) (sc := defScope (top 45)) (by decide +kernel)) (fun _ _ _ _ _ => (pg_name (i := 5) sc.nd rfl (Or.inl rfl))) (fun _ _ _ _ _ => pts_nil) (fun _ _ _ _ _ => (pe_op (opAddK (K := K)) (pe_tup (pa_cons pe_int pa_nil)) (pn 5))))) (nomark _))))))))), ?_⟩
  refine ⟨l, rfl, hl, cl, by omega, t1, fun H1 A0 N0 a0 f0 S1 e0 w0 => ?_⟩
  refine ⟨by show (Lc (Str.ofString "(<[{")).length ≤ 1000000; rw [eo]; decide, c, atI_nat hc1, (by show 2 ≤ sizeLine; decide), fun t0 ht0 => ⟨(by show 1 ≤ sizeLine; decide), fun p hp => ?_⟩⟩
  have S2 : Same H1 (upd (upd H1 t0 (.tup [sg c, .ref A0])) p (.lst [.ref t0])) := (same_new ht0 _).trans (same_new hp _)
  have et : (upd (upd H1 t0 (.tup [sg c, .ref A0])) p (.lst [.ref t0])) t0 = some (.tup [sg c, .ref A0]) := same_new hp _ _ _ upd_same
  have ep : (upd (upd H1 t0 (.tup [sg c, .ref A0])) p (.lst [.ref t0])) p = some (.lst [.ref t0]) := upd_same
  generalize upd (upd H1 t0 (.tup [sg c, .ref A0])) p (.lst [.ref t0]) = H2 at S2 et ep
  have a2 := a0.same S2
  have S2' := S1.trans S2
  have zN : (Nd.vals N0).length ≤ 40 := by have := Nd.len_vals N0; rw [e0] at this; omega
  have wB : Nd.WF (Nd.br c t0 A0 N0 .nil) := ⟨hc3, w0, trivial⟩
  have xB : Nd.tx (Nd.br c t0 A0 N0 .nil) = c :: (l ++ [oth c]) := by show c :: (Nd.tx N0 ++ oth c :: []) = _; rw [e0]
  have nB : ∀ G : Hp, Same H2 G → Nd.Nst G p 60 (c :: (l ++ [oth c])) (Nd.br c t0 A0 N0 .nil) := fun G k => by
    have := Nd.nst_br (a := A0) (q := p) (t := t0) (n := N0) (c := c) (H := G) hc3 w0 (a2.same k).holds (a2.same k).top (k _ _ et) (k _ _ ep) (by rw [e0]; omega)
    rw [e0] at this; exact this
  have nN : ∀ G : Hp, Same H2 G → Nd.Nst G A0 60 l N0 := fun G k => (a2.same k).nst w0 e0 (by omega)
  have lB : (c :: (l ++ [oth c])).length ≤ 120 := by simp; omega
  refine ⟨by show (Lc (Str.ofString "(<[{")).length ≤ 1000000; rw [eo]; decide, c, atI_nat hc1, by show 1 + l.length ≤ 1000000; omega, by show (Lc (Str.ofString ")>]}")).length ≤ 1000000; rw [ec]; decide, oth c, atI_nat hc2, by show (c :: l).length + 1 ≤ 1000000; simp; omega, ?_⟩
  have sB : Sgs (c :: (l ++ [oth c])) := fun x hx => by
    rcases List.mem_cons.mp hx with e | hx
    · rw [e]; exact sg_of_op hc3
    · rcases List.mem_append.mp hx with hx | hx
      · exact hl x hx
      · rw [List.mem_singleton.mp hx]; exact sg_oth (sg_of_op hc3)
  have clB : Clean (c :: (l ++ [oth c])) := by rw [← xB]; exact Nd.tx_clean wB
  refine ⟨c :: (l ++ [oth c]), rfl, sB, clB, by omega, t1.same S2', fun H3 D3 N3 d3 f3 S3 e3 w3 => ?_⟩
  obtain ⟨d, e, x1, x2, x3, x4, x5, x6⟩ := nest_eqO (K := K) d3.top d3.holds (nB H3 S3).top (nB H3 S3).holds w3 wB (by rw [e3, xB]) (by have := Nd.lv_len N3; rw [e3] at this; omega)
  refine ⟨d, e, x1, x2, x3, x4, x5, ?_⟩
  refine ite2 (fun c' => absurd (show (true != PyData.eqv d e) = true from c') (by rw [x6]; decide)) (fun _ => ?_)
  have S3' := S2'.trans S3
  refine ⟨p, _, _, rfl, nB _ S3, lB, t2.same S3', fun H4 S4 => ?_⟩
  have S4 := S3.trans S4
  refine ⟨A0, l, N0, rfl, nN _ S4, by omega, t2.same (S2'.trans S4), fun H5 S5 => ?_⟩
  have S5 := S4.trans S5
  refine ite2 (fun c' => (nself (show ((Nd.bd (Nd.br c t0 A0 N0 .nil) : Nat) : Int) = ((Nd.bd N0 : Nat) : Int) + 1 from ?_) c').elim) (fun _ => ?_)
  · show (((max (Nd.bd N0 + 1) 0 : Nat)) : Int) = _
    omega
  refine ⟨(by show 1 ≤ sizeLine; decide), fun r6 hr6 => ?_⟩
  have k6 := same_new hr6 (.lst [.str (Str.ofString "")])
  have er6 : (upd H5 r6 (.lst [.str (Str.ofString "")])) r6 = some (.lst [.str (Str.ofString "")]) := upd_same
  generalize upd H5 r6 (.lst [.str (Str.ofString "")]) = H6 at k6 er6
  have S6 := S5.trans k6
  refine ⟨A0, l, N0, rfl, nN _ S6, by omega, t2.same (S2'.trans S6), t4.same (S2'.trans S6), fun H7 k7 => ?_⟩
  have S7 := S6.trans k7
  have er7 := k7 _ _ er6
  have zT := oT_len e0 zl
  have en : Lc (Str.ofString "\n") = [10] := nl10
  obtain ⟨ys, y1, y2, y3, y4⟩ : ∃ ys : List (List Nat), ys ≠ [] ∧ (∀ x ∈ ys, 10 ∉ x) ∧ Nd.oT (Nd.ol N0 0) = joinL [10] ys ∧ (List.replicate (if l = [] then 0 else 1) (ys.map fun x => V.str (S x))).flatten = ((Nd.ol N0 0).map Nd.ln).map fun x => V.str (S x) := by
    by_cases hl0 : l = []
    · have : N0 = .nil := by
        cases N0 with
        | nil => rfl
        | lett c r => rw [hl0] at e0; cases e0
        | br c t a n r => rw [hl0] at e0; cases e0
      subst this
      exact ⟨[[]], by simp, by simp, rfl, by rw [if_pos hl0]; rfl⟩
    · have ho : Nd.ol N0 0 ≠ [] := fun z => hl0 (by rw [← e0, nil_of_ol z]; rfl)
      refine ⟨(Nd.ol N0 0).map Nd.ln, by simpa using ho, fun x hx => ?_, rfl, by rw [if_neg hl0]; simp⟩
      obtain ⟨y, hy, rfl⟩ := List.mem_map.mp hx
      exact ln_no10s (Nd.ol_sg w0 0 y hy)
  have yl : ys.length ≤ 4001 := by
    have := Nd.len_join ys
    have h3 : ∀ zs : List (List Nat), zs ≠ [] → zs.length ≤ (joinL [10] zs).length + 1 := by
      intro zs
      induction zs with
      | nil => intro h; exact absurd rfl h
      | cons x r ih =>
        intro _
        cases r with
        | nil => simp
        | cons y r' =>
          have := ih (by simp)
          show (y :: r').length + 1 ≤ (x ++ [10] ++ joinL [10] (y :: r')).length + 1
          simp only [List.length_append, List.length_cons, List.length_nil] at this ⊢
          omega
    have := h3 ys y1
    rw [← y3] at this; omega
  refine ⟨en, ys, y1, y2, y3, by show (Nd.oT (Nd.ol N0 0)).length + 2 ≤ 1000000; omega, fun r8 hr8 => ?_⟩
  have k8 := same_new hr8 (.lst (ys.map fun x => V.str (S x)))
  have er8 : (upd H7 r8 (.lst (ys.map fun x => V.str (S x)))) r8 = some (.lst (ys.map fun x => V.str (S x))) := upd_same
  generalize upd H7 r8 (.lst (ys.map fun x => V.str (S x))) = H8 at k8 er8
  have S8 := S7.trans k8
  have e00 : Lc (Str.ofString "") = [] := by decide +kernel
  have hk : (if (true != decide (Lc (S l) = Lc (Str.ofString ""))) = true then (1 : Int) else 0) = ((if l = [] then 0 else 1 : Nat) : Int) := by
    rw [e00]
    by_cases h : l = []
    · rw [if_pos h, if_neg (by rw [decide_eq_true (show Lc (S l) = [] from h)]; decide)]; rfl
    · rw [if_neg h, if_pos (by rw [decide_eq_false (show ¬ Lc (S l) = [] from h)]; rfl)]; rfl
  obtain ⟨κ, hκ⟩ : ∃ κ, (if (true != decide (Lc (S l) = Lc (Str.ofString ""))) = true then (1 : Int) else 0) = κ := ⟨_, rfl⟩
  have hk' : κ = ((if l = [] then 0 else 1 : Nat) : Int) := hκ.symm.trans hk
  have hκ1 : κ.toNat ≤ 1 := by rw [hk', Int.toNat_natCast]; split <;> omega
  obtain ⟨LL, hLL⟩ : ∃ LL, (Nd.ol N0 0).map Nd.ln = LL := ⟨_, rfl⟩
  have y5 : (List.replicate κ.toNat (ys.map fun x => V.str (S x))).flatten = LL.map fun x => V.str (S x) := by rw [hk', Int.toNat_natCast, y4, hLL]
  have lLL : LL.length ≤ 40 := by rw [← hLL, List.length_map]; have := (Nd.len_ol N0 0).1; rw [e0] at this; omega
  have fLL : LL.flatten.length ≤ 4000 := by
    rw [← hLL]
    have := Nd.sum_ln (Nd.ol N0 0) 61 fun x hx => by
      have := Nd.ol_dep N0 0 x hx
      have := Nd.lv_len N0
      rw [e0] at this; omega
    have := (Nd.len_ol N0 0).1
    rw [e0] at this
    omega
  have b9 : κ < 1000000 ∧ -1000000 < κ ∧ (ys.map fun x => V.str (S x)).length * κ.toNat ≤ 1000000 := by
    refine ⟨by rw [hk']; split <;> decide, by rw [hk']; split <;> decide, ?_⟩
    rw [List.length_map]
    have := Nat.mul_le_mul_left ys.length hκ1
    omega
  subst hκ
  refine ⟨_, er8, b9, fun r9 hr9 => ?_⟩
  have k9 := same_new hr9 (.lst (List.replicate (if (true != decide (Lc (S l) = Lc (Str.ofString ""))) = true then (1 : Int) else 0).toNat (ys.map fun x => V.str (S x))).flatten)
  have er9 : (upd H8 r9 (.lst (List.replicate (if (true != decide (Lc (S l) = Lc (Str.ofString ""))) = true then (1 : Int) else 0).toNat (ys.map fun x => V.str (S x))).flatten)) r9 = some (.lst (LL.map fun x => V.str (S x))) := by rw [upd_same, y5]
  generalize upd H8 r9 (.lst (List.replicate (if (true != decide (Lc (S l) = Lc (Str.ofString ""))) = true then (1 : Int) else 0).toNat (ys.map fun x => V.str (S x))).flatten) = H9 at k9 er9
  have S9 := S8.trans k9
  refine .inl ⟨r6, r9, _, _, rfl, rfl, (k8.trans k9) _ _ er7, er9, (by rw [List.length_map]; exact mil (by simp; omega)), fun r10 hr10 => ?_⟩
  have es : [V.str (Str.ofString "")] ++ (LL.map fun x => V.str (S x)) = ([] :: LL).map fun x => V.str (S x) := by
    show V.str (Str.ofString "") :: _ = V.str (S []) :: _
    rw [← S_Lc (Str.ofString ""), e00]; rfl
  rw [es]
  have k10 := same_new hr10 (.lst (([] :: LL).map fun x => V.str (S x)))
  have er10 : (upd H9 r10 (.lst (([] :: LL).map fun x => V.str (S x)))) r10 = some (.lst (([] :: LL).map fun x => V.str (S x))) := upd_same
  generalize upd H9 r10 (.lst (([] :: LL).map fun x => V.str (S x))) = H10 at k10 er10
  have S10 := S9.trans k10
  refine ⟨p, _, _, rfl, nB _ S10, lB, t2.same (S2'.trans S10), t4.same (S2'.trans S10), fun H11 k11 => ?_⟩
  have S11 := S10.trans k11
  have e32 : Lc (Str.ofString "\n ") = [10, 32] := by decide +kernel
  have zj : (joinL [10, 32] ([] :: LL)).length ≤ 5000 := by
    have := joinL_len [10, 32] ([] :: LL)
    simp only [List.flatten_cons, List.nil_append, List.length_cons, List.length_nil] at this
    omega
  refine ⟨by show (Lc (Str.ofString "(<[{")).length ≤ 1000000; rw [eo]; decide, c, atI_nat hc1, _, .inl (SqL.of (k11 _ _ er10)), ?_, ?_, ?_⟩
  · rw [e32]
    simp only [List.flatten_cons, List.nil_append, List.length_cons, List.length_nil]
    omega
  · rw [e32]
    show 1 + (joinL [10, 32] ([] :: LL)).length ≤ 1000000
    omega
  rw [e32]
  refine ite2 (fun c' => (nself (show Nd.oT (Nd.ol (Nd.br c t0 A0 N0 .nil) 0) = [c] ++ joinL [10, 32] ([] :: LL) from ?_) c').elim) (fun _ => ?_)
  · rw [Nd.oT_in, hLL]; rfl
  refine ⟨p, _, _, rfl, nB _ S11, lB, t2.same (S2'.trans S11), fun H12 p12 ws12 hp12 k12 e12 pw12 => ?_⟩
  have S12 := S11.trans k12
  refine ⟨(by show 1 ≤ sizeLine; decide), fun t13 ht13 => ⟨(by show 1 ≤ sizeLine; decide), fun q13 hq13 => ?_⟩⟩
  have k13 : Same H12 (upd (upd H12 t13 (.tup [.int 0])) q13 (.lst [.ref t13])) := (same_new ht13 _).trans (same_new hq13 _)
  have et13 : (upd (upd H12 t13 (.tup [.int 0])) q13 (.lst [.ref t13])) t13 = some (.tup [.int 0]) := same_new hq13 _ _ _ upd_same
  have eq13 : (upd (upd H12 t13 (.tup [.int 0])) q13 (.lst [.ref t13])) q13 = some (.lst [.ref t13]) := upd_same
  generalize upd (upd H12 t13 (.tup [.int 0])) q13 (.lst [.ref t13]) = H13 at k13 et13 eq13
  have S13 := S12.trans k13
  refine ⟨A0, l, N0, rfl, nN _ S13, by omega, t2.same (S2'.trans S13), fun H14 p14 ws14 hp14 k14 e14 pw14 => ?_⟩
  have S14 := S13.trans k14
  refine ⟨p14, rfl, ⟨_, SqL.of e14⟩, fun D hD => ?_⟩
  have lp14 : ws14.length ≤ 40 := by rw [pw14.1, List.length_map]; have := Nd.len_pb N0 [] 0; rw [e0] at this; omega
  refine lc_list (xs := ws14) (fun i H' => Same H14 H' ∧ ∃ us, H' D = some (.lst us) ∧ us.length = i ∧ Pths H' us ((((Nd.pb N0 [] 0).map (·.1)).take i).map fun p => 0 :: p)) ⟨same_new hD _, [], upd_same, rfl, All2.nil⟩ (fun i H' _ h => SqL.of (h.1 _ _ e14)) ?_ ?_
  · rintro i x H' hx ⟨k, us, hu, lu, pu⟩
    have hi : i < ((Nd.pb N0 [] 0).map (·.1)).length := by rw [← pw14.1]; exact (List.getElem?_eq_some_iff.mp hx).1
    have hy : ((Nd.pb N0 [] 0).map (·.1))[i]? = some ((Nd.pb N0 [] 0).map (·.1))[i] := List.getElem?_eq_getElem hi
    have hm : ((Nd.pb N0 [] 0).map (·.1))[i] ∈ (Nd.pb N0 [] 0).map (·.1) := List.getElem_mem hi
    obtain ⟨b, rfl, hb⟩ := (pw14.2 i x _ hx hy)
    have tk : ((Nd.pb N0 [] 0).map (·.1)).take (i + 1) = ((Nd.pb N0 [] 0).map (·.1)).take i ++ [((Nd.pb N0 [] 0).map (·.1))[i]] := by rw [List.take_add_one, hy]; rfl
    generalize ((Nd.pb N0 [] 0).map (·.1))[i] = π at hb tk hm
    obtain ⟨π0, πr, rfl, _⟩ := Nd.pb_hd N0 0 π hm
    have hπ : (π0 :: πr).length ≤ 1000 := by
      obtain ⟨y, hy, e⟩ := List.mem_map.mp hm
      have := (Nd.pb_len N0 [] 0).1 y hy
      rw [e] at this
      have := Nd.bd_lv N0
      have := Nd.lv_len N0
      rw [e0] at this
      simp only [List.length_nil] at *
      omega
    refine ⟨rfl, ?_⟩
    refine ⟨(by show 1 ≤ sizeLine; decide), fun t ht => ?_⟩
    have k' := same_new ht (.tup [.int 0])
    have et : (upd H' t (.tup [.int 0])) t = some (.tup [.int 0]) := upd_same
    have hu' := k' _ _ hu
    have pu' := Pths.same pu k'
    have hb' := k' _ _ (k _ _ hb)
    have hDt : Same H14 (upd H' t (.tup [.int 0])) := k.trans k'
    generalize upd H' t (.tup [.int 0]) = H'' at k' et hu' pu' hb' hDt
    refine .inr ⟨t, b, [.int 0], pathV (π0 :: πr), rfl, rfl, SqT.of et, SqT.of hb', by simp, ?_, fun z => by simp [pathV] at z, fun _ r hr => ?_⟩
    · show [V.int 0].length + (pathV (π0 :: πr)).length ≤ sizeLine
      exact mil (by simp at hπ ⊢; omega)
    have k2 := same_new hr (.tup ([.int 0] ++ pathV (π0 :: πr)))
    refine ⟨us, k2 _ _ hu', Nat.lt_of_lt_of_le (by have h1 := pw14.1; omega : us.length < 1000000) (by decide), sU (hDt.trans k2) hD _, _, upd_same, by rw [List.length_append, lu]; rfl, ?_⟩
    rw [tk, List.map_append]
    refine (Pths.upd (Pths.same pu' k2) (k2 _ _ hu')).app (All2.one ?_)
    refine PthAt.upd ⟨r, rfl, ?_⟩ (k2 _ _ hu')
    rw [upd_same]; rfl
  · rintro H15 ⟨k15, us, hu, lu, pu⟩
    rw [List.take_of_length_le (by rw [← pw14.1]; exact Nat.le_refl _)] at pu
    refine .inl ⟨q13, D, _, _, rfl, rfl, (k14.trans k15) _ _ eq13, hu, mil (by simp; omega), fun r16 hr16 => ?_⟩
    have k16 := same_new hr16 (.lst ([.ref t13] ++ us))
    have er16 : (upd H15 r16 (.lst ([.ref t13] ++ us))) r16 = some (.lst ([.ref t13] ++ us)) := upd_same
    generalize upd H15 r16 (.lst ([.ref t13] ++ us)) = H16 at k16 er16
    have kk : Same H12 H16 := k13.trans (k14.trans (k15.trans k16))
    have pa : Pths H16 ([.ref t13] ++ us) ((Nd.pb (Nd.br c t0 A0 N0 .nil) [] 0).map (·.1)) := by
      rw [Nd.pb_paths]
      show Pths H16 _ ([0] :: _ ++ [])
      rw [List.append_nil]
      refine All2.app (xs := [[0]]) (All2.one ⟨t13, rfl, (k14.trans (k15.trans k16)) _ _ et13⟩) (Pths.same pu k16)
    have pb := Pths.same pw12 kk
    have l1 : PyData.canLay0 (.list (((Nd.pb (Nd.br c t0 A0 N0 .nil) [] 0).map (·.1)).map pathP)) = true := by rw [PyData.canLay0]; exact lay_paths _
    refine ⟨_, _, .lst (SqL.of (kk _ _ e12)) pb.dp, .lst (SqL.of er16) pa.dp, l1, l1, ?_, ?_⟩
    · have := dep_pathsP ((Nd.pb (Nd.br c t0 A0 N0 .nil) [] 0).map (·.1))
      rw [PyData.depth]; omega
    · rw [SeqAt.eqv_refl _ l1]
      exact q _ (S2'.trans (S12.trans kk))
end
end G
set_option Elab.async false
set_option linter.all false
set_option maxRecDepth 100000
set_option maxHeartbeats 4000000
namespace G
open PySem PySem.Spec PyProof.Rows L2 N1
section
variable {P : Program} {w : World} {K : PySem.W.Frag} {mg : Str → Option Value} {base : Heap} {f : Addr} {fd : FuncData}
theorem hu20 {n c : Nat} (h : n + 64 < c) : n + 20 < c := by omega
theorem mate_op_clean {l : List Nat} (cl : Clean l) {i c : Nat} (h : l[i]? = some c) (ho : isOp c = true) : ∃ j, mate l i = some j := by
  cases e : mate l i with
  | some j => exact ⟨j, rfl⟩
  | none => exact absurd e ((clean_allM cl).op i c h ho)
theorem takeA2 {α β : Type} {R : α → β → Prop} {vs : List α} {xs : List β} (h : All2 R vs xs) (n : Nat) : All2 R (vs.take n) (xs.take n) := by
  refine ⟨by rw [List.length_take, List.length_take, h.1], fun i v x h1 h2 => ?_⟩
  rw [List.getElem?_take] at h1 h2
  split at h1
  · rename_i hi
    rw [if_pos hi] at h2
    exact h.2 i v x h1 h2
  · cases h1
theorem cut_ini {α : Type} (y : List α) (c : α) : cutA (y ++ [c]) none (some (-1)) = y := by
  unfold cutA
  have e1 : HT.sIx (y ++ [c]).length 0 none = 0 := rfl
  have e2 : HT.sIx (y ++ [c]).length (y ++ [c]).length (some (-1)) = y.length := by
    show (if (-1 : Int) < 0 then ((-1 : Int) + ((y ++ [c]).length : Nat)).toNat else min (-1 : Int).toNat (y ++ [c]).length) = y.length
    rw [if_pos (by decide), List.length_append, List.length_singleton]
    omega
  rw [e1, e2, List.drop_zero, Nat.sub_zero, List.take_left]
theorem joinP {R : L2.St → Hp → Prop} {G : Prop} (INV : L2.St → Hp → Prop) (main : (∀ σ H, INV σ H → R σ H) → G) (rest : ∀ σ H, INV σ H → R σ H) : G := main rest
theorem keys_inj : ∀ {p q : List Nat}, p.map (fun k => (Sum.inl ((k : Nat) : Int) : Key)) = q.map (fun k => (Sum.inl ((k : Nat) : Int) : Key)) → p = q
  | [], [], _ => rfl
  | [], b :: q, h => by cases h
  | a :: p, [], h => by cases h
  | a :: p, b :: q, h => by
    rw [List.map_cons, List.map_cons] at h
    injection h with h1 h2
    injection h1 with h1
    rw [keys_inj h2, show a = b by omega]
theorem pth_keys {H : Hp} : ∀ {ws : List V} {ps : List (List Nat)}, Pths H ws ps → ∃ qs : List (Addr × List Key), ws = qs.map (fun p => V.ref p.1) ∧ (∀ p ∈ qs, H p.1 = some (.tup (p.2.map kV))) ∧ qs.map (·.2) = ps.map fun p => p.map fun k => (Sum.inl ((k : Nat) : Int) : Key)
  | [], [], _ => ⟨[], rfl, fun p h => (by cases h), rfl⟩
  | [], _ :: _, h => by cases h.1
  | _ :: _, [], h => by cases h.1
  | v :: ws, p :: ps, h => by
    obtain ⟨qs, h1, h2, h3⟩ := pth_keys (H := H) (ws := ws) (ps := ps) ⟨by have := h.1; simpa using this, fun i x y h1 h2 => h.2 (i + 1) x y h1 h2⟩
    obtain ⟨r, rfl, e⟩ := h.2 0 v p rfl rfl
    refine ⟨(r, p.map fun k => (Sum.inl ((k : Nat) : Int) : Key)) :: qs, by rw [List.map_cons, ← h1], fun x hx => ?_, by rw [List.map_cons, List.map_cons, h3]⟩
    rcases List.mem_cons.mp hx with z | hx
    · subst z
      rw [List.map_map]; exact e
    · exact h2 x hx
def spPthR (T1 T2 : Addr) : Sp := fun vs H Q _ => ∃ (l : List Nat), vs = [.str (S l)] ∧ Sgs l ∧ Clean l ∧ l.length ≤ 100 ∧ Tb T1 H ∧ Tb T2 H ∧ ∀ H' : Hp, Same H H' → Q (.bl true) H'
theorem ok_pthR {n : Nat} {T1 T2 : Addr} (hn : 13 ≤ n) (F : Fun K "_law_paths_right" "_law_paths_right" (top 46) f fd) (b_len : mg "len" = none) (b_range : mg "range" = none) (b_set : mg "set" = none)
    (c_nest_of : Cal P w K mg base n "nest_of" ["text"] (spNestOf T1)) (c_paths_of : Cal P w K mg base n "paths_of" ["nest"] (spPaths T2)) (c_partners : Cal P w K mg base n "partners" ["text"] spPartners) (c_at_path : Cal P w K mg base n "at_path" ["nest", "path"] (spAtPath T2)) :
    FnOk P w K mg base CX0 (n + 1) f fd ["text"] (spPthR T1 T2) := by
  have sc : FnScope ["text", "nest", "paths", "places", "mates", "k", "path", "place", "bracket", "inner"] ["text"] (defScope (top 46)) := ⟨rfl, rfl, rfl, by decide +kernel, rfl, by decide +kernel, by decide +kernel⟩
  refine F.ok sc (fun vs H Q E h => ?_) (fun cdv A outer s H vs Q E hr h => ?_)
  · obtain ⟨l, rfl, _⟩ := h
    rfl
  obtain ⟨l, rfl, hl, cl, zl, t1, t2, q⟩ := h
  have hdeep : (cxOf CX0 P w K mg base ["text", "nest", "paths", "places", "mates", "k", "path", "place", "bracket", "inner"] "_law_paths_right" (defScope (top 46)) f cdv A outer s H E).nox.A.units + 400 < cLine := by
    have := hr.un
    show (A.deeper (envOfC "_law_paths_right" (defScope (top 46)) s.heap.objs.size f cdv)).units + 400 < cLine
    omega
  refine ⟨_, (pss_cons (ps_set (i := 1) sc.nd rfl (Or.inl rfl) (pcall c_nest_of hr rfl (pa_cons (pn 0) pa_nil))) (pss_cons (ps_set (i := 2) sc.nd rfl (Or.inl rfl) (pcall c_paths_of hr rfl (pa_cons (pn 1) pa_nil))) (pss_cons (ps_setLc (i := 3) (own := [("place", 7)]) (g := (gName 7)) rfl sc.nd rfl rfl (sw_true rfl rfl rfl (by decide +kernel)) (pi_range1 rfl b_range (pa_cons (pe_callB cLen rfl b_len (by decide +kernel) (pa_cons (pn 0) pa_nil)) pa_nil)) (blkOk_by (own := [("place", 7)]) (N := ["text", "nest", "paths", "places", "mates", "k", "path", "place", "bracket", "inner"]) (sc := defScope (top 46)) (by decide +kernel)) (fun _ _ _ _ _ => (pg_name (i := 7) sc.nd rfl (Or.inl rfl))) (fun _ _ _ _ _ => (pts_one (pcmp opIn (pe_ix (ixK (K := K)) (pn 0) (pn 7) (fun _ _ => rfl)) pe_str rfl))) (fun _ _ _ _ _ => (pn 7))) (pss_cons (ps_set (i := 4) sc.nd rfl (Or.inl rfl) (pcall c_partners hr rfl (pa_cons (pn 0) pa_nil))) (pss_cons (ps_if (PW.pt (pw_or (pcmp (opNe hr.units) (pe_callB cLen rfl b_len (by decide +kernel) (pa_cons (pn 2) pa_nil)) (pe_callB cLen rfl b_len (by decide +kernel) (pa_cons (pn 3) pa_nil)) (nomark _)) (pw_or1 (pcmp opLt (pe_callB cLenS rfl b_len (by decide +kernel) (pa_cons (pe_callTy (cSetTup hr.hd (hu20 hr.units)) rfl b_set (by decide +kernel) (pa_cons (pn 2) pa_nil)) pa_nil)) (pe_callB cLen rfl b_len (by decide +kernel) (pa_cons (pn 2) pa_nil)) (nomark _))))) (pss_one (ps_ret pe_bl)) pss_nil) (pss_cons (ps_for PassesOwn.never rfl (pi_range1 rfl b_range (pa_cons (pe_callB cLen rfl b_len (by decide +kernel) (pa_cons (pn 2) pa_nil)) pa_nil)) (pg_name (i := 5) sc.nd rfl (Or.inl rfl)) (pss_cons (ps_set (i := 6) sc.nd rfl (Or.inl rfl) (pe_ix ixC (pn 2) (pn 5) (fun _ _ => rfl))) (pss_cons (ps_if (PW.pt (pw_and (pcmp opGt (pe_callB cLen rfl b_len (by decide +kernel) (pa_cons (pn 6) pa_nil)) pe_int (nomark _)) (pw_and1 (pcmp (opNotInP (K := K) hr.units) (pe_slice sl_tup (pn 6) po_none (poC (pe_un unNeg pe_int))) (pe_slice slC (pn 2) po_none (poC (pn 5))) rfl)))) (pss_one (ps_ret pe_bl)) pss_nil) (pss_cons (ps_asg (pcall c_at_path hr rfl (pa_cons (pn 1) (pa_cons (pn 6) pa_nil))) (pg_pair (i := 8) (j := 9) sc.nd rfl (Or.inl rfl) rfl (Or.inl rfl) rfl)) (pss_one (ps_if (PW.pt (pw_or (pcmp (opNe hr.units) (pn 8) (pe_ix ixC (pn 0) (pe_ix ixC (pn 3) (pn 5) (fun _ _ => rfl)) (fun _ _ => rfl)) (nomark _)) (pw_or1 (pcmp (opNeX hdeep) (pn 9) (pcall c_nest_of hr rfl (pa_cons (pe_slice slC (pn 0) (poC (pe_op opAdd (pe_ix ixC (pn 3) (pn 5) (fun _ _ => rfl)) pe_int)) (poC (pe_ix ixC (pn 4) (pe_ix ixC (pn 3) (pn 5) (fun _ _ => rfl)) (fun _ _ => rfl)))) pa_nil)) (nomark _))))) (pss_one (ps_ret pe_bl)) pss_nil)))))) (pss_one (ps_ret pe_bl)))))))), ?_⟩
  have eo : Lc (Str.ofString "(<[{") = ops := rfl
  refine ⟨l, rfl, hl, cl, by omega, t1, fun H1 A0 N0 a0 f0 S1 e0 w0 => ?_⟩
  have nN : ∀ G : Hp, Same H1 G → Nd.Nst G A0 60 l N0 := fun G k => (a0.same k).nst w0 e0 (by omega)
  refine ⟨A0, l, N0, rfl, nN _ (Same.refl _), by omega, t2.same S1, fun H2 p2 ws hp2 S2 e2 pw => ?_⟩
  have S2' := S1.trans S2
  have lp : ((Nd.pb N0 [] 0).map (·.1)).length ≤ 100 := by rw [List.length_map]; have := Nd.len_pb N0 [] 0; rw [e0] at this; omega
  have lws : ws.length ≤ 100 := by rw [pw.1]; exact lp
  refine ⟨by show l.length ≤ 1000000; omega, _, rfl, by show -2 ^ 62 ≤ ((l.length : Nat) : Int); omega, by show ((l.length : Nat) : Int) < 2 ^ 62; omega, fun D hD => ?_⟩
  refine lc_range (lo := 0) (n := l.length) (fun i H' => Same H2 H' ∧ H' D = some (.lst (((List.range i).filter (Nd.opAt l)).map fun k => V.int (k : Nat)))) ⟨same_new hD _, upd_same⟩ (fun i H' hi ⟨k, hu⟩ => ?_) (fun H3 ⟨k3, eD⟩ => ?_)
  · have hc : l[i]? = some l[i] := List.getElem?_eq_getElem hi
    generalize l[i] = c at hc
    refine ⟨rfl, ?_⟩
    refine ⟨by show l.length ≤ 1000000; omega, c, ?_, ?_⟩
    · exact (by rw [show (0 : Int) + (i : Nat) = ((i : Nat) : Int) by omega]; exact atI_nat hc)
    rw [List.range_succ, List.filter_append, List.map_append]
    have ha : Nd.opAt l i = isOp c := by unfold Nd.opAt; rw [hc]
    refine ite2 (fun c1 => ?_) (fun c1 => ?_)
    · have c1 : isOp c = true := mem_ops.mp (dE c1)
      refine ⟨_, hu, ?_, sU k hD _, ?_⟩
      · rw [List.length_map]
        have h1 := List.length_filter_le (Nd.opAt l) (List.range i)
        rw [List.length_range] at h1
        exact Nat.lt_of_lt_of_le (by omega : _ < 1000000) (by decide)
      · rw [upd_same, show [i].filter (Nd.opAt l) = [i] by simp [ha, c1]]
        show some (HO.lst (_ ++ [V.int (0 + (i : Nat))])) = some (HO.lst (_ ++ [V.int (i : Nat)]))
        rw [show (0 : Int) + (i : Nat) = ((i : Nat) : Int) by omega]
    · have c1 : ¬ isOp c = true := fun z => dEF c1 (mem_ops.mpr z)
      rw [show [i].filter (Nd.opAt l) = [] by simp [ha, c1], List.map_nil, List.append_nil]
      exact ⟨k, hu⟩
  have eD : H3 D = some (.lst ((Nd.opl l).map fun k => V.int (k : Nat))) := eD
  have hq := Nd.opl_eq w0
  rw [e0] at hq
  have lop : (Nd.opl l).length = ((Nd.pb N0 [] 0).map (·.1)).length := by
    have := congrArg List.length hq
    rw [List.length_map, List.length_map] at this
    rw [this, List.length_map]
  refine ⟨l, rfl, hl, by omega, fun r4 H4 arr hr4 S4 er4 mt => ?_⟩
  have S24 : Same H2 H4 := k3.trans S4
  have e24 := S24 _ _ e2
  have eD4 := S4 _ _ eD
  refine .inl ⟨_, .inl (SqL.of e24), .inl ⟨_, .inl (SqL.of eD4), ?_⟩⟩
  refine ite2 (fun c' => (nself (show ((ws.length : Nat) : Int) = ((((Nd.opl l).map fun k => V.int (k : Nat)).length : Nat) : Int) by rw [List.length_map, lop, pw.1]) c').elim) (fun _ => ?_)
  have pw4 := Pths.same pw S24
  obtain ⟨ps, q1, q2, q3⟩ : ∃ ps : List (Addr × List Key), ws = ps.map (fun p => V.ref p.1) ∧ (∀ p ∈ ps, H4 p.1 = some (.tup (p.2.map kV))) ∧ ps.map (·.2) = ((Nd.pb N0 [] 0).map (·.1)).map fun p => p.map fun k => (Sum.inl ((k : Nat) : Int) : Key) := pth_keys pw4
  have hnod : (ps.map (·.2)).Nodup := by
    rw [q3]
    exact List.Pairwise.map _ (fun a b h e => h (keys_inj e)) (Nd.pb_nodup N0 0)
  have lps : ps.length = ws.length := by rw [q1, List.length_map]
  refine ⟨p2, ps, rfl, by rw [e24, q1], q2, hnod, by omega, fun p5 hp5 => ?_⟩
  have k5 := same_new hp5 (SzS p5 ps.length)
  have e5 : (upd H4 p5 (SzS p5 ps.length)) p5 = some (SzS p5 ps.length) := upd_same
  generalize upd H4 p5 (SzS p5 ps.length) = H5 at k5 e5
  have S25 := S24.trans k5
  have e25 := S25 _ _ e2
  refine ⟨p5, _, rfl, e5, by omega, .inl ⟨_, .inl (SqL.of e25), ?_⟩⟩
  refine ite2 (fun c' => absurd (of_decide_eq_true (show decide (((ps.length : Nat) : Int) < ((ws.length : Nat) : Int)) = true from c')) (by rw [lps]; omega)) (fun _ => ?_)
  refine .inl ⟨_, .inl (SqL.of e25), _, rfl, by show -2 ^ 62 ≤ ((ws.length : Nat) : Int); omega, by show ((ws.length : Nat) : Int) < 2 ^ 62; omega, ?_⟩
  refine for_range (lo := 0) (n := ws.length) (fun k σ G => (∃ v5 v6 v7 v8 v9, σ = [some (.str (S l)), some (.ref A0), some (.ref p2), some (.ref D), some (.ref r4), v5, v6, v7, v8, v9]) ∧ Same H5 G) ⟨⟨_, _, _, _, _, rfl⟩, Same.refl _⟩ ?_ ?_
  · rintro i σ G hi ⟨⟨v5, v6, v7, v8, v9, rfl⟩, kG⟩
    rw [show (0 : Int) + (i : Nat) = ((i : Nat) : Int) by omega]
    have SG : Same H2 G := S25.trans kG
    have eG := SG _ _ e2
    have pG := Pths.same pw SG
    have hx : ws[i]? = some ws[i] := List.getElem?_eq_getElem hi
    have hi2 : i < (Nd.pb N0 [] 0).length := by rw [pw.1, List.length_map] at hi; exact hi
    have hy : (Nd.pb N0 [] 0)[i]? = some (Nd.pb N0 [] 0)[i] := List.getElem?_eq_getElem hi2
    have hym : (Nd.pb N0 [] 0)[i] ∈ Nd.pb N0 [] 0 := List.getElem_mem hi2
    generalize ws[i] = x at hx
    generalize (Nd.pb N0 [] 0)[i] = y at hy hym
    obtain ⟨π, c, n0⟩ := y
    have hπ : ((Nd.pb N0 [] 0).map (·.1))[i]? = some π := by rw [List.getElem?_map, hy]; rfl
    obtain ⟨b, rfl, hb⟩ := pG.2 i x π hx hπ
    have hio : i < (Nd.opl l).length := by rw [lop, List.length_map]; exact hi2
    have ho : (Nd.opl l)[i]? = some (Nd.opl l)[i] := List.getElem?_eq_getElem hio
    have hom : (Nd.opl l)[i] ∈ Nd.opl l := List.getElem_mem hio
    generalize (Nd.opl l)[i] = pl at ho hom
    have hpl := List.mem_filter.mp hom
    obtain ⟨c0, hc0, hop⟩ : ∃ c0, l[pl]? = some c0 ∧ isOp c0 = true := by
      have h2 := hpl.2
      unfold Nd.opAt at h2
      cases e : l[pl]? with
      | none => rw [e] at h2; cases h2
      | some c0 => rw [e] at h2; exact ⟨c0, rfl, h2⟩
    obtain ⟨j, hj⟩ : ∃ j, mate l pl = some j := mate_op_clean cl hc0 hop
    have hqi := congrArg (fun z => z[i]?) hq
    simp only [List.getElem?_map, ho, hy, Option.map_some, Option.some.injEq, Prod.mk.injEq] at hqi
    rw [hj, List.getD_eq_getElem?_getD, hc0] at hqi
    obtain ⟨h1, h2⟩ := hqi
    have h1 : c0 = c := h1
    have h2 : seg l (pl + 1) j = Nd.tx n0 := h2
    subst h1
    have wn : Nd.WF n0 := (Nd.pb_wf w0 [] 0 _ hym).2.1
    have jl : j < l.length := (mate_some hj).2.2.1
    have pj : pl < j := (mate_some hj).2.1
    refine ⟨ws, .ref b, .inl (SqL.of eG), atI_nat hx, ?_⟩
    refine .inl ⟨_, .inr (SqT.of hb), ?_⟩
    apply joinP (fun σ G2 => (σ = [some (.str (S l)), some (.ref A0), some (.ref p2), some (.ref D), some (.ref r4), some (.int (i : Nat)), some (.ref b), v7, v8, v9]) ∧ Same G G2)
    case' main => intro REST
    case' rest => rintro σ G2 ⟨rfl, k2⟩
    case main =>
      refine ite2 (fun c1 => ?_) (fun c1 => ?_)
      case refine_2 =>
        refine ite2 (fun c' => absurd (show false = true from c') Bool.false_ne_true) (fun _ => ?_)
        exact REST [some (.str (S l)), some (.ref A0), some (.ref p2), some (.ref D), some (.ref r4), some (.int (i : Nat)), some (.ref b), v7, v8, v9] G ⟨rfl, Same.refl _⟩
      have c1 : (((pathV π).length : Nat) : Int) > 1 := of_decide_eq_true c1
      have hl2 : 1 < π.length := by rw [List.length_map] at c1; omega
      have hcut : cutV (pathV π) none (some (-1)) = pathV π.dropLast := by
        obtain ⟨a, z, rfl⟩ : ∃ a z, π = a ++ [z] := ⟨π.dropLast, π.getLast (by intro e; rw [e] at hl2; simp at hl2), (List.dropLast_concat_getLast _).symm⟩
        rw [List.dropLast_concat]
        have := cut_ini (pathV a) (V.int (z : Nat))
        rw [pathV_snoc]
        exact this
      refine ⟨b, pathV π, rfl, SqT.of hb, fun z => ?_, fun p6 hp6 => ?_⟩
      · have := z.2
        have h3 : HT.sIx (pathV π).length (pathV π).length (some (-1)) = ((-1 : Int) + ((pathV π).length : Nat)).toNat := rfl
        rw [h3] at this
        rw [List.length_map] at this
        omega
      rw [hcut]
      have k6 := same_new hp6 (.tup (pathV π.dropLast))
      have e6 : (upd G p6 (.tup (pathV π.dropLast))) p6 = some (.tup (pathV π.dropLast)) := upd_same
      generalize upd G p6 (.tup (pathV π.dropLast)) = G6 at k6 e6
      refine ⟨ws, SqL.of (k6 _ _ eG), fun p7 hp7 => ?_⟩
      rw [cut_to ws (by omega : (0:Int) ≤ (i : Nat)), Int.toNat_natCast]
      have k7 := same_new hp7 (.lst (ws.take i))
      have e7 : (upd G6 p7 (.lst (ws.take i))) p7 = some (.lst (ws.take i)) := upd_same
      generalize upd G6 p7 (.lst (ws.take i)) = G7 at k7 e7
      have pt : Pths G7 (ws.take i) (((Nd.pb N0 [] 0).map (·.1)).take i) := takeA2 (Pths.same pG (k6.trans k7)) i
      refine ⟨p7, ws.take i, _, π.dropLast, rfl, SqL.of e7, ⟨p6, rfl, k7 _ _ e6⟩, pt, ?_⟩
      have hin := Nd.pb_front_at hπ hl2
      rw [decide_eq_false (show ¬ π.dropLast ∉ ((Nd.pb N0 [] 0).map (·.1)).take i from fun z => z hin)]
      refine ite2 (fun c' => absurd (show false = true from c') Bool.false_ne_true) (fun _ => ?_)
      exact REST [some (.str (S l)), some (.ref A0), some (.ref p2), some (.ref D), some (.ref r4), some (.int (i : Nat)), some (.ref b), v7, v8, v9] G7 ⟨rfl, k6.trans k7⟩
    case rest =>
      have SG2 := SG.trans k2
      refine ⟨A0, b, l, N0, π, c0, n0, rfl, nN _ (S2.trans SG2), by omega, t2.same (S2'.trans SG2), k2 _ _ hb, hym, fun G3 r0 q0 M hr0 er0 aM fM k3' eM wM => ?_⟩
      have SG3 := SG2.trans k3'
      refine ⟨_, _, SqT.of er0, ?_⟩
      have lc0 : l[pl]? = some c0 := hc0
      have ix : ∀ G4 : Hp, Same G3 G4 → SqL K G4 D ((Nd.opl l).map fun k => V.int (k : Nat)) := fun G4 k4 => SqL.of ((k5.trans (kG.trans (k2.trans (k3'.trans k4)))) _ _ eD4)
      have oi : ((Nd.opl l).map fun k => V.int (k : Nat))[i]? = some (V.int (pl : Nat)) := by rw [List.getElem?_map, ho]; rfl
      refine ⟨_, .int (pl : Nat), .inl (ix _ (Same.refl _)), atI_nat oi, by show l.length ≤ 1000000; omega, c0, atI_nat lc0, ?_⟩
      refine ite2 (fun c' => (nself rfl c').elim) (fun _ => ?_)
      have ap : arr[pl]? = some (some j) := by rw [mt.op pl c0 lc0 hop, hj]
      refine ⟨_, .int (pl : Nat), .inl (ix _ (Same.refl _)), atI_nat oi, ?_⟩
      refine ⟨_, .int (pl : Nat), .inl (ix _ (Same.refl _)), atI_nat oi, ?_⟩
      have er43 := (k5.trans (kG.trans (k2.trans k3'))) _ _ er4
      refine ⟨_, .int (j : Nat), .inl (SqL.of er43), atI_nat (by rw [List.getElem?_map, ap]; rfl), by show l.length ≤ 1000000; omega, ?_⟩
      have hcutA : cutA (Lc (S l)) (some (((pl : Nat) : Int) + 1)) (some ((j : Nat) : Int)) = Nd.tx n0 := by
        have := cut_mid l (a := pl + 1) (b := j) (by omega) (by omega)
        rw [show (((pl : Nat) : Int) + 1) = ((pl + 1 : Nat) : Int) by omega]
        exact this.trans h2
      have sn : Sgs (Nd.tx n0) := fun c hc => by
        rw [← h2] at hc
        exact hl c (List.mem_of_mem_drop (List.mem_of_mem_take hc))
      have ln : (Nd.tx n0).length ≤ 100 := by
        rw [← h2]
        unfold seg
        rw [List.length_take, List.length_drop]; omega
      refine ⟨Nd.tx n0, congrArg (fun z => [V.str (S z)]) hcutA, sn, Nd.tx_clean wn, by omega, t1.same (S2'.trans SG3), fun G5 D5 N5 d5 f5 k55 e55 w55 => ?_⟩
      obtain ⟨d, e, x1, x2, x3, x4, x5, x6⟩ := nest_eqD (K := K) (aM.same k55) d5 wM w55 (by rw [eM, e55]) (by have := Nd.lv_len M; rw [eM] at this; omega)
      refine ⟨d, e, x1, x2, x3, x4, x5, ?_⟩
      refine ite2 (fun c' => absurd (show (true != PyData.eqv d e) = true from c') (by rw [x6]; decide)) (fun _ => ?_)
      exact ⟨⟨_, _, _, _, _, rfl⟩, kG.trans (k2.trans (k3'.trans k55))⟩
  · rintro σ G ⟨⟨v5, v6, v7, v8, v9, rfl⟩, kG⟩
    exact q G (S2'.trans (S25.trans kG))
end
end G
set_option Elab.async false
set_option linter.all false
set_option maxRecDepth 100000
set_option maxHeartbeats 4000000
namespace G
open PySem PySem.Spec PyProof.Rows L2 N1
section
variable {P : Program} {w : World} {K : PySem.W.Frag} {mg : Str → Option Value} {base : Heap} {f : Addr} {fd : FuncData}
def spLong1 : Sp := fun vs H Q _ => ∃ (p : Addr), vs = [.ref p, .int 1] ∧ Pot H p ∧ ∀ (t : Int) (H' : Hp), 0 ≤ t → t ≤ 30 → Kp p H H' → Pot H' p → Q (.int t) H'
theorem ok_long1 {n : Nat} (F : Fun K "_law_long" "_law_long" (top 42) f fd) (c__law_take : Cal P w K mg base n "_law_take" ["pot", "many"] spTake) : FnOk P w K mg base CX0 (n + 1) f fd ["pot", "k"] spLong1 := by
  have sc : FnScope ["pot", "k"] ["pot", "k"] (defScope (top 42)) := ⟨rfl, rfl, rfl, by decide +kernel, rfl, by decide +kernel, by decide +kernel⟩
  refine F.ok sc (fun vs H Q E h => ?_) (fun cdv A outer s H vs Q E hr h => ?_)
  · obtain ⟨p, rfl, _⟩ := h
    rfl
  obtain ⟨p, rfl, hP, q⟩ := h
  refine ⟨_, (pss_cons (ps_if (PW.pt (pw_and (pcmp (opEq hr.units) (pn 1) pe_int (nomark _)) (pw_and1 (pcmp (opEq hr.units) (pcall c__law_take hr rfl (pa_cons (pn 0) (pa_cons pe_int pa_nil))) pe_int (nomark _))))) (pss_one (ps_ret (pe_op opSub pe_int (pe_op opMul (pcall c__law_take hr rfl (pa_cons (pn 0) (pa_cons pe_int pa_nil))) (pcall c__law_take hr rfl (pa_cons (pn 0) (pa_cons pe_int pa_nil))))))) pss_nil) (pss_one (ps_ret (pcall c__law_take hr rfl (pa_cons (pn 0) (pa_cons (pe_ix ixC (pe_lst (pa_cons pe_int (pa_cons pe_int (pa_cons pe_int pa_nil)))) (pcall c__law_take hr rfl (pa_cons (pn 0) (pa_cons pe_int pa_nil))) (fun _ _ => rfl)) pa_nil)))))), ?_⟩
  refine ⟨(by show 3 ≤ sizeLine; decide), fun r hr' => ?_⟩
  refine ⟨p, 3, rfl, by decide, by decide, hP.new hr' _, fun u H2 u0 u1 k2 P2 => ?_⟩
  have er := k2 r _ (Ne.symm (hP.ne hr')) upd_same
  have k1 : Kp p H (upd H r (.lst [.int 6, .int 14, .int 30])) := Kp.of_same (same_new hr' _)
  have : u = 0 ∨ u = 1 ∨ u = 2 := by omega
  rcases this with rfl | rfl | rfl
  · exact ⟨_, _, .inl (SqL.of er), rfl, p, 6, rfl, by decide, by decide, P2, fun v H3 v0 v1 k3 P3 => q _ _ v0 (by omega) (k1.trans (k2.trans k3)) P3⟩
  · exact ⟨_, _, .inl (SqL.of er), rfl, p, 14, rfl, by decide, by decide, P2, fun v H3 v0 v1 k3 P3 => q _ _ v0 (by omega) (k1.trans (k2.trans k3)) P3⟩
  · exact ⟨_, _, .inl (SqL.of er), rfl, p, 30, rfl, by decide, by decide, P2, fun v H3 v0 v1 k3 P3 => q _ _ v0 (by omega) (k1.trans (k2.trans k3)) P3⟩
def spLaw (K : PySem.W.Frag) (tabs : List (Addr × Addr)) : Sp := fun vs H Q _ => ∃ (a : Addr) (ns : List Int), vs = [.ref a] ∧ SqL K H a (ns.map V.int) ∧ ns.length ≤ 63 ∧ TbsAt tabs H ∧ ∀ H', TbsAt tabs H' → Q (.bl true) H'
theorem Pot.same {H H' : Hp} {p : Addr} (h : Pot H p) (k : Same H H') : Pot H' p := let ⟨a, c, m, h1, h2, e⟩ := h; ⟨a, c, m, h1, h2, k _ _ e⟩
theorem tbs_same {tabs : List (Addr × Addr)} {H H' : Hp} (t : TbsAt tabs H) (k : Same H H') : TbsAt tabs H' := fun q hq => (t q hq).same k
theorem ok_law {n : Nat} {tabs : List (Addr × Addr)} {T1 T2 T3 T4 T5 : Addr} (h1 : ∃ c, (c, T1) ∈ tabs) (h2 : ∃ c, (c, T2) ∈ tabs) (h3 : ∃ c, (c, T3) ∈ tabs) (h4 : ∃ c, (c, T4) ∈ tabs) (h5 : ∃ c, (c, T5) ∈ tabs) (F : Fun K "law" "law" (top 47) f fd) (b_len : mg "len" = none)
    (c__law_two_right : Cal P w K mg base n "_law_two_right" ["one", "other"] (spTwo T1 T2 T3 T4 T5)) (c__law_within_right : Cal P w K mg base n "_law_within_right" ["text", "k"] (spWin T1 T2 T4)) (c__law_paths_right : Cal P w K mg base n "_law_paths_right" ["text"] (spPthR T1 T2))
    (c__law_take : Cal P w K mg base n "_law_take" ["pot", "many"] spTake) (c__law_long : Cal P w K mg base n "_law_long" ["pot", "k"] spLong1) (c__law_pot : Cal P w K mg base n "_law_pot" ["cell"] spPot) (c__law_clean : Cal P w K mg base n "_law_clean" ["pot", "most"] spClean) : FnOk P w K mg base CX0 (n + 1) f fd ["script"] (spLaw K tabs) := by
  have sc : FnScope ["script", "cell", "pot", "one", "other"] ["script"] (defScope (top 47)) := ⟨rfl, rfl, rfl, by decide +kernel, rfl, by decide +kernel, by decide +kernel⟩
  refine F.ok sc (fun vs H Q E h => ?_) (fun cdv A outer s H vs Q E hr h => ?_)
  · obtain ⟨a, ns, rfl, _⟩ := h
    rfl
  obtain ⟨scr, ns, rfl, hS, h63, tb, q⟩ := h
  refine ⟨_, (pss_cons (ps_for PassesOwn.never rfl (pi_list (pe_op opAdd (pe_slice slC (pn 0) po_none (poC pe_int)) (pe_lst (pa_cons (pe_callB cLen rfl b_len (by decide +kernel) (pa_cons (pn 0) pa_nil)) pa_nil)))) (pg_name (i := 1) sc.nd rfl (Or.inl rfl)) (pss_cons (ps_set (i := 2) sc.nd rfl (Or.inl rfl) (pcall c__law_pot hr rfl (pa_cons (pn 1) pa_nil))) (pss_cons (ps_set (i := 3) sc.nd rfl (Or.inl rfl) (pcall c__law_clean hr rfl (pa_cons (pn 2) (pa_cons (pcall c__law_long hr rfl (pa_cons (pn 2) (pa_cons pe_int pa_nil))) pa_nil)))) (pss_cons (ps_set (i := 4) sc.nd rfl (Or.inl rfl) (pcall c__law_clean hr rfl (pa_cons (pn 2) (pa_cons (pcall c__law_long hr rfl (pa_cons (pn 2) (pa_cons pe_int pa_nil))) pa_nil)))) (pss_cons (ps_if (PW.pt (pw_or (pt_not (ptru (pcall c__law_two_right hr rfl (pa_cons (pn 3) (pa_cons (pn 4) pa_nil))))) (pw_or1 (pt_not (ptru (pcall c__law_within_right hr rfl (pa_cons (pn 3) (pa_cons (pcall c__law_take hr rfl (pa_cons (pn 2) (pa_cons pe_int pa_nil))) pa_nil)))))))) (pss_one (ps_ret pe_bl)) pss_nil) (pss_one (ps_if (PW.pt (pw_or (pt_not (ptru (pcall c__law_paths_right hr rfl (pa_cons (pn 3) pa_nil)))) (pw_or1 (pt_not (ptru (pcall c__law_paths_right hr rfl (pa_cons (pe_op opAdd (pn 4) (pn 3)) pa_nil))))))) (pss_one (ps_ret pe_bl)) pss_nil))))))) (pss_one (ps_ret pe_bl))), ?_⟩
  refine ⟨_, hS, fun r1 hr1 => ?_⟩
  refine .inl ⟨_, .inl ((same_new hr1 _).seq hS), (by show 1 ≤ sizeLine; decide), fun r2 hr2 => ?_⟩
  have e1 := same_new hr2 (.lst [.int ((ns.map V.int).length : Nat)]) r1 _ upd_same
  have hcut : ∀ x ∈ cutA (ns.map V.int) none (some 6), ∃ i, x = V.int i := fun x hx => by
    obtain ⟨i, _, rfl⟩ := List.mem_map.mp (cutA_mem hx)
    exact ⟨i, rfl⟩
  have lcut : (cutA (ns.map V.int) none (some 6)).length ≤ 63 := Nat.le_trans (cutA_length _ _ _) (by rw [List.length_map]; exact h63)
  refine .inl ⟨r1, r2, _, _, rfl, rfl, e1, upd_same, ?_, fun a ha => ?_⟩
  · show (cutA (ns.map V.int) none (some 6)).length + 1 ≤ sizeLine
    exact mil (by omega)
  have hall : ∀ x ∈ cutA (ns.map V.int) none (some 6) ++ [V.int ((ns.map V.int).length : Nat)], ∃ i, x = V.int i := fun x hx => by
    rcases List.mem_append.mp hx with hx | hx
    · exact hcut x hx
    · exact ⟨_, List.mem_singleton.mp hx⟩
  refine ⟨a, rfl, ⟨_, SqL.of upd_same⟩, ?_⟩
  have ea : (upd (upd (upd H r1 (.lst (cutA (ns.map V.int) none (some 6)))) r2 (.lst [V.int ((ns.map V.int).length : Nat)])) a (.lst (cutA (ns.map V.int) none (some 6) ++ [V.int ((ns.map V.int).length : Nat)]))) a = some (.lst (cutA (ns.map V.int) none (some 6) ++ [V.int ((ns.map V.int).length : Nat)])) := upd_same
  have tb0 : TbsAt tabs (upd (upd (upd H r1 (.lst (cutA (ns.map V.int) none (some 6)))) r2 (.lst [V.int ((ns.map V.int).length : Nat)])) a (.lst (cutA (ns.map V.int) none (some 6) ++ [V.int ((ns.map V.int).length : Nat)]))) := tbs_same tb (((same_new hr1 _).trans (same_new hr2 _)).trans (same_new ha _))
  generalize upd (upd (upd H r1 (.lst (cutA (ns.map V.int) none (some 6)))) r2 (.lst [V.int ((ns.map V.int).length : Nat)])) a (.lst (cutA (ns.map V.int) none (some 6) ++ [V.int ((ns.map V.int).length : Nat)])) = H0 at ea tb0 ⊢
  generalize cutA (ns.map V.int) none (some 6) ++ [V.int ((ns.map V.int).length : Nat)] = xs at ea hall
  obtain ⟨c1, h1⟩ := h1
  obtain ⟨c2, h2⟩ := h2
  obtain ⟨c3, h3⟩ := h3
  obtain ⟨c4, h4⟩ := h4
  obtain ⟨c5, h5⟩ := h5
  have t5 : ∀ G, Same H0 G → Tb5 T1 T2 T3 T4 T5 G := fun G k => ⟨(tb0 _ h1).same k, (tb0 _ h2).same k, (tb0 _ h3).same k, (tb0 _ h4).same k, (tb0 _ h5).same k⟩
  refine for_list (K := K) (a := a) (xs := xs) (fun i σ H' => (∃ v1 v2 v3 v4, σ = [some (.ref scr), v1, v2, v3, v4]) ∧ Same H0 H') ⟨⟨none, none, none, none, rfl⟩, Same.refl _⟩ (fun i σ H' _ h => SqL.of (h.2 _ _ ea)) ?_ ?_
  · rintro i x σ H' hx ⟨⟨v1, v2, v3, v4, rfl⟩, hSm⟩
    obtain ⟨c, rfl⟩ := hall x (List.mem_of_getElem? hx)
    refine ⟨c, rfl, fun p H1 hp S1 P1 => ?_⟩
    have hp0 : H0 p = none := hSm.free hp
    refine ⟨p, rfl, P1, fun t H2 t0 t1 k2 P2 => ?_⟩
    refine ⟨p, t, rfl, t0, by omega, P2, fun l H3 hcl hs hl k3 P3 => ?_⟩
    refine ⟨p, rfl, P3, fun t' H4 t0' t1' k4 P4 => ?_⟩
    refine ⟨p, t', rfl, t0', by omega, P4, fun m H5 hcm hsm hm k5 P5 => ?_⟩
    have SS5 : Same H0 H5 := sK (hSm.trans S1) hp0 (k2.trans (k3.trans (k4.trans k5)))
    refine ⟨l, m, rfl, hs, hcl, hsm, hcm, by omega, by omega, t5 _ SS5, fun H6 S6 => ?_⟩
    have SS6 := SS5.trans S6
    refine ⟨p, 4, rfl, by decide, by decide, P5.same S6, fun u H7 u0 u1 k7 P7 => ?_⟩
    have SS7 := sK SS6 hp0 k7
    refine ⟨l, u, rfl, u0, u1, hs, hcl, by omega, (t5 _ SS7).a, (t5 _ SS7).b, (t5 _ SS7).d, fun H8 S8 => ?_⟩
    have SS8 := SS7.trans S8
    refine ⟨l, rfl, hs, hcl, by omega, (t5 _ SS8).a, (t5 _ SS8).b, fun H9 S9 => ?_⟩
    have SS9 := SS8.trans S9
    refine ⟨by show m.length + l.length ≤ 1000000; omega, m ++ l, rfl, hsm.app hs, (clean_app hcm).mpr hcl, by rw [List.length_append]; omega, (t5 _ SS9).a, (t5 _ SS9).b, fun H10 S10 => ?_⟩
    exact ⟨⟨_, _, _, _, rfl⟩, SS9.trans S10⟩
  · rintro σ H' ⟨⟨v1, v2, v3, v4, rfl⟩, hSm⟩
    exact q _ (tbs_same tb0 hSm)
end
end G
set_option Elab.async false
set_option linter.all false
set_option maxRecDepth 100000
set_option maxHeartbeats 4000000
namespace G
open PySem PySem.Spec PyProof.Rows L2 N1
theorem all_mk {l : PySem.W.OpenLaw} {q : Program} {w : World} {K : PySem.W.Frag} {h : Heap} {mg : Str → Option Value} {fa : Addr} (X : K.In h) (G : h.Ns mainGlobals mg) (T : ∀ e ∈ recsOf q, ∃ a o fd c P, mg e.name = some (.ref a) ∧ h.get? a = some o ∧ o.data = .func fd ∧ fd.code = .ref c ∧ h.IsCode c P #[] ∧ h.TableAt c P #[]) (hfa : mg "law" = some (.ref fa))
    {f0 : Addr} {od0 an0 : Option Addr} {sl0 : Array (Option Value)} {oc0 kV0 dc0 pm0 cd0 ct0 : Value}
    {f1 : Addr} {od1 an1 : Option Addr} {sl1 : Array (Option Value)} {oc1 kV1 dc1 pm1 cd1 ct1 : Value}
    {f2 : Addr} {od2 an2 : Option Addr} {sl2 : Array (Option Value)} {oc2 kV2 dc2 pm2 cd2 ct2 : Value}
    {f3 : Addr} {od3 an3 : Option Addr} {sl3 : Array (Option Value)} {oc3 kV3 dc3 pm3 cd3 ct3 : Value}
    {f4 : Addr} {od4 an4 : Option Addr} {sl4 : Array (Option Value)} {oc4 kV4 dc4 pm4 cd4 ct4 : Value}
    {f5 : Addr} {od5 an5 : Option Addr} {sl5 : Array (Option Value)} {oc5 kV5 dc5 pm5 cd5 ct5 : Value}
    {f6 : Addr} {od6 an6 : Option Addr} {sl6 : Array (Option Value)} {oc6 kV6 dc6 pm6 cd6 ct6 : Value}
    {f7 : Addr} {od7 an7 : Option Addr} {sl7 : Array (Option Value)} {oc7 kV7 dc7 pm7 cd7 ct7 : Value}
    {f8 : Addr} {od8 an8 : Option Addr} {sl8 : Array (Option Value)} {oc8 kV8 dc8 pm8 cd8 ct8 : Value}
    {f9 : Addr} {od9 an9 : Option Addr} {sl9 : Array (Option Value)} {oc9 kV9 dc9 pm9 cd9 ct9 : Value}
    {f10 : Addr} {od10 an10 : Option Addr} {sl10 : Array (Option Value)} {oc10 kV10 dc10 pm10 cd10 ct10 : Value}
    {f11 : Addr} {od11 an11 : Option Addr} {sl11 : Array (Option Value)} {oc11 kV11 dc11 pm11 cd11 ct11 : Value}
    {f12 : Addr} {od12 an12 : Option Addr} {sl12 : Array (Option Value)} {oc12 kV12 dc12 pm12 cd12 ct12 : Value}
    {f13 : Addr} {od13 an13 : Option Addr} {sl13 : Array (Option Value)} {oc13 kV13 dc13 pm13 cd13 ct13 : Value}
    {f14 : Addr} {od14 an14 : Option Addr} {sl14 : Array (Option Value)} {oc14 kV14 dc14 pm14 cd14 ct14 : Value}
    {f15 : Addr} {od15 an15 : Option Addr} {sl15 : Array (Option Value)} {oc15 kV15 dc15 pm15 cd15 ct15 : Value}
    {f16 : Addr} {od16 an16 : Option Addr} {sl16 : Array (Option Value)} {oc16 kV16 dc16 pm16 cd16 ct16 : Value}
    {f17 : Addr} {od17 an17 : Option Addr} {sl17 : Array (Option Value)} {oc17 kV17 dc17 pm17 cd17 ct17 : Value}
    {f18 : Addr} {od18 an18 : Option Addr} {sl18 : Array (Option Value)} {oc18 kV18 dc18 pm18 cd18 ct18 : Value}
    {f19 : Addr} {od19 an19 : Option Addr} {sl19 : Array (Option Value)} {oc19 kV19 dc19 pm19 cd19 ct19 : Value}
    {f20 : Addr} {od20 an20 : Option Addr} {sl20 : Array (Option Value)} {oc20 kV20 dc20 pm20 cd20 ct20 : Value}
    {f21 : Addr} {od21 an21 : Option Addr} {sl21 : Array (Option Value)} {oc21 kV21 dc21 pm21 cd21 ct21 : Value}
    {f22 : Addr} {od22 an22 : Option Addr} {sl22 : Array (Option Value)} {oc22 kV22 dc22 pm22 cd22 ct22 : Value}
    {f23 : Addr} {od23 an23 : Option Addr} {sl23 : Array (Option Value)} {oc23 kV23 dc23 pm23 cd23 ct23 : Value}
    {f24 : Addr} {od24 an24 : Option Addr} {sl24 : Array (Option Value)} {oc24 kV24 dc24 pm24 cd24 ct24 : Value}
    {f25 : Addr} {od25 an25 : Option Addr} {sl25 : Array (Option Value)} {oc25 kV25 dc25 pm25 cd25 ct25 : Value}
    {f26 : Addr} {od26 an26 : Option Addr} {sl26 : Array (Option Value)} {oc26 kV26 dc26 pm26 cd26 ct26 : Value}
    {f27 : Addr} {od27 an27 : Option Addr} {sl27 : Array (Option Value)} {oc27 kV27 dc27 pm27 cd27 ct27 : Value}
    {f28 : Addr} {od28 an28 : Option Addr} {sl28 : Array (Option Value)} {oc28 kV28 dc28 pm28 cd28 ct28 : Value}
    {f29 : Addr} {od29 an29 : Option Addr} {sl29 : Array (Option Value)} {oc29 kV29 dc29 pm29 cd29 ct29 : Value}
    {f30 : Addr} {od30 an30 : Option Addr} {sl30 : Array (Option Value)} {oc30 kV30 dc30 pm30 cd30 ct30 : Value}
    {f31 : Addr} {od31 an31 : Option Addr} {sl31 : Array (Option Value)} {oc31 kV31 dc31 pm31 cd31 ct31 : Value}
    {f32 : Addr} {od32 an32 : Option Addr} {sl32 : Array (Option Value)} {oc32 kV32 dc32 pm32 cd32 ct32 : Value}
    {tk_OPENING : Tok}
    {tk_CLOSING : Tok}
    {tk_LETTERS : Tok}
    {tk_DEEPEST : Tok}
    {ta_OTHER : Addr} {es_OTHER : Array DictEntry} {ep_OTHER : Nat}
    (a0 : PySem.W.nsIn K mainGlobals "is_letter" = some (some (.ref f0))) (l0 : K.lookup f0 = some ⟨oc0, od0, .func (PySem.W.fnOf "is_letter" "is_letter" (defArgs (top 8)) (defBody (top 8)) (defScope (top 8)) .none kV0 dc0 pm0 an0 cd0 ct0), sl0⟩) (c0 : PySem.W.codeIn K cd0 "is_letter" = true) (k0 : PySem.W.keepIn K (.ref f0) = true)
    (a1 : PySem.W.nsIn K mainGlobals "is_opening" = some (some (.ref f1))) (l1 : K.lookup f1 = some ⟨oc1, od1, .func (PySem.W.fnOf "is_opening" "is_opening" (defArgs (top 9)) (defBody (top 9)) (defScope (top 9)) .none kV1 dc1 pm1 an1 cd1 ct1), sl1⟩) (c1 : PySem.W.codeIn K cd1 "is_opening" = true) (k1 : PySem.W.keepIn K (.ref f1) = true)
    (a2 : PySem.W.nsIn K mainGlobals "is_one_of" = some (some (.ref f2))) (l2 : K.lookup f2 = some ⟨oc2, od2, .func (PySem.W.fnOf "is_one_of" "is_one_of" (defArgs (top 10)) (defBody (top 10)) (defScope (top 10)) .none kV2 dc2 pm2 an2 cd2 ct2), sl2⟩) (c2 : PySem.W.codeIn K cd2 "is_one_of" = true) (k2 : PySem.W.keepIn K (.ref f2) = true)
    (a3 : PySem.W.nsIn K mainGlobals "partners" = some (some (.ref f3))) (l3 : K.lookup f3 = some ⟨oc3, od3, .func (PySem.W.fnOf "partners" "partners" (defArgs (top 11)) (defBody (top 11)) (defScope (top 11)) .none kV3 dc3 pm3 an3 cd3 ct3), sl3⟩) (c3 : PySem.W.codeIn K cd3 "partners" = true) (k3 : PySem.W.keepIn K (.ref f3) = true)
    (a4 : PySem.W.nsIn K mainGlobals "is_clean" = some (some (.ref f4))) (l4 : K.lookup f4 = some ⟨oc4, od4, .func (PySem.W.fnOf "is_clean" "is_clean" (defArgs (top 12)) (defBody (top 12)) (defScope (top 12)) .none kV4 dc4 pm4 an4 cd4 ct4), sl4⟩) (c4 : PySem.W.codeIn K cd4 "is_clean" = true) (k4 : PySem.W.keepIn K (.ref f4) = true)
    (a5 : PySem.W.nsIn K mainGlobals "turned_about" = some (some (.ref f5))) (l5 : K.lookup f5 = some ⟨oc5, od5, .func (PySem.W.fnOf "turned_about" "turned_about" (defArgs (top 13)) (defBody (top 13)) (defScope (top 13)) .none kV5 dc5 pm5 an5 cd5 ct5), sl5⟩) (c5 : PySem.W.codeIn K cd5 "turned_about" = true) (k5 : PySem.W.keepIn K (.ref f5) = true)
    (a6 : PySem.W.nsIn K mainGlobals "is_whole" = some (some (.ref f6))) (l6 : K.lookup f6 = some ⟨oc6, od6, .func (PySem.W.fnOf "is_whole" "is_whole" (defArgs (top 15)) (defBody (top 15)) (defScope (top 15)) .none kV6 dc6 pm6 an6 cd6 ct6), sl6⟩) (c6 : PySem.W.codeIn K cd6 "is_whole" = true) (k6 : PySem.W.keepIn K (.ref f6) = true)
    (a7 : PySem.W.nsIn K mainGlobals "is_nest" = some (some (.ref f7))) (l7 : K.lookup f7 = some ⟨oc7, od7, .func (PySem.W.fnOf "is_nest" "is_nest" (defArgs (top 18)) (defBody (top 18)) (defScope (top 18)) .none kV7 dc7 pm7 an7 cd7 ct7), sl7⟩) (c7 : PySem.W.codeIn K cd7 "is_nest" = true) (k7 : PySem.W.keepIn K (.ref f7) = true)
    (a8 : PySem.W.nsIn K mainGlobals "is_nest_within" = some (some (.ref f8))) (l8 : K.lookup f8 = some ⟨oc8, od8, .func (PySem.W.fnOf "is_nest_within" "is_nest_within" (defArgs (top 19)) (defBody (top 19)) (defScope (top 19)) .none kV8 dc8 pm8 an8 cd8 ct8), sl8⟩) (c8 : PySem.W.codeIn K cd8 "is_nest_within" = true) (k8 : PySem.W.keepIn K (.ref f8) = true)
    (a9 : PySem.W.nsIn K mainGlobals "is_item_within" = some (some (.ref f9))) (l9 : K.lookup f9 = some ⟨oc9, od9, .func (PySem.W.fnOf "is_item_within" "is_item_within" (defArgs (top 20)) (defBody (top 20)) (defScope (top 20)) .none kV9 dc9 pm9 an9 cd9 ct9), sl9⟩) (c9 : PySem.W.codeIn K cd9 "is_item_within" = true) (k9 : PySem.W.keepIn K (.ref f9) = true)
    (a10 : PySem.W.nsIn K mainGlobals "refuse_no_nest" = some (some (.ref f10))) (l10 : K.lookup f10 = some ⟨oc10, od10, .func (PySem.W.fnOf "refuse_no_nest" "refuse_no_nest" (defArgs (top 21)) (defBody (top 21)) (defScope (top 21)) .none kV10 dc10 pm10 an10 cd10 ct10), sl10⟩) (c10 : PySem.W.codeIn K cd10 "refuse_no_nest" = true) (k10 : PySem.W.keepIn K (.ref f10) = true)
    (a11 : PySem.W.nsIn K mainGlobals "nest_of" = some (some (.ref f11))) (l11 : K.lookup f11 = some ⟨oc11, od11, .func (PySem.W.fnOf "nest_of" "nest_of" (defArgs (top 22)) (defBody (top 22)) (defScope (top 22)) .none kV11 dc11 pm11 an11 cd11 ct11), sl11⟩) (c11 : PySem.W.codeIn K cd11 "nest_of" = true) (k11 : PySem.W.keepIn K (.ref f11) = true)
    (a12 : PySem.W.nsIn K mainGlobals "set_down" = some (some (.ref f12))) (l12 : K.lookup f12 = some ⟨oc12, od12, .func (PySem.W.fnOf "set_down" "set_down" (defArgs (top 23)) (defBody (top 23)) (defScope (top 23)) .none kV12 dc12 pm12 an12 cd12 ct12), sl12⟩) (c12 : PySem.W.codeIn K cd12 "set_down" = true) (k12 : PySem.W.keepIn K (.ref f12) = true)
    (a13 : PySem.W.nsIn K mainGlobals "text_of" = some (some (.ref f13))) (l13 : K.lookup f13 = some ⟨oc13, od13, .func (PySem.W.fnOf "text_of" "text_of" (defArgs (top 24)) (defBody (top 24)) (defScope (top 24)) .none kV13 dc13 pm13 an13 cd13 ct13), sl13⟩) (c13 : PySem.W.codeIn K cd13 "text_of" = true) (k13 : PySem.W.keepIn K (.ref f13) = true)
    (a14 : PySem.W.nsIn K mainGlobals "spelled" = some (some (.ref f14))) (l14 : K.lookup f14 = some ⟨oc14, od14, .func (PySem.W.fnOf "spelled" "spelled" (defArgs (top 25)) (defBody (top 25)) (defScope (top 25)) .none kV14 dc14 pm14 an14 cd14 ct14), sl14⟩) (c14 : PySem.W.codeIn K cd14 "spelled" = true) (k14 : PySem.W.keepIn K (.ref f14) = true)
    (a15 : PySem.W.nsIn K mainGlobals "spelled_item" = some (some (.ref f15))) (l15 : K.lookup f15 = some ⟨oc15, od15, .func (PySem.W.fnOf "spelled_item" "spelled_item" (defArgs (top 26)) (defBody (top 26)) (defScope (top 26)) .none kV15 dc15 pm15 an15 cd15 ct15), sl15⟩) (c15 : PySem.W.codeIn K cd15 "spelled_item" = true) (k15 : PySem.W.keepIn K (.ref f15) = true)
    (a16 : PySem.W.nsIn K mainGlobals "depth_of" = some (some (.ref f16))) (l16 : K.lookup f16 = some ⟨oc16, od16, .func (PySem.W.fnOf "depth_of" "depth_of" (defArgs (top 27)) (defBody (top 27)) (defScope (top 27)) .none kV16 dc16 pm16 an16 cd16 ct16), sl16⟩) (c16 : PySem.W.codeIn K cd16 "depth_of" = true) (k16 : PySem.W.keepIn K (.ref f16) = true)
    (a17 : PySem.W.nsIn K mainGlobals "paths_of" = some (some (.ref f17))) (l17 : K.lookup f17 = some ⟨oc17, od17, .func (PySem.W.fnOf "paths_of" "paths_of" (defArgs (top 28)) (defBody (top 28)) (defScope (top 28)) .none kV17 dc17 pm17 an17 cd17 ct17), sl17⟩) (c17 : PySem.W.codeIn K cd17 "paths_of" = true) (k17 : PySem.W.keepIn K (.ref f17) = true)
    (a18 : PySem.W.nsIn K mainGlobals "walked" = some (some (.ref f18))) (l18 : K.lookup f18 = some ⟨oc18, od18, .func (PySem.W.fnOf "walked" "walked" (defArgs (top 29)) (defBody (top 29)) (defScope (top 29)) .none kV18 dc18 pm18 an18 cd18 ct18), sl18⟩) (c18 : PySem.W.codeIn K cd18 "walked" = true) (k18 : PySem.W.keepIn K (.ref f18) = true)
    (a19 : PySem.W.nsIn K mainGlobals "at_path" = some (some (.ref f19))) (l19 : K.lookup f19 = some ⟨oc19, od19, .func (PySem.W.fnOf "at_path" "at_path" (defArgs (top 30)) (defBody (top 30)) (defScope (top 30)) .none kV19 dc19 pm19 an19 cd19 ct19), sl19⟩) (c19 : PySem.W.codeIn K cd19 "at_path" = true) (k19 : PySem.W.keepIn K (.ref f19) = true)
    (a20 : PySem.W.nsIn K mainGlobals "tuple_at" = some (some (.ref f20))) (l20 : K.lookup f20 = some ⟨oc20, od20, .func (PySem.W.fnOf "tuple_at" "tuple_at" (defArgs (top 31)) (defBody (top 31)) (defScope (top 31)) .none kV20 dc20 pm20 an20 cd20 ct20), sl20⟩) (c20 : PySem.W.codeIn K cd20 "tuple_at" = true) (k20 : PySem.W.keepIn K (.ref f20) = true)
    (a21 : PySem.W.nsIn K mainGlobals "copied" = some (some (.ref f21))) (l21 : K.lookup f21 = some ⟨oc21, od21, .func (PySem.W.fnOf "copied" "copied" (defArgs (top 32)) (defBody (top 32)) (defScope (top 32)) .none kV21 dc21 pm21 an21 cd21 ct21), sl21⟩) (c21 : PySem.W.codeIn K cd21 "copied" = true) (k21 : PySem.W.keepIn K (.ref f21) = true)
    (a22 : PySem.W.nsIn K mainGlobals "outline" = some (some (.ref f22))) (l22 : K.lookup f22 = some ⟨oc22, od22, .func (PySem.W.fnOf "outline" "outline" (defArgs (top 33)) (defBody (top 33)) (defScope (top 33)) .none kV22 dc22 pm22 an22 cd22 ct22), sl22⟩) (c22 : PySem.W.codeIn K cd22 "outline" = true) (k22 : PySem.W.keepIn K (.ref f22) = true)
    (a23 : PySem.W.nsIn K mainGlobals "read_outline" = some (some (.ref f23))) (l23 : K.lookup f23 = some ⟨oc23, od23, .func (PySem.W.fnOf "read_outline" "read_outline" (defArgs (top 34)) (defBody (top 34)) (defScope (top 34)) .none kV23 dc23 pm23 an23 cd23 ct23), sl23⟩) (c23 : PySem.W.codeIn K cd23 "read_outline" = true) (k23 : PySem.W.keepIn K (.ref f23) = true)
    (a24 : PySem.W.nsIn K mainGlobals "_law_mixed" = some (some (.ref f24))) (l24 : K.lookup f24 = some ⟨oc24, od24, .func (PySem.W.fnOf "_law_mixed" "_law_mixed" (defArgs (top 36)) (defBody (top 36)) (defScope (top 36)) .none kV24 dc24 pm24 an24 cd24 ct24), sl24⟩) (c24 : PySem.W.codeIn K cd24 "_law_mixed" = true) (k24 : PySem.W.keepIn K (.ref f24) = true)
    (a25 : PySem.W.nsIn K mainGlobals "_law_pot" = some (some (.ref f25))) (l25 : K.lookup f25 = some ⟨oc25, od25, .func (PySem.W.fnOf "_law_pot" "_law_pot" (defArgs (top 37)) (defBody (top 37)) (defScope (top 37)) .none kV25 dc25 pm25 an25 cd25 ct25), sl25⟩) (c25 : PySem.W.codeIn K cd25 "_law_pot" = true) (k25 : PySem.W.keepIn K (.ref f25) = true)
    (a26 : PySem.W.nsIn K mainGlobals "_law_take" = some (some (.ref f26))) (l26 : K.lookup f26 = some ⟨oc26, od26, .func (PySem.W.fnOf "_law_take" "_law_take" (defArgs (top 38)) (defBody (top 38)) (defScope (top 38)) .none kV26 dc26 pm26 an26 cd26 ct26), sl26⟩) (c26 : PySem.W.codeIn K cd26 "_law_take" = true) (k26 : PySem.W.keepIn K (.ref f26) = true)
    (a27 : PySem.W.nsIn K mainGlobals "_law_clean" = some (some (.ref f27))) (l27 : K.lookup f27 = some ⟨oc27, od27, .func (PySem.W.fnOf "_law_clean" "_law_clean" (defArgs (top 40)) (defBody (top 40)) (defScope (top 40)) .none kV27 dc27 pm27 an27 cd27 ct27), sl27⟩) (c27 : PySem.W.codeIn K cd27 "_law_clean" = true) (k27 : PySem.W.keepIn K (.ref f27) = true)
    (a28 : PySem.W.nsIn K mainGlobals "_law_long" = some (some (.ref f28))) (l28 : K.lookup f28 = some ⟨oc28, od28, .func (PySem.W.fnOf "_law_long" "_law_long" (defArgs (top 42)) (defBody (top 42)) (defScope (top 42)) .none kV28 dc28 pm28 an28 cd28 ct28), sl28⟩) (c28 : PySem.W.codeIn K cd28 "_law_long" = true) (k28 : PySem.W.keepIn K (.ref f28) = true)
    (a29 : PySem.W.nsIn K mainGlobals "_law_two_right" = some (some (.ref f29))) (l29 : K.lookup f29 = some ⟨oc29, od29, .func (PySem.W.fnOf "_law_two_right" "_law_two_right" (defArgs (top 44)) (defBody (top 44)) (defScope (top 44)) .none kV29 dc29 pm29 an29 cd29 ct29), sl29⟩) (c29 : PySem.W.codeIn K cd29 "_law_two_right" = true) (k29 : PySem.W.keepIn K (.ref f29) = true)
    (a30 : PySem.W.nsIn K mainGlobals "_law_within_right" = some (some (.ref f30))) (l30 : K.lookup f30 = some ⟨oc30, od30, .func (PySem.W.fnOf "_law_within_right" "_law_within_right" (defArgs (top 45)) (defBody (top 45)) (defScope (top 45)) .none kV30 dc30 pm30 an30 cd30 ct30), sl30⟩) (c30 : PySem.W.codeIn K cd30 "_law_within_right" = true) (k30 : PySem.W.keepIn K (.ref f30) = true)
    (a31 : PySem.W.nsIn K mainGlobals "_law_paths_right" = some (some (.ref f31))) (l31 : K.lookup f31 = some ⟨oc31, od31, .func (PySem.W.fnOf "_law_paths_right" "_law_paths_right" (defArgs (top 46)) (defBody (top 46)) (defScope (top 46)) .none kV31 dc31 pm31 an31 cd31 ct31), sl31⟩) (c31 : PySem.W.codeIn K cd31 "_law_paths_right" = true) (k31 : PySem.W.keepIn K (.ref f31) = true)
    (a32 : PySem.W.nsIn K mainGlobals "law" = some (some (.ref f32))) (l32 : K.lookup f32 = some ⟨oc32, od32, .func (PySem.W.fnOf "law" "law" (defArgs (top 47)) (defBody (top 47)) (defScope (top 47)) .none kV32 dc32 pm32 an32 cd32 ct32), sl32⟩) (c32 : PySem.W.codeIn K cd32 "law" = true) (k32 : PySem.W.keepIn K (.ref f32) = true)
    (z_int : PySem.W.nsIn K mainGlobals "int" = some none)
    (z_list : PySem.W.nsIn K mainGlobals "list" = some none)
    (z_len : PySem.W.nsIn K mainGlobals "len" = some none)
    (z_range : PySem.W.nsIn K mainGlobals "range" = some none)
    (z_enumerate : PySem.W.nsIn K mainGlobals "enumerate" = some none)
    (z_zip : PySem.W.nsIn K mainGlobals "zip" = some none)
    (z_all : PySem.W.nsIn K mainGlobals "all" = some none)
    (z_isinstance : PySem.W.nsIn K mainGlobals "isinstance" = some none)
    (z_str : PySem.W.nsIn K mainGlobals "str" = some none)
    (z_tuple : PySem.W.nsIn K mainGlobals "tuple" = some none)
    (z_bool : PySem.W.nsIn K mainGlobals "bool" = some none)
    (z_max : PySem.W.nsIn K mainGlobals "max" = some none)
    (z_set : PySem.W.nsIn K mainGlobals "set" = some none)
    (s_OPENING : PySem.W.nsIn K mainGlobals "OPENING" = some (some (.str (Str.ofString "(<[{") tk_OPENING)))
    (s_CLOSING : PySem.W.nsIn K mainGlobals "CLOSING" = some (some (.str (Str.ofString ")>]}") tk_CLOSING)))
    (s_LETTERS : PySem.W.nsIn K mainGlobals "LETTERS" = some (some (.str (Str.ofString "abcdefghijklmnopqrstuvwxyz") tk_LETTERS)))
    (s_DEEPEST : PySem.W.nsIn K mainGlobals "DEEPEST" = some (some (.int 60 tk_DEEPEST)))
    (s_OTHER : PySem.W.nsIn K mainGlobals "OTHER" = some (some (.ref ta_OTHER))) (l_OTHER : K.lookup ta_OTHER = some { cls := .type "dict", data := .dict es_OTHER ep_OTHER }) (p_OTHER : Paired (EntOk w.params) es_OTHER.toList [(Lc (Str.ofString "("), Lc (Str.ofString ")")), (Lc (Str.ofString "<"), Lc (Str.ofString ">")), (Lc (Str.ofString "["), Lc (Str.ofString "]")), (Lc (Str.ofString "{"), Lc (Str.ofString "}")), (Lc (Str.ofString ")"), Lc (Str.ofString "(")), (Lc (Str.ofString ">"), Lc (Str.ofString "<")), (Lc (Str.ofString "]"), Lc (Str.ofString "[")), (Lc (Str.ofString "}"), Lc (Str.ofString "{"))])
    (n_OTHER : (ta_OTHER == sysModules) = false)
    (r_is_clean : ((recsOf q).map (·.name)).contains ("is_clean" : Str) = true)
    (r_is_nest_within : ((recsOf q).map (·.name)).contains ("is_nest_within" : Str) = true)
    (r_spelled : ((recsOf q).map (·.name)).contains ("spelled" : Str) = true)
    (r_outline : ((recsOf q).map (·.name)).contains ("outline" : Str) = true)
    (r_turned_about : ((recsOf q).map (·.name)).contains ("turned_about" : Str) = true) :
    ∃ (fd : FuncData) (tabs : List (Addr × Addr)), (∀ (s : Shared) (v : Value), BindsTo s fd ⟨[v], []⟩ [("script", v)]) ∧ (∀ q ∈ tabs, PySem.W.CodeHd h q.1 q.2 ∧ h.get? q.2 = some (PySem.W.tabObj #[])) ∧ ∀ base : Heap, K.In base → base.Ns mainGlobals mg → BMod mg base → CodesAt tabs base → FnOk l.prog w K mg base CX0 230 fa fd ["script"] (spLaw K tabs) := by
  have e := hfa.symm.trans (PySem.W.mg_of X G a32)
  cases e
  have F_is_letter := fun_mk (st := top 8) l0 c0 k0
  have B_is_letter := F_is_letter.binds (ps := ["thing"]) fun _ _ _ _ _ _ us hl => match us, hl with | [_], _ => rfl
  have m_is_letter := PySem.W.mg_of X G a0
  have F_is_opening := fun_mk (st := top 9) l1 c1 k1
  have B_is_opening := F_is_opening.binds (ps := ["thing"]) fun _ _ _ _ _ _ us hl => match us, hl with | [_], _ => rfl
  have m_is_opening := PySem.W.mg_of X G a1
  have F_is_one_of := fun_mk (st := top 10) l2 c2 k2
  have B_is_one_of := F_is_one_of.binds (ps := ["thing", "signs"]) fun _ _ _ _ _ _ us hl => match us, hl with | [_, _], _ => rfl
  have m_is_one_of := PySem.W.mg_of X G a2
  have F_partners := fun_mk (st := top 11) l3 c3 k3
  have B_partners := F_partners.binds (ps := ["text"]) fun _ _ _ _ _ _ us hl => match us, hl with | [_], _ => rfl
  have m_partners := PySem.W.mg_of X G a3
  have F_is_clean := fun_mk (st := top 12) l4 c4 k4
  have B_is_clean := F_is_clean.binds (ps := ["text"]) fun _ _ _ _ _ _ us hl => match us, hl with | [_], _ => rfl
  have m_is_clean := PySem.W.mg_of X G a4
  have F_turned_about := fun_mk (st := top 13) l5 c5 k5
  have B_turned_about := F_turned_about.binds (ps := ["text"]) fun _ _ _ _ _ _ us hl => match us, hl with | [_], _ => rfl
  have m_turned_about := PySem.W.mg_of X G a5
  have F_is_whole := fun_mk (st := top 15) l6 c6 k6
  have B_is_whole := F_is_whole.binds (ps := ["thing"]) fun _ _ _ _ _ _ us hl => match us, hl with | [_], _ => rfl
  have m_is_whole := PySem.W.mg_of X G a6
  have F_is_nest := fun_mk (st := top 18) l7 c7 k7
  have B_is_nest := F_is_nest.binds (ps := ["thing"]) fun _ _ _ _ _ _ us hl => match us, hl with | [_], _ => rfl
  have m_is_nest := PySem.W.mg_of X G a7
  have F_is_nest_within := fun_mk (st := top 19) l8 c8 k8
  have B_is_nest_within := F_is_nest_within.binds (ps := ["thing", "room"]) fun _ _ _ _ _ _ us hl => match us, hl with | [_, _], _ => rfl
  have m_is_nest_within := PySem.W.mg_of X G a8
  have F_is_item_within := fun_mk (st := top 20) l9 c9 k9
  have B_is_item_within := F_is_item_within.binds (ps := ["thing", "room"]) fun _ _ _ _ _ _ us hl => match us, hl with | [_, _], _ => rfl
  have m_is_item_within := PySem.W.mg_of X G a9
  have F_refuse_no_nest := fun_mk (st := top 21) l10 c10 k10
  have B_refuse_no_nest := F_refuse_no_nest.binds (ps := ["thing"]) fun _ _ _ _ _ _ us hl => match us, hl with | [_], _ => rfl
  have m_refuse_no_nest := PySem.W.mg_of X G a10
  have F_nest_of := fun_mk (st := top 22) l11 c11 k11
  have B_nest_of := F_nest_of.binds (ps := ["text"]) fun _ _ _ _ _ _ us hl => match us, hl with | [_], _ => rfl
  have m_nest_of := PySem.W.mg_of X G a11
  have F_set_down := fun_mk (st := top 23) l12 c12 k12
  have B_set_down := F_set_down.binds (ps := ["levels", "sign"]) fun _ _ _ _ _ _ us hl => match us, hl with | [_, _], _ => rfl
  have m_set_down := PySem.W.mg_of X G a12
  have F_text_of := fun_mk (st := top 24) l13 c13 k13
  have B_text_of := F_text_of.binds (ps := ["nest"]) fun _ _ _ _ _ _ us hl => match us, hl with | [_], _ => rfl
  have m_text_of := PySem.W.mg_of X G a13
  have F_spelled := fun_mk (st := top 25) l14 c14 k14
  have B_spelled := F_spelled.binds (ps := ["nest"]) fun _ _ _ _ _ _ us hl => match us, hl with | [_], _ => rfl
  have m_spelled := PySem.W.mg_of X G a14
  have F_spelled_item := fun_mk (st := top 26) l15 c15 k15
  have B_spelled_item := F_spelled_item.binds (ps := ["item"]) fun _ _ _ _ _ _ us hl => match us, hl with | [_], _ => rfl
  have m_spelled_item := PySem.W.mg_of X G a15
  have F_depth_of := fun_mk (st := top 27) l16 c16 k16
  have B_depth_of := F_depth_of.binds (ps := ["nest"]) fun _ _ _ _ _ _ us hl => match us, hl with | [_], _ => rfl
  have m_depth_of := PySem.W.mg_of X G a16
  have F_paths_of := fun_mk (st := top 28) l17 c17 k17
  have B_paths_of := F_paths_of.binds (ps := ["nest"]) fun _ _ _ _ _ _ us hl => match us, hl with | [_], _ => rfl
  have m_paths_of := PySem.W.mg_of X G a17
  have F_walked := fun_mk (st := top 29) l18 c18 k18
  have B_walked := F_walked.binds (ps := ["nest", "before"]) fun _ _ _ _ _ _ us hl => match us, hl with | [_, _], _ => rfl
  have m_walked := PySem.W.mg_of X G a18
  have F_at_path := fun_mk (st := top 30) l19 c19 k19
  have B_at_path := F_at_path.binds (ps := ["nest", "path"]) fun _ _ _ _ _ _ us hl => match us, hl with | [_, _], _ => rfl
  have m_at_path := PySem.W.mg_of X G a19
  have F_tuple_at := fun_mk (st := top 31) l20 c20 k20
  have B_tuple_at := F_tuple_at.binds (ps := ["nest", "place"]) fun _ _ _ _ _ _ us hl => match us, hl with | [_, _], _ => rfl
  have m_tuple_at := PySem.W.mg_of X G a20
  have F_copied := fun_mk (st := top 32) l21 c21 k21
  have B_copied := F_copied.binds (ps := ["nest"]) fun _ _ _ _ _ _ us hl => match us, hl with | [_], _ => rfl
  have m_copied := PySem.W.mg_of X G a21
  have F_outline := fun_mk (st := top 33) l22 c22 k22
  have B_outline := F_outline.binds (ps := ["nest"]) fun _ _ _ _ _ _ us hl => match us, hl with | [_], _ => rfl
  have m_outline := PySem.W.mg_of X G a22
  have F_read_outline := fun_mk (st := top 34) l23 c23 k23
  have B_read_outline := F_read_outline.binds (ps := ["text"]) fun _ _ _ _ _ _ us hl => match us, hl with | [_], _ => rfl
  have m_read_outline := PySem.W.mg_of X G a23
  have F__law_mixed := fun_mk (st := top 36) l24 c24 k24
  have B__law_mixed := F__law_mixed.binds (ps := ["cell", "k"]) fun _ _ _ _ _ _ us hl => match us, hl with | [_, _], _ => rfl
  have m__law_mixed := PySem.W.mg_of X G a24
  have F__law_pot := fun_mk (st := top 37) l25 c25 k25
  have B__law_pot := F__law_pot.binds (ps := ["cell"]) fun _ _ _ _ _ _ us hl => match us, hl with | [_], _ => rfl
  have m__law_pot := PySem.W.mg_of X G a25
  have F__law_take := fun_mk (st := top 38) l26 c26 k26
  have B__law_take := F__law_take.binds (ps := ["pot", "many"]) fun _ _ _ _ _ _ us hl => match us, hl with | [_, _], _ => rfl
  have m__law_take := PySem.W.mg_of X G a26
  have F__law_clean := fun_mk (st := top 40) l27 c27 k27
  have B__law_clean := F__law_clean.binds (ps := ["pot", "most"]) fun _ _ _ _ _ _ us hl => match us, hl with | [_, _], _ => rfl
  have m__law_clean := PySem.W.mg_of X G a27
  have F__law_long := fun_mk (st := top 42) l28 c28 k28
  have B__law_long := F__law_long.binds (ps := ["pot", "k"]) fun _ _ _ _ _ _ us hl => match us, hl with | [_, _], _ => rfl
  have m__law_long := PySem.W.mg_of X G a28
  have F__law_two_right := fun_mk (st := top 44) l29 c29 k29
  have B__law_two_right := F__law_two_right.binds (ps := ["one", "other"]) fun _ _ _ _ _ _ us hl => match us, hl with | [_, _], _ => rfl
  have m__law_two_right := PySem.W.mg_of X G a29
  have F__law_within_right := fun_mk (st := top 45) l30 c30 k30
  have B__law_within_right := F__law_within_right.binds (ps := ["text", "k"]) fun _ _ _ _ _ _ us hl => match us, hl with | [_, _], _ => rfl
  have m__law_within_right := PySem.W.mg_of X G a30
  have F__law_paths_right := fun_mk (st := top 46) l31 c31 k31
  have B__law_paths_right := F__law_paths_right.binds (ps := ["text"]) fun _ _ _ _ _ _ us hl => match us, hl with | [_], _ => rfl
  have m__law_paths_right := PySem.W.mg_of X G a31
  have F_law := fun_mk (st := top 47) l32 c32 k32
  have B_law := F_law.binds (ps := ["script"]) fun _ _ _ _ _ _ us hl => match us, hl with | [_], _ => rfl
  have m_law := PySem.W.mg_of X G a32
  have b_int := PySem.W.mg_none_of X G z_int
  have b_list := PySem.W.mg_none_of X G z_list
  have b_len := PySem.W.mg_none_of X G z_len
  have b_range := PySem.W.mg_none_of X G z_range
  have b_enumerate := PySem.W.mg_none_of X G z_enumerate
  have b_zip := PySem.W.mg_none_of X G z_zip
  have b_all := PySem.W.mg_none_of X G z_all
  have b_isinstance := PySem.W.mg_none_of X G z_isinstance
  have b_str := PySem.W.mg_none_of X G z_str
  have b_tuple := PySem.W.mg_none_of X G z_tuple
  have b_bool := PySem.W.mg_none_of X G z_bool
  have b_max := PySem.W.mg_none_of X G z_max
  have b_set := PySem.W.mg_none_of X G z_set
  have g_OPENING : ∃ t, mg "OPENING" = some (.str (S (Lc (Str.ofString "(<[{"))) t) := ⟨_, PySem.W.mg_of X G s_OPENING⟩
  have g_CLOSING : ∃ t, mg "CLOSING" = some (.str (S (Lc (Str.ofString ")>]}"))) t) := ⟨_, PySem.W.mg_of X G s_CLOSING⟩
  have g_LETTERS : ∃ t, mg "LETTERS" = some (.str (S (Lc (Str.ofString "abcdefghijklmnopqrstuvwxyz"))) t) := ⟨_, PySem.W.mg_of X G s_LETTERS⟩
  have g_DEEPEST : ∃ t, mg "DEEPEST" = some (.int 60 t) := ⟨_, PySem.W.mg_of X G s_DEEPEST⟩
  have g_OTHER := PySem.W.mg_of X G s_OTHER
  have t_OTHER : TabK K w.params ta_OTHER [(Lc (Str.ofString "("), Lc (Str.ofString ")")), (Lc (Str.ofString "<"), Lc (Str.ofString ">")), (Lc (Str.ofString "["), Lc (Str.ofString "]")), (Lc (Str.ofString "{"), Lc (Str.ofString "}")), (Lc (Str.ofString ")"), Lc (Str.ofString "(")), (Lc (Str.ofString ">"), Lc (Str.ofString "<")), (Lc (Str.ofString "]"), Lc (Str.ofString "[")), (Lc (Str.ofString "}"), Lc (Str.ofString "{"))] := ⟨⟨es_OTHER, ep_OTHER, l_OTHER, p_OTHER⟩, by decide +kernel⟩
  obtain ⟨cd_is_clean, P_is_clean, e_is_clean, h_is_clean, p_is_clean⟩ := tab_here T X r_is_clean m_is_clean l4
  obtain ⟨cd_is_nest_within, P_is_nest_within, e_is_nest_within, h_is_nest_within, p_is_nest_within⟩ := tab_here T X r_is_nest_within m_is_nest_within l8
  obtain ⟨cd_spelled, P_spelled, e_spelled, h_spelled, p_spelled⟩ := tab_here T X r_spelled m_spelled l14
  obtain ⟨cd_outline, P_outline, e_outline, h_outline, p_outline⟩ := tab_here T X r_outline m_outline l22
  obtain ⟨cd_turned_about, P_turned_about, e_turned_about, h_turned_about, p_turned_about⟩ := tab_here T X r_turned_about m_turned_about l5
  refine ⟨PySem.W.fnOf "law" "law" (defArgs (top 47)) (defBody (top 47)) (defScope (top 47)) .none kV32 dc32 pm32 an32 cd32 ct32, [(cd_is_clean, P_is_clean), (cd_is_nest_within, P_is_nest_within), (cd_spelled, P_spelled), (cd_outline, P_outline), (cd_turned_about, P_turned_about)], fun s v => .of_eq rfl, ?_, fun base _ _ bm cod => ?_⟩
  · intro z hz
    rcases List.mem_cons.mp hz with rfl | hz
    · exact ⟨h_is_clean, p_is_clean⟩
    rcases List.mem_cons.mp hz with rfl | hz
    · exact ⟨h_is_nest_within, p_is_nest_within⟩
    rcases List.mem_cons.mp hz with rfl | hz
    · exact ⟨h_spelled, p_spelled⟩
    rcases List.mem_cons.mp hz with rfl | hz
    · exact ⟨h_outline, p_outline⟩
    obtain rfl := List.mem_singleton.mp hz
    exact ⟨h_turned_about, p_turned_about⟩
  have d_is_clean := cod (cd_is_clean, P_is_clean) (by simp)
  have d_is_nest_within := cod (cd_is_nest_within, P_is_nest_within) (by simp)
  have d_spelled := cod (cd_spelled, P_spelled) (by simp)
  have d_outline := cod (cd_outline, P_outline) (by simp)
  have d_turned_about := cod (cd_turned_about, P_turned_about) (by simp)
  have c_mixed : Cal l.prog w K mg base 1 "_law_mixed" ["cell", "k"] spMixed := ⟨_, _, ok_mixed F__law_mixed, B__law_mixed, F__law_mixed.kp, m__law_mixed⟩
  have c_take : Cal l.prog w K mg base 2 "_law_take" ["pot", "many"] spTake := ⟨_, _, ok_take F__law_take c_mixed, B__law_take, F__law_take.kp, m__law_take⟩
  have c_clean : Cal l.prog w K mg base 3 "_law_clean" ["pot", "most"] spClean := ⟨_, _, ok_clean F__law_clean c_take, B__law_clean, F__law_clean.kp, m__law_clean⟩
  have c_long : Cal l.prog w K mg base 3 "_law_long" ["pot", "k"] spLong := ⟨_, _, ok_long F__law_long c_take, B__law_long, F__law_long.kp, m__law_long⟩
  have c_pot : Cal l.prog w K mg base 1 "_law_pot" ["cell"] spPot := ⟨_, _, ok_pot F__law_pot b_int, B__law_pot, F__law_pot.kp, m__law_pot⟩
  have c_part : Cal l.prog w K mg base 1 "partners" ["text"] spPartners := ⟨_, _, ok_partners F_partners b_enumerate b_len g_OPENING g_CLOSING g_OTHER (othT_eq ▸ t_OTHER), B_partners, F_partners.kp, m_partners⟩
  have c_isc : Cal l.prog w K mg base 2 "is_clean" ["text"] (spIsClean P_is_clean) := ⟨_, _, ok_is_clean F_is_clean e_is_clean d_is_clean bm b_all b_zip g_LETTERS c_part, B_is_clean, F_is_clean.kp, m_is_clean⟩
  have c_one : Cal l.prog w K mg base 1 "is_one_of" ["thing", "signs"] spOneOf := ⟨_, _, ok_one_of F_is_one_of b_isinstance b_str b_len, B_is_one_of, F_is_one_of.kp, m_is_one_of⟩
  have c_let : Cal l.prog w K mg base 2 "is_letter" ["thing"] spIsLetter := ⟨_, _, ok_is_letter F_is_letter g_LETTERS c_one, B_is_letter, F_is_letter.kp, m_is_letter⟩
  have c_opn : Cal l.prog w K mg base 2 "is_opening" ["thing"] spIsOpening := ⟨_, _, ok_is_opening F_is_opening g_OPENING c_one, B_is_opening, F_is_opening.kp, m_is_opening⟩
  have c_nw : Cal l.prog w K mg base 184 "is_nest_within" ["thing", "room"] (spNW P_is_nest_within 60) := ⟨_, _, nw_all F_is_nest_within F_is_nest_within.kp m_is_nest_within B_is_nest_within e_is_nest_within d_is_nest_within bm F_is_item_within F_is_item_within.kp m_is_item_within B_is_item_within b_all b_isinstance b_list b_tuple b_len c_let c_opn 60, B_is_nest_within, F_is_nest_within.kp, m_is_nest_within⟩
  have c_nest : Cal l.prog w K mg base 185 "is_nest" ["thing"] (spIsNest P_is_nest_within) := ⟨_, _, ok_is_nest F_is_nest g_DEEPEST c_nw, B_is_nest, F_is_nest.kp, m_is_nest⟩
  have c_ref : Cal l.prog w K mg base 186 "refuse_no_nest" ["thing"] (spRefuse P_is_nest_within) := ⟨_, _, ok_refuse F_refuse_no_nest c_nest, B_refuse_no_nest, F_refuse_no_nest.kp, m_refuse_no_nest⟩
  have c_sp : Cal l.prog w K mg base 184 "spelled" ["nest"] (spSpell P_spelled 60) := ⟨_, _, spell_all F_spelled F_spelled.kp m_spelled B_spelled e_spelled d_spelled bm F_spelled_item F_spelled_item.kp m_spelled_item B_spelled_item b_isinstance b_str g_OTHER (othT_eq ▸ t_OTHER) 60, B_spelled, F_spelled.kp, m_spelled⟩
  have c_txt : Cal l.prog w K mg base 187 "text_of" ["nest"] (spTextOf P_is_nest_within P_spelled) := ⟨_, _, ok_text_of F_text_of c_ref (c_sp.mono (by decide)), B_text_of, F_text_of.kp, m_text_of⟩
  have c_set : Cal l.prog w K mg base 1 "set_down" ["levels", "sign"] spSetDown := ⟨_, _, ok_set_down F_set_down g_OPENING, B_set_down, F_set_down.kp, m_set_down⟩
  have c_nof : Cal l.prog w K mg base 3 "nest_of" ["text"] (spNestOf P_is_clean) := ⟨_, _, ok_nest_of F_nest_of b_isinstance b_str g_CLOSING c_isc (c_set.mono (by decide)), B_nest_of, F_nest_of.kp, m_nest_of⟩
  have c_wlk : Cal l.prog w K mg base 61 "walked" ["nest", "before"] (spWalked 61) := ⟨_, _, walked_all F_walked F_walked.kp m_walked B_walked b_enumerate b_isinstance b_tuple 61, B_walked, F_walked.kp, m_walked⟩
  have c_otl : Cal l.prog w K mg base 188 "outline" ["nest"] (spOutline P_is_nest_within P_outline) := ⟨_, _, ok_outline (n := 186) (by decide) F_outline e_outline d_outline bm b_len (c_ref.mono (by decide)) (c_wlk.mono (by decide)), B_outline, F_outline.kp, m_outline⟩
  have c_rd : Cal l.prog w K mg base 3 "read_outline" ["text"] spRead := ⟨_, _, ok_read F_read_outline b_isinstance b_str b_len g_DEEPEST c_let c_opn (c_set.mono (by decide)), B_read_outline, F_read_outline.kp, m_read_outline⟩
  have c_wlk2 : Cal l.prog w K mg base 61 "walked" ["nest", "before"] (spWalked2 61) := ⟨_, _, W2.walked_all F_walked F_walked.kp m_walked B_walked b_enumerate b_isinstance b_tuple 61, B_walked, F_walked.kp, m_walked⟩
  have c_pth : Cal l.prog w K mg base 187 "paths_of" ["nest"] (spPaths P_is_nest_within) := ⟨_, _, ok_paths F_paths_of b_isinstance b_tuple c_ref (c_wlk2.mono (by decide)), B_paths_of, F_paths_of.kp, m_paths_of⟩
  have c_dep : Cal l.prog w K mg base 188 "depth_of" ["nest"] (spDepth P_is_nest_within) := ⟨_, _, ok_depth F_depth_of b_max b_len c_pth, B_depth_of, F_depth_of.kp, m_depth_of⟩
  have c_cpy : Cal l.prog w K mg base 61 "copied" ["nest"] (spCopied 61) := ⟨_, _, copied_all F_copied F_copied.kp m_copied B_copied b_isinstance b_str 61, B_copied, F_copied.kp, m_copied⟩
  have c_whl : Cal l.prog w K mg base 1 "is_whole" ["thing"] spWhole := ⟨_, _, ok_whole F_is_whole b_isinstance b_int b_bool, B_is_whole, F_is_whole.kp, m_is_whole⟩
  have c_tat : Cal l.prog w K mg base 2 "tuple_at" ["nest", "place"] spTupAt := ⟨_, _, ok_tupAt F_tuple_at b_isinstance b_str b_len c_whl, B_tuple_at, F_tuple_at.kp, m_tuple_at⟩
  have c_atp : Cal l.prog w K mg base 187 "at_path" ["nest", "path"] (spAtPath P_is_nest_within) := ⟨_, _, ok_atPath F_at_path b_isinstance b_tuple b_len c_ref (c_tat.mono (by decide)) (c_cpy.mono (by decide)), B_at_path, F_at_path.kp, m_at_path⟩
  have c_trn : Cal l.prog w K mg base 2 "turned_about" ["text"] (spTurned P_turned_about) := ⟨_, _, ok_turned (n := 0) F_turned_about e_turned_about d_turned_about bm g_OTHER (othT_eq ▸ t_OTHER) n_OTHER, B_turned_about, F_turned_about.kp, m_turned_about⟩
  have c_lg1 : Cal l.prog w K mg base 3 "_law_long" ["pot", "k"] spLong1 := ⟨_, _, ok_long1 F__law_long c_take, B__law_long, F__law_long.kp, m__law_long⟩
  have c_two : Cal l.prog w K mg base 190 "_law_two_right" ["one", "other"] (spTwo P_is_clean P_is_nest_within P_spelled P_outline P_turned_about) := ⟨_, _, ok_two (n := 189) (by decide) F__law_two_right b_len b_max (c_nof.mono (by decide)) (c_txt.mono (by decide)) (c_dep.mono (by decide)) (c_otl.mono (by decide)) (c_rd.mono (by decide)) (c_trn.mono (by decide)) (c_pth.mono (by decide)), B__law_two_right, F__law_two_right.kp, m__law_two_right⟩
  have c_win : Cal l.prog w K mg base 190 "_law_within_right" ["text", "k"] (spWin P_is_clean P_is_nest_within P_outline) := ⟨_, _, ok_win (n := 189) (by decide) F__law_within_right b_int (c_nof.mono (by decide)) (c_dep.mono (by decide)) (c_otl.mono (by decide)) (c_pth.mono (by decide)), B__law_within_right, F__law_within_right.kp, m__law_within_right⟩
  have c_ptr : Cal l.prog w K mg base 190 "_law_paths_right" ["text"] (spPthR P_is_clean P_is_nest_within) := ⟨_, _, ok_pthR (n := 189) (by decide) F__law_paths_right b_len b_range b_set (c_nof.mono (by decide)) (c_pth.mono (by decide)) (c_part.mono (by decide)) (c_atp.mono (by decide)), B__law_paths_right, F__law_paths_right.kp, m__law_paths_right⟩
  exact ok_law (n := 229) ⟨_, List.mem_cons_self⟩ ⟨_, List.mem_cons_of_mem _ (List.mem_cons_self)⟩ ⟨_, List.mem_cons_of_mem _ (List.mem_cons_of_mem _ (List.mem_cons_self))⟩ ⟨_, List.mem_cons_of_mem _ (List.mem_cons_of_mem _ (List.mem_cons_of_mem _ (List.mem_cons_self)))⟩ ⟨_, List.mem_cons_of_mem _ (List.mem_cons_of_mem _ (List.mem_cons_of_mem _ (List.mem_cons_of_mem _ (List.mem_cons_self))))⟩ F_law b_len (c_two.mono (by decide)) (c_win.mono (by decide)) (c_ptr.mono (by decide)) (c_take.mono (by decide)) (c_lg1.mono (by decide)) (c_pot.mono (by decide)) (c_clean.mono (by decide))
theorem walk {l : PySem.W.OpenLaw} {q : Program} {loose : List Str} {XP : (Str → Option Value) → Heap → Prop} {YP : World → Heap → Prop} {d : DefRec} {K : Params → PySem.W.Frag} (hn : l.most = some 63) (hdf : d.params.defaults = []) (hK : ∀ w : World, PySem.W.noTabs (K w.params) = true)
    (hY : ∀ (w : World) (h : Heap), YP w h → (K w.params).In h)
    (F : ∀ (w : World) (mg : Str → Option Value) (fa : Addr) (h : Heap), (K w.params).In h → h.Ns mainGlobals mg → (∀ e ∈ recsOf q, ∃ a o fd c P, mg e.name = some (.ref a) ∧ h.get? a = some o ∧ o.data = .func fd ∧ fd.code = .ref c ∧ h.IsCode c P #[] ∧ h.TableAt c P #[]) → mg d.name = some (.ref fa) →
      ∃ (fd : FuncData) (tabs : List (Addr × Addr)), (∀ (s : Shared) (u : Value), BindsTo s fd ⟨[u], []⟩ [("script", u)]) ∧ (∀ q ∈ tabs, PySem.W.CodeHd h q.1 q.2 ∧ h.get? q.2 = some (PySem.W.tabObj #[])) ∧ ∀ base : Heap, (K w.params).In base → base.Ns mainGlobals mg → BMod mg base → CodesAt tabs base → FnOk l.prog w (K w.params) mg base CX0 230 fa fd ["script"] (spLaw (K w.params) tabs)) :
    PySem.W.WalkO q loose XP YP l.row.toRowW d [] (fun f vs => PySem.call f vs) :=
  walk_tb (n := 63) (k := 230) (x := "script") (CX := fun _ => CX0) (sp := fun w tabs => spLaw (K w.params) tabs) hn (by decide) hdf ⟨rfl, by decide, by decide, rfl⟩ hK hY F (fun _ _ _ a ns hl tb hS => ⟨a, ns, rfl, hS, hl, tb, fun _ tb' => ⟨rfl, tb'⟩⟩) fun _ _ _ _ _ z => z
end G
open PySem PySem.W PyProof.Rows
set_option maxRecDepth 100000 in
set_option maxHeartbeats 0 in
theorem PySem.Challenge.cw_nestmend_k12_whole_nests_put_together_holds : PySem.Challenge.rw_nestmend_k12_whole_nests_put_together.Holds := by
  w_on; o_law; k_head; (case hw => w_witness2)
  k_fill
  refine _root_.G.walk (l := PySem.Challenge.rw_nestmend_k12_whole_nests_put_together) rfl rfl ?hK (fun w h Y => PySem.W.kIn_of Y) ?F
  case hK =>
    intro w
    first | rfl | decide +kernel
  case F =>
    intro w mg fa h KX GX TX hmg
    refine' _root_.G.all_mk KX GX TX hmg ?a0 ?l0 ?c0 ?k0 ?a1 ?l1 ?c1 ?k1 ?a2 ?l2 ?c2 ?k2 ?a3 ?l3 ?c3 ?k3 ?a4 ?l4 ?c4 ?k4 ?a5 ?l5 ?c5 ?k5 ?a6 ?l6 ?c6 ?k6 ?a7 ?l7 ?c7 ?k7 ?a8 ?l8 ?c8 ?k8 ?a9 ?l9 ?c9 ?k9 ?a10 ?l10 ?c10 ?k10 ?a11 ?l11 ?c11 ?k11 ?a12 ?l12 ?c12 ?k12 ?a13 ?l13 ?c13 ?k13 ?a14 ?l14 ?c14 ?k14 ?a15 ?l15 ?c15 ?k15 ?a16 ?l16 ?c16 ?k16 ?a17 ?l17 ?c17 ?k17 ?a18 ?l18 ?c18 ?k18 ?a19 ?l19 ?c19 ?k19 ?a20 ?l20 ?c20 ?k20 ?a21 ?l21 ?c21 ?k21 ?a22 ?l22 ?c22 ?k22 ?a23 ?l23 ?c23 ?k23 ?a24 ?l24 ?c24 ?k24 ?a25 ?l25 ?c25 ?k25 ?a26 ?l26 ?c26 ?k26 ?a27 ?l27 ?c27 ?k27 ?a28 ?l28 ?c28 ?k28 ?a29 ?l29 ?c29 ?k29 ?a30 ?l30 ?c30 ?k30 ?a31 ?l31 ?c31 ?k31 ?a32 ?l32 ?c32 ?k32 ?z_int ?z_list ?z_len ?z_range ?z_enumerate ?z_zip ?z_all ?z_isinstance ?z_str ?z_tuple ?z_bool ?z_max ?z_set ?s_OPENING ?s_CLOSING ?s_LETTERS ?s_DEEPEST ?s_OTHER ?l_OTHER ?p_OTHER ?n_OTHER ?r_is_clean ?r_is_nest_within ?r_spelled ?r_outline ?r_turned_about
    (case a0 => k_is)
    (case l0 => k_is)
    (case c0 => k_is)
    (case k0 => k_is)
    (case a1 => k_is)
    (case l1 => k_is)
    (case c1 => k_is)
    (case k1 => k_is)
    (case a2 => k_is)
    (case l2 => k_is)
    (case c2 => k_is)
    (case k2 => k_is)
    (case a3 => k_is)
    (case l3 => k_is)
    (case c3 => k_is)
    (case k3 => k_is)
    (case a4 => k_is)
    (case l4 => k_is)
    (case c4 => k_is)
    (case k4 => k_is)
    (case a5 => k_is)
    (case l5 => k_is)
    (case c5 => k_is)
    (case k5 => k_is)
    (case a6 => k_is)
    (case l6 => k_is)
    (case c6 => k_is)
    (case k6 => k_is)
    (case a7 => k_is)
    (case l7 => k_is)
    (case c7 => k_is)
    (case k7 => k_is)
    (case a8 => k_is)
    (case l8 => k_is)
    (case c8 => k_is)
    (case k8 => k_is)
    (case a9 => k_is)
    (case l9 => k_is)
    (case c9 => k_is)
    (case k9 => k_is)
    (case a10 => k_is)
    (case l10 => k_is)
    (case c10 => k_is)
    (case k10 => k_is)
    (case a11 => k_is)
    (case l11 => k_is)
    (case c11 => k_is)
    (case k11 => k_is)
    (case a12 => k_is)
    (case l12 => k_is)
    (case c12 => k_is)
    (case k12 => k_is)
    (case a13 => k_is)
    (case l13 => k_is)
    (case c13 => k_is)
    (case k13 => k_is)
    (case a14 => k_is)
    (case l14 => k_is)
    (case c14 => k_is)
    (case k14 => k_is)
    (case a15 => k_is)
    (case l15 => k_is)
    (case c15 => k_is)
    (case k15 => k_is)
    (case a16 => k_is)
    (case l16 => k_is)
    (case c16 => k_is)
    (case k16 => k_is)
    (case a17 => k_is)
    (case l17 => k_is)
    (case c17 => k_is)
    (case k17 => k_is)
    (case a18 => k_is)
    (case l18 => k_is)
    (case c18 => k_is)
    (case k18 => k_is)
    (case a19 => k_is)
    (case l19 => k_is)
    (case c19 => k_is)
    (case k19 => k_is)
    (case a20 => k_is)
    (case l20 => k_is)
    (case c20 => k_is)
    (case k20 => k_is)
    (case a21 => k_is)
    (case l21 => k_is)
    (case c21 => k_is)
    (case k21 => k_is)
    (case a22 => k_is)
    (case l22 => k_is)
    (case c22 => k_is)
    (case k22 => k_is)
    (case a23 => k_is)
    (case l23 => k_is)
    (case c23 => k_is)
    (case k23 => k_is)
    (case a24 => k_is)
    (case l24 => k_is)
    (case c24 => k_is)
    (case k24 => k_is)
    (case a25 => k_is)
    (case l25 => k_is)
    (case c25 => k_is)
    (case k25 => k_is)
    (case a26 => k_is)
    (case l26 => k_is)
    (case c26 => k_is)
    (case k26 => k_is)
    (case a27 => k_is)
    (case l27 => k_is)
    (case c27 => k_is)
    (case k27 => k_is)
    (case a28 => k_is)
    (case l28 => k_is)
    (case c28 => k_is)
    (case k28 => k_is)
    (case a29 => k_is)
    (case l29 => k_is)
    (case c29 => k_is)
    (case k29 => k_is)
    (case a30 => k_is)
    (case l30 => k_is)
    (case c30 => k_is)
    (case k30 => k_is)
    (case a31 => k_is)
    (case l31 => k_is)
    (case c31 => k_is)
    (case k31 => k_is)
    (case a32 => k_is)
    (case l32 => k_is)
    (case c32 => k_is)
    (case k32 => k_is)
    (case z_int => k_is)
    (case z_list => k_is)
    (case z_len => k_is)
    (case z_range => k_is)
    (case z_enumerate => k_is)
    (case z_zip => k_is)
    (case z_all => k_is)
    (case z_isinstance => k_is)
    (case z_str => k_is)
    (case z_tuple => k_is)
    (case z_bool => k_is)
    (case z_max => k_is)
    (case z_set => k_is)
    (case s_OPENING => k_is)
    (case s_CLOSING => k_is)
    (case s_LETTERS => k_is)
    (case s_DEEPEST => k_is)
    (case s_OTHER => k_is)
    (case l_OTHER => k_is)
    (case p_OTHER => exact (.cons ⟨rfl, ⟨_, rfl⟩, ⟨_, rfl⟩⟩ (.cons ⟨rfl, ⟨_, rfl⟩, ⟨_, rfl⟩⟩ (.cons ⟨rfl, ⟨_, rfl⟩, ⟨_, rfl⟩⟩ (.cons ⟨rfl, ⟨_, rfl⟩, ⟨_, rfl⟩⟩ (.cons ⟨rfl, ⟨_, rfl⟩, ⟨_, rfl⟩⟩ (.cons ⟨rfl, ⟨_, rfl⟩, ⟨_, rfl⟩⟩ (.cons ⟨rfl, ⟨_, rfl⟩, ⟨_, rfl⟩⟩ (.cons ⟨rfl, ⟨_, rfl⟩, ⟨_, rfl⟩⟩ .nil)))))))))
    (case n_OTHER => rfl)
    (case r_is_clean => first | rfl | decide +kernel)
    (case r_is_nest_within => first | rfl | decide +kernel)
    (case r_spelled => first | rfl | decide +kernel)
    (case r_outline => first | rfl | decide +kernel)
    (case r_turned_about => first | rfl | decide +kernel)
